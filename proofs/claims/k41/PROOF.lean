import PyProof.Rows.All
import Wide.All
import OpenK.AllK
import Wide.FinOn
import Lean
import PyProof.EqAt
import PyProof.EqKinds
import PyProof.TupleCall
import PyProof.NeData
import PyProof.Rows.StrJoin2
import PyProof.Rows.SortStr
import PyProof.Rows.SortWalk
import KE.KRevIter
import PyProof.Rows.RuleN_isinstance
import PyProof.StrReplace2
import PyProof.StrWalks
import PyProof.Draws
import PyProof.EnumMake
import PyProof.Rows.StrNews2
import PyProof.StrLawsTight
import PyProof.StrLawsReplace
import PyProof.ConsumeWalk
import PyProof.StrLawsFrom
import PyProof.DictValues
import PyProof.Rows.SumAny
import PyProof.SeqI3
import PyProof.NoPylong
import PyProof.Rows.FStrParts
import PyProof.ListRange
import PyProof.ListStr
import PyProof.DictWalks
import PyProof.DictItemsLoops
import PyProof.FactsAll.dict_itemiterator_1
import PyProof.Rows.RegStrFacts
import KE.KDictList
import KE.KDictOf
import PyProof.AttrMissSeq
import PyProof.TupleIter
import PyProof.StrLawsFirst
import PyProof.ReprHeadsTuple
import PyProof.ReprLen
import PyProof.Rows.StrMul
import PySem.Challenge.RW_tagmend_k41_signs_and_strange_tags
set_option Elab.async false
set_option hygiene false
set_option linter.all false
set_option compiler.extract_closed false
set_option genSizeOf false
set_option bootstrap.genMatcherCode false
local macro_rules | `(tactic| omega) => `(tactic| lia)
local macro_rules | `(tactic| walk_at "tk") => `(tactic| first | exact Nat.succ_pos _ | assumption | exact L2.Inv.tk ‹_› | omega)
local macro_rules | `(tactic| z_go) => `(tactic| first | exact Nat.le_of_ble_eq_true rfl | simp)
local macro_rules | `(tactic| walk_at "or") => `(tactic| first | exact .inl rfl | exact .inr rfl)
local macro_rules | `(tactic| walk_at "le") => `(tactic| first | decide | omega)
local macro_rules | `(tactic| walk_at "k") => `(tactic| exact ⟨rfl, rfl, rfl, by decide +kernel, rfl, by decide +kernel, by decide +kernel⟩)
local macro_rules | `(tactic| walk_at "n") => `(tactic| (intro _ _ _ _ zh; repeat (first | (obtain ⟨rfl, _⟩ := zh; rfl) | obtain ⟨_, zh⟩ := zh)))
theorem zAu(a:True:=by rfl)(b:True:=by decide)(c:0<1:=by walk_at "tk")(d:True:=by intro _;rfl)(e:True:=by first|exact .inl rfl|exact .inr rfl|assumption):True:=a
def zAr:Lean.Syntax:=zAu._auto_1
def zAd:Lean.Syntax:=zAu._auto_2
def zAt:Lean.Syntax:=zAu._auto_3
def zAi:Lean.Syntax:=zAu._auto_4
def zAf:Lean.Syntax:=zAu._auto_5
theorem PySem.W.Fast.tw10241380920916040699 : True := ⟨⟩
theorem PySem.W.Fast.tw16603673247005097903 : True := ⟨⟩
theorem PySem.W.Fast.tw15360883920424674253 : True := ⟨⟩
theorem PySem.W.Fast.tw3266935393810925505 : True := ⟨⟩
theorem PySem.W.Fast.tw11150174938518698628 : True := ⟨⟩
theorem PySem.W.Fast.tw147508253658579801 : True := ⟨⟩
theorem PySem.W.Fast.tw8933744175361459214 : True := ⟨⟩
theorem PySem.W.Fast.tw810189664609105449 : True := ⟨⟩
theorem PySem.W.Fast.tw5396807381245019721 : True := ⟨⟩
theorem PySem.W.Fast.tw13854208727750115227 : True := ⟨⟩
theorem PySem.W.Fast.tw5305056398310879471 : True := ⟨⟩
theorem PySem.W.Fast.tw7278618434030360253 : True := ⟨⟩
theorem PySem.W.Fast.tw11794463968126427854 : True := ⟨⟩
theorem PySem.W.Fast.tw7853810724395006338 : True := ⟨⟩
theorem PySem.W.Fast.tw3642598455077214692 : True := ⟨⟩
theorem PySem.W.Fast.tw10976177951062884301 : True := ⟨⟩
theorem PySem.W.Fast.tw8200604157801097220 : True := ⟨⟩
theorem PySem.W.Fast.tw1171797903137336122 : True := ⟨⟩
noncomputable section
abbrev Fg:=PySem.W.Frag
set_option maxRecDepth 100000
namespace L2
open PySem PySem.Spec PyProof.Rows
abbrev Key:=Sum Int Str
def xn6:Key->Value->Bool
 | .inl k,v=>Value.isInt k v
 | .inr x,v=>Value.isStrOf x v
def Ac7(w:World):Key->Int
 | .inl k=>hashInt k
 | .inr x=>hashStr w x
theorem T1:∀ {k:Key} {v:Value},xn6 k v=true->(∃ i t,k=Sum.inl i/\v=Value.int i t)\/(∃ x t,k=Sum.inr x/\v=Value.str x t)
 | .inl i,v,h=>by
   obtain⟨t,e⟩:=Value.isInt_shape (k:=i) (v:=v) h
   exact .inl ⟨i,t,rfl,e⟩
 | .inr x,v,h=>by
   obtain⟨t,e⟩:=Value.isStrOf_shape (x:=x) (v:=v) h
   exact .inr ⟨x,t,rfl,e⟩
theorem yr4(i:Int)(t:Tok):xn6 (.inl i) (.int i t)=true:=by simp[xn6,Value.isInt]
theorem yr5(x:Str)(t:Tok):xn6 (.inr x) (.str x t)=true:=by simp[xn6,Value.isStrOf]
theorem zq8(a b:Int):decide ((Sum.inl a:Key)=Sum.inl b)=(a == b):=by
 by_cases e:a=b
 ·subst e;simp
 ·have h:¬(Sum.inl a:Key)=Sum.inl b:=fun q=>e (Sum.inl.inj q)
  rw[decide_eq_false h]
  exact(beq_eq_false_iff_ne.mpr e).symm
theorem zq9(a b:Str):decide ((Sum.inr a:Key)=Sum.inr b)=decide (a=b):=by
 by_cases e:a=b
 ·subst e;simp
 ·have h:¬(Sum.inr a:Key)=Sum.inr b:=fun q=>e (Sum.inr.inj q)
  rw[decide_eq_false h,decide_eq_false e]
theorem zr0(a:Int)(b:Str):decide ((Sum.inl a:Key)=Sum.inr b)=false:=decide_eq_false (fun q=>nomatch q)
theorem zr1(a:Str)(b:Int):decide ((Sum.inr a:Key)=Sum.inl b)=false:=decide_eq_false (fun q=>nomatch q)
def W4(prog:Program)(w:World):PySem.KeyKind prog w Key where
 is:=xn6
 hash:=Ac7 w
 inj:=fun v a b ha hb=>by
  rcases T1 ha with⟨i,t,rfl,rfl⟩|⟨x,t,rfl,rfl⟩
  ·rcases T1 hb with⟨j,u,rfl,e⟩|⟨y,u,rfl,e⟩
   ·injection e with e1 _;rw[e1]
   ·exact nomatch e
  ·rcases T1 hb with⟨j,u,rfl,e⟩|⟨y,u,rfl,e⟩
   ·exact nomatch e
   ·injection e with e1 _;rw[e1]
 byValue:=fun k v h=>by
  rcases T1 h with⟨i,t,rfl,rfl⟩|⟨x,t,rfl,rfl⟩ <;> rfl
 pyHash:=fun hv h=>by
  rcases T1 hv with⟨i,t,rfl,rfl⟩|⟨x,t,rfl,rfl⟩
  ·exact wpAny_pyHash_int h
  ·exact wpAny_pyHash_str h
 eqBool:=fun hu hv h=>by
  rcases T1 hu with⟨i,t,rfl,rfl⟩|⟨x,t,rfl,rfl⟩
  ·rcases T1 hv with⟨j,u,rfl,rfl⟩|⟨y,u,rfl,rfl⟩
   ·rw[zq8] at h;exact wpAny_eqBool_int h
   ·rw[zr0] at h;exact SeqAt.EqAt.int_str i t y u _ _ _ _ h
  ·rcases T1 hv with⟨j,u,rfl,rfl⟩|⟨y,u,rfl,rfl⟩
   ·rw[zr1] at h;exact SeqAt.EqAt.str_int x t j u _ _ _ _ h
   ·rw[zq9] at h;exact wpAny_eqBool_str h
 «strs»:=fun k x t v h=>by
  rcases T1 h with⟨i,u,rfl,e⟩|⟨y,u,rfl,e⟩
  ·exact nomatch e
  ·injection e with e1 _
   subst e1
   cases v <;> rfl
theorem xx3(prog:Program)(w:World)(i:Int)(t:Tok):(W4 prog w).is (.inl i) (.int i t)=true:=yr4 i t
theorem xx4(prog:Program)(w:World)(x:Str)(t:Tok):(W4 prog w).is (.inr x) (.str x t)=true:=yr5 x t
inductive V where
 | non|bl (b:Bool)|int (i:Int)|str (x:Str)|byt (b:Array UInt8)|flt (b:UInt64)|ref (a:Addr)|ty (n:String)
 deriving DecidableEq
def L4:V->Value->Prop
 | .non,u=>u=Value.none
 | .bl b,u=>u=Value.bool b
 | .int i,u=>∃ t,u=Value.int i t
 | .str x,u=>∃ t,u=Value.str x t
 | .byt b,u=>∃ t,u=Value.bytes b t
 | .flt b,u=>∃ t,u=Value.float b t
 | .ref a,u=>u=Value.ref a
 | .ty n,u=>u=Value.type n
abbrev L1:List V->List Value->Prop:=Paired L4
variable{us:List Value}{xs:List V}
theorem L1.length(r:L1 xs us):xs.length=us.length:=Paired.length r
theorem L1.get:∀ {xs:List V} {us:List Value} {i:Nat} {x:V},L1 xs us->xs[i]?=some x->∃ u,us[i]?=some u/\L4 x u
 | _,_,_,_,.nil,e=>by simp at e
 | _,_,0,_,.cons r _,e=>by simp at e;subst e;exact⟨_,rfl,r⟩
 | _,_,i+1,x,.cons _ t,e=>by
   obtain⟨u,h1,h2⟩:=L1.get (i:=i) (x:=x) t (by simpa using e)
   exact⟨u,by simpa using h1,h2⟩
theorem L1.set{x:V}{u:Value}(r:L4 x u):∀ {xs:List V} {us:List Value} (i:Nat),L1 xs us->L1 (xs.set i x) (us.set i u)
 | _,_,_,.nil=>.nil
 | _,_,0,.cons _ t=>.cons r t
 | _,_,i+1,.cons q t=>.cons q (L1.set r i t)
theorem L1.append:∀ {xs ys:List V} {us ws:List Value},L1 xs us->L1 ys ws->L1 (xs++ys) (us++ws)
 | _,_,_,_,.nil,s=>s
 | _,_,_,_,.cons r t,s=>.cons r (L1.append t s)
theorem L1.take:∀ {xs:List V} {us:List Value} (n:Nat),L1 xs us->L1 (xs.take n) (us.take n)
 | _,_,0,_=>.nil
 | _,_,_+1,.nil=>.nil
 | _,_,n+1,.cons r t=>.cons r (L1.take n t)
theorem L1.drop:∀ {xs:List V} {us:List Value} (n:Nat),L1 xs us->L1 (xs.drop n) (us.drop n)
 | _,_,0,r=>r
 | _,_,_+1,.nil=>.nil
 | _,_,n+1,.cons _ t=>L1.drop n t
def wk7:Option V->Option Value->Prop
 | some v,some u=>L4 v u
 | none,none=>True
 | _,_=>False
def KV{κ:Type}:List (κ×V)->List (κ×Value)->Prop:=Paired fun(p:κ×V) (q:κ×Value)=>p.1=q.1/\L4 p.2 q.2
def kV:Key->V
 | .inl i=>.int i
 | .inr x=>.str x
set_option genInjectivity false in
inductive HO where
 /-- a list -/
 | lst (xs:List V)
 /-- a tuple (never changes) -/
 | tup (xs:List V)
 /-- a dict whose keys are ints and texts;one whose keys are tuples of ints and texts (the empty one is both) -/
 | dK (kvs:List (Key×V))|dT (kvs:List (List Key×V))
 /-- a set of ints: its members,its size -/
 | set (S:Int->Bool) (n:Nat)
 /-- an instance of the class at C,its dict at dx,its attributes -/
 | ins (C dx:Addr) (fs:List (Str×V))
 /-- the dict of the instance at x -/
 | own (x:Addr)
 /-- the dict of an exception -/
 | xd (fs:List (Str×V))
 /-- a bound method,f of x -/
 | met (f x:Addr)
 /-- a range object lo,lo+1,.. below hi -/
 | rng (lo hi:Int)
 /-- a thing that is known to the object (the script;a dict while a loop walks it): read,never written while it is so -/
 | frz (o:Obj) (u:HO)
 /-- a code object's table -/
 | tbl (ps:Array Value)
 /-- any other thing,by what is true of its one object (a def of one's own: SetO a S n:=HO.ext fun h=>..) -/
 | ext (φ:Heap->Prop)
abbrev Hp:=Addr->Option HO
def upd(H:Hp)(a:Addr)(o:HO):Hp:=fun b=>if b=a then some o else H b
variable{H:Hp}{a:Addr}
theorem A6{o:HO}:upd H a o a=some o:=by unfold upd;rw[if_pos rfl]
variable{b:Addr}
theorem B7{o:HO}(h:b≠a):upd H a o b=H b:=by unfold upd;rw[if_neg h]
theorem zx6{o u:HO}(h:H a=some o)(h':H b=some u)(d:o≠u):a≠b:=by
 intro e;subst e;rw[h] at h';exact d (Option.some.inj h')
theorem W5{o:HO}(h:H a=some o)(h':H b=none):a≠b:=by
 intro e;subst e;rw[h] at h';cases h'
section
variable(P:Program)(w:World)
def V1(H:Hp)(h:Heap)(a:Addr):HO->Prop
 | .lst xs=>xs.length<=sizeLine/\∃ (its:List Value) (n:Nat),L1 xs its/\h.get? a=some {cls:=.type "list",data:=.seq its.toArray n}
 | .tup xs=>xs.length<=sizeLine/\∃ its:List Value,L1 xs its/\IsTup h a its.toArray
 | .dK kvs=>kvs.length<=sizeLine/\(a == sysModules)=false/\∃ vs,KV kvs vs/\h.DictOf (W4 P w) a vs
 | .dT kvs=>kvs.length<=sizeLine/\(a == sysModules)=false/\∃ xs:List (List Key×Addr×Value),
  Paired (fun(p:List Key×V) (q:List Key×Addr×Value)=>p.1=q.1/\H q.2.1=some (.tup (p.1.map kV))/\L4 p.2 q.2.2) kvs xs /\
  ∃ o es ep,h.get? a=some o/\o.ExactDict/\o.data=.dict es ep/\es.toList=xs.map (entryOfKey (tupleKind (W4 P w)))/\(xs.map (·.1)).Nodup
 | .set S n=>h.SetOf (intKind P w) a S n
 | .ins C dx fs=>H dx=some (.own a)/\fs.length<=1000/\dx≠a/\h.get? a=some (PySem.W.instObj C dx) /\
  ∃ mA,h.Ns1 dx mA/\(∀ f,wk7 (fs.lookup f) (mA f))/\PySem.Within mA (fs.map (·.1))
 | .own _=>∃ o,h.get? a=some o
 | .xd fs=>∃ mA,h.Ns1 a mA/\∀ f,wk7 (fs.lookup f) (mA f)
 | .rng lo hi=>∃ t u v,h.get? a=some {cls:=.type "range",data:=.fields #[.int lo t,.int hi u,.int 1 v]}
 | .frz o u=>h.get? a=some o/\V1 H h a u
 | .tbl ps=>h.get? a=some {cls:=.none,data:=.fields ps}
 | .met f x=>h.get? a=some (PySem.W.methodObj (.ref f) (.ref x))
 | .ext φ=>φ h/\(∃ o,h.get? a=some o)/\∀ h1 h2:Heap,φ h1->(∀ o,h1.get? a=some o->h2.get? a=some o)->φ h2
def HOk(H:Hp)(h:Heap):Prop:=∀ a o,H a=some o->V1 P w H h a o
end
variable{H':Hp}{P:Program}{h h':Heap}{w:World}
section
variable{o:HO}
theorem V1.lt(x:V1 P w H h a o):a<h.objs.size:=by
 cases o with
 | lst xs=>obtain⟨_,_,_,_,e⟩:=x;exact Heap.lt_size e
 | tup xs=>obtain⟨_,_,_,p⟩:=x;exact p.lt
 | dK kvs=>obtain⟨_,_,_,_,o,_,_,e,_⟩:=x;exact Heap.lt_size e
 | dT kvs=>obtain⟨_,_,_,_,o,_,_,e,_⟩:=x;exact Heap.lt_size e
 | set S n=>obtain⟨o,_,_,_,e,_⟩:=x;exact Heap.lt_size e
 | ins C dx fs=>obtain⟨_,_,_,e,_⟩:=x;exact Heap.lt_size e
 | own y=>obtain⟨_,e⟩:=x;exact Heap.lt_size e
 | xd fs=>obtain⟨_,⟨_,_,_,e,_⟩,_⟩:=x;exact Heap.lt_size e
 | rng lo hi=>obtain⟨_,_,_,e⟩:=x;exact Heap.lt_size e
 | frz ob u=>obtain⟨e,_⟩:=x;exact Heap.lt_size e
 | tbl ps=>exact Heap.lt_size (show h.get? a=some _ from x)
 | met f y=>exact Heap.lt_size (show h.get? a=some _ from x)
 | ext φ=>obtain⟨_,⟨_,e⟩,_⟩:=x;exact Heap.lt_size e
theorem Paired.mapP{α β:Type}{F G:α->β->Prop}:∀ {l₁:List α} {l₂:List β},Paired F l₁ l₂->(∀ a b,F a b->G a b)->Paired G l₁ l₂
 | _,_,.nil,_=>.nil
 | _,_,.cons r t,f=>.cons (f _ _ r) (Paired.mapP t f)
theorem V1.stay(x:V1 P w H h a o)(k:∀ b u,(b=a\/H b=some (.own a))->h.get? b=some u->h'.get? b=some u)(ho:∀ b,H b=some (.own a)->H' b=some (.own a))(ht:∀ b xs,H b=some (.tup xs)->H' b=some (.tup xs)):V1 P w H' h' a o:=by
 induction o with
 | lst xs=>obtain⟨z,its,n,r,e⟩:=x;exact⟨z,its,n,r,k _ _ (.inl rfl) e⟩
 | tup xs=>obtain⟨z,its,r,ob,e,c⟩:=x;exact⟨z,its,r,ob,k _ _ (.inl rfl) e,c⟩
 | dK kvs=>obtain⟨z,y,vs,r,ob,es,ep,e,c⟩:=x;exact⟨z,y,vs,r,ob,es,ep,k _ _ (.inl rfl) e,c⟩
 | dT kvs =>
   obtain⟨z,y,xs,r,ob,es,ep,e,c⟩:=x
   exact⟨z,y,xs,Paired.mapP r fun p q z=>⟨z.1,ht _ _ z.2.1,z.2.2⟩,ob,es,ep,k _ _ (.inl rfl) e,c⟩
 | set S n=>obtain⟨ob,es,ep,t,e,c⟩:=x;exact⟨ob,es,ep,t,k _ _ (.inl rfl) e,c⟩
 | ins C dx fs =>
   obtain⟨d,z,ne,e,mA,⟨od,es,ep,e2,c⟩,r⟩:=x
   exact⟨ho _ d,z,ne,k _ _ (.inl rfl) e,mA,⟨od,es,ep,k _ _ (.inr d) e2,c⟩,r⟩
 | own y=>obtain⟨ob,e⟩:=x;exact⟨ob,k _ _ (.inl rfl) e⟩
 | xd fs=>obtain⟨mA,⟨od,es,ep,e,c⟩,r⟩:=x;exact⟨mA,⟨od,es,ep,k _ _ (.inl rfl) e,c⟩,r⟩
 | rng lo hi=>obtain⟨t,u,v,e⟩:=x;exact⟨t,u,v,k _ _ (.inl rfl) e⟩
 | frz ob u ih=>obtain⟨e,q⟩:=x;exact⟨k _ _ (.inl rfl) e,ih q⟩
 | tbl ps =>
   have e:h.get? a=some {cls:=.none,data:=.fields ps}:=x
   show h'.get? a=some {cls:=.none,data:=.fields ps}
   exact k a _ (.inl rfl) e
 | met f y =>
   have e:h.get? a=some (PySem.W.methodObj (.ref f) (.ref y)):=x
   show h'.get? a=some (PySem.W.methodObj (.ref f) (.ref y))
   exact k a _ (.inl rfl) e
 | ext φ=>obtain⟨p,⟨o,e⟩,st⟩:=x;exact⟨st _ _ p fun o q=>k _ _ (.inl rfl) q,⟨o,k _ _ (.inl rfl) e⟩,st⟩
theorem HOk.lt(x:HOk P w H h)(e:H a=some o):a<h.objs.size:=(x a o e).lt
theorem HOk.fresh(x:HOk P w H h)(e:h.objs.size<=a):H a=none:=by
 cases q:H a with
 | none=>rfl
 | some u=>exact absurd (Nat.lt_of_lt_of_le (x.lt q) e) (Nat.lt_irrefl _)
theorem HOk.kept(x:HOk P w H h)(k:∀ b u,h.get? b=some u->h'.get? b=some u):HOk P w H h':=fun a o e =>
 (x a o e).stay (fun b u _ q=>k b u q) (fun _ q=>q) fun _ _ q=>q
theorem HOk.laid(x:HOk P w H h)(k:∀ b u,h.get? b=some u->h'.get? b=some u)(hp:h.objs.size<=a)(new:V1 P w (upd H a o) h' a o):HOk P w (upd H a o) h':=fun b u e=>by
 have hn:=x.fresh hp
 by_cases hb:b=a
 ·subst hb;rw[A6] at e;cases e;exact new
 ·rw[B7 hb] at e
  exact(x b u e).stay (fun c v _ q=>k c v q) (fun c q=>by rw[B7 (W5 q hn)];exact q) fun c xs q=>by rw[B7 (W5 q hn)];exact q
end
def Rd(H:Hp)(a:Addr)(u:HO):Prop:=H a=some u\/∃ o,H a=some (.frz o u)
theorem Rd.ok{u:HO}(r:Rd H a u)(x:HOk P w H h):V1 P w H h a u:=by
 rcases r with r|⟨o,r⟩
 ·exact x a u r
 ·obtain⟨_,q⟩:=x a _ r
  exact q
def Mut:Option HO->Prop
 | some (.lst _)=>True
 | some (.dK _)=>True
 | some (.dT _)=>True
 | some (.set _ _)=>True
 | some (.ins _ _ _)=>True
 | some (.ext _)=>True
 | some (.xd _)=>True
 | _=>False
section
variable{x e:Addr}{o':HO}
theorem HOk.write(ok:HOk P w H h)(mu:Mut (H x))(he:e=x\/H e=some (.own x))(k:∀ b u,b≠e->h.get? b=some u->h'.get? b=some u)(heo:∃ u,h'.get? e=some u)(new:V1 P w (upd H x o') h' x o'):HOk P w (upd H x o') h':=fun b u q=>by
 have nown:∀ c y,H c=some (.own y)->c≠x:=fun c y r z=>by subst z;rw[r] at mu;exact mu
 have ntup:∀ c xs,H c=some (.tup xs)->c≠x:=fun c xs r z=>by subst z;rw[r] at mu;exact mu
 by_cases hb:b=x
 ·subst hb;rw[A6] at q;cases q;exact new
 ·rw[B7 hb] at q
  by_cases hbe:b=e
  ·have q':H b=some (.own x):=by
    rcases he with z|z
    ·exact absurd (hbe.trans z) hb
    ·rw[hbe];exact z
   rw[q] at q';cases q'
   obtain⟨v,hv⟩:=heo
   exact⟨v,by rw[hbe];exact hv⟩
  ·refine(ok b u q).stay (fun c v hc r=>k c v ?_ r) (fun c r=>by rw[B7 (nown c b r)];exact r) fun c xs r=>by rw[B7 (ntup c xs r)];exact r
   rcases hc with rfl|hc
   ·exact hbe
   ·rintro rfl
    rcases he with z|z
    ·exact nown c b hc z
    ·rw[hc] at z;cases z;exact hb rfl
end
structure Un(fs ex:List Addr)(H H':Hp)(h h':Heap):Prop where
 keep:∀ b o,h.get? b=some o->H b=none->b∉fs->b∉ex->h'.get? b=some o
 slot:∀ b o,h.get? b=some o->H b=none->b∈fs->b∉ex->∃ sl,h'.get? b=some {o with slots:=sl}
 free:∀ b o,h.get? b=some o->H b=none->b∉ex->H' b=none
 there:∀ b o,h.get? b=some o->b∉ex->∃ o',h'.get? b=some o'
 tups:∀ b xs,H b=some (.tup xs)->H' b=some (.tup xs)
 frzs:∀ b o u,H b=some (.frz o u)->H' b=some (.frz o u)
 tbls:∀ b ps,H b=some (.tbl ps)->∃ more,H' b=some (.tbl (ps++more))
variable{H1 H2:Hp}
section
variable{fs fs' ex ex':List Addr}{h1 h2:Heap}{x e:Addr}{o:HO}
theorem Un.any(u:Un fs ex H H1 h h1){ob:Obj}(q:h.get? b=some ob)(n:H b=none)(hx:b∉ex):∃ sl,h1.get? b=some {ob with slots:=sl}:=by
 by_cases hb:b∈fs
 ·exact u.slot b ob q n hb hx
 ·exact⟨ob.slots,u.keep b ob q n hb hx⟩
theorem Un.kept(k:∀ b u,h.get? b=some u->h'.get? b=some u):Un fs ex H H h h' :=
 ⟨fun b ob q _ _ _=>k b ob q,fun b ob q _ _ _=>⟨ob.slots,k b ob q⟩,fun _ _ _ n _=>n,fun b ob q _=>⟨ob,k b ob q⟩,fun _ _ q=>q,fun _ _ _ q=>q,fun _ ps q=>⟨#[],by rw[q];simp⟩⟩
theorem Un.refl:Un fs ex H H h h:=Un.kept fun _ _ q=>q
theorem Un.laid(k:∀ b u,h.get? b=some u->h'.get? b=some u)(hp:h.objs.size<=a)(hn:H a=none):Un fs ex H (upd H a o) h h' where
 keep:=fun b u q _ _ _=>k b u q
 slot:=fun b u q _ _ _=>⟨u.slots,k b u q⟩
 free:=fun b u q n _=>by rw[B7 (Nat.ne_of_lt (Nat.lt_of_lt_of_le (Heap.lt_size q) hp))];exact n
 there:=fun b u q _=>⟨u,k b u q⟩
 tups:=fun b xs q=>by rw[B7 (W5 q hn)];exact q
 frzs:=fun b u xs q=>by rw[B7 (W5 q hn)];exact q
 tbls:=fun b ps q=>⟨#[],by rw[B7 (W5 q hn),q];simp⟩
theorem Un.write(mu:Mut (H x))(he:e=x\/H e=some (.own x))(k:∀ b u,b≠e->h.get? b=some u->h'.get? b=some u)(heo:∃ u,h'.get? e=some u):Un fs ex H (upd H x o) h h':=by
 have hx:∀ b,H b=none->b≠x:=fun b n z=>by subst z;rw[n] at mu;exact mu
 have hb:∀ b,H b=none->b≠e:=fun b n z=>by
  subst z
  rcases he with r|r
  ·exact hx b n r
  ·rw[n] at r;cases r
 have hm:∀ b u,H b=some u->¬Mut (some u)->b≠x:=fun b u q nm z=>by subst z;rw[q] at mu;exact nm mu
 refine⟨fun b u q n _ _=>k b u (hb b n) q,fun b u q n _ _=>⟨u.slots,k b u (hb b n) q⟩,fun b u q n _=>by rw[B7 (hx b n)];exact n,fun b u q _=>?_,
  fun b xs q=>by rw[B7 (hm b _ q fun z=>z)];exact q,fun b u xs q=>by rw[B7 (hm b _ q fun z=>z)];exact q,fun b ps q=>⟨#[],by rw[B7 (hm b _ q fun z=>z),q];simp⟩⟩
 by_cases hbe:b=e
 ·subst hbe;exact heo
 ·exact⟨u,k b u hbe q⟩
end
def trk(h:Heap)(H:Hp):List Addr:=(List.range h.objs.size).filter fun a=>(H a).isSome
def xq9(h:Heap)(H:Hp):Heap:=PySem.W.hideAll h (trk h H)
theorem yr6(h:Heap)(H:Hp):(xq9 h H).objs.size=h.objs.size:=PySem.W.hideAll_size _ _
theorem yw5{o:Obj}(e:h.get? b=some o)(n:H b=none):(xq9 h H).get? b=some o :=
 PySem.W.hideAll_get _ e fun hm=>by
  have q:(H b).isSome=true:=(List.mem_filter.mp hm).2
  rw[n] at q;simp at q
theorem zh6{o:Obj}(e:(xq9 h H).get? b=some o):h.get? b=some o/\H b=none:=by
 have e':h.get? b=some o:=PySem.W.of_hideAll (trk h H) e
 refine⟨e',?_⟩
 cases q:H b with
 | none=>rfl
 | some x =>
   have hm:b∈trk h H:=List.mem_filter.mpr ⟨List.mem_range.mpr (Heap.lt_size e'),by simp[q]⟩
   have z:(xq9 h H).get? b=none:=PySem.W.hideAll_none (trk h H) hm
   rw[z] at e;cases e
structure Mod(K:Fg)(mg:Str->Option Value)(base:Heap):Prop where
 kin:K.In base
 glob:base.Ns mainGlobals mg
 blt:∃ mb,base.Ns builtinsNs mb/\∀ x:Str,x ≠ "__name__"->mb x=bootBuiltins x
 nolimit:base.NoLimit
set_option genInjectivity false in
structure Cx where
 prog:Program
 w:World
 K:Fg
 mg:Str->Option Value
 base:Heap
 A:Around
 N:List Str
 s₀:Shared
 H₀:Hp
 env:Env
 outer:List Env
 stack:List Env
 ex:List Addr
 fn:Str->Bool
 calm:Bool
 pn:List (Addr×Obj)
 xe:Value->Shared->Prop
def frs(l:List Env):List Addr:=l.filterMap (·.frame)
abbrev Cx.fs(X:Cx):List Addr:=frs X.outer
def Vis(sc:Scope)(x:Str):Prop:=sc.names.lookup x=some .local\/sc.names.lookup x=some .cell\/sc.names.lookup x=some .free
def Loc(sc:Scope)(x:Str):Prop:=sc.names.lookup x=some .local\/sc.names.lookup x=some .cell
def Ac8(env:Env)(h:Heap)(m:Str->Option Value)(x:Str)(u:Value):Prop :=
 (env.kindOf x=some .local/\m x=some u)\/((env.kindOf x=some .cell\/env.kindOf x=some .free)/\∃ c,env.cells.lookup x=some c/\h.IsCell c (some u))
structure Cx.Ok(X:Cx):Prop where
 mod:Mod X.K X.mg X.base
 kind:X.env.scope.kind=.function
 glob:X.env.globals=mainGlobals
 blt:X.env.builtins=builtinsNs
 above:X.s₀.heap.objs.size<=X.env.locals
 inj:∀ x y c,X.env.cells.lookup x=some c->X.env.cells.lookup y=some c->x=y
 has:∀ x,(X.env.kindOf x=some .cell\/X.env.kindOf x=some .free)->∃ c,X.env.cells.lookup x=some c
 cab:∀ x c,X.fn x=true->X.env.cells.lookup x=some c->X.s₀.heap.objs.size<=c
 hd:X.calm=true->X.A.handled=none
 frames:X.A.frames=some X.stack
 stk:X.stack=X.outer\/(X.stack=X.env::X.outer/\X.env.frame=some X.env.locals)
 exf:∀ b∈X.ex,b≠X.env.locals/\∀ x c,X.env.cells.lookup x=some c->c≠b
 bs:∀ b o,X.base.get? b=some o->X.s₀.heap.get? b=some o/\X.H₀ b=none
 bsz:X.base.objs.size<=X.s₀.heap.objs.size
 noex:∀ b o,X.base.get? b=some o->b∉X.ex
 exfs:∀ b∈X.ex,b∉X.fs
 funs:X.s₀.heap.FunFrames X.base X.outer
 frf:∀ b∈X.fs,X.H₀ b=none
structure Inv(X:Cx)(pins:List (Addr×Obj))(σ:List (Option V))(H:Hp)(s:Shared):Prop where
 ok:X.Ok
 os:s.os=X.s₀.os
 bare:AllBare s.gens
 base:Un X.fs X.ex X.H₀ H X.s₀.heap s.heap
 loc:∃ m,s.heap.Ns X.env.locals m/\∀ (i:Nat) (x:Str) (v:V),X.N[i]?=some x->σ[i]?=some (some v)->Vis X.env.scope x->∃ u,L4 v u/\Ac8 X.env s.heap m x u
 cell:∀ x c,X.env.cells.lookup x=some c->∃ v,s.heap.IsCell c v
 free:H X.env.locals=none
 freeC:∀ x c,X.env.cells.lookup x=some c->H c=none
 pin:∀ p∈X.pn++pins,s.heap.get? p.1=some p.2/\H p.1=none/\p.1≠X.env.locals/\p.1∉X.fs/\∀ v,p.2.data≠.cell v
 hok:HOk X.prog X.w H s.heap
 len:σ.length=X.N.length
 tk:0<s.toks
variable{X:Cx}{pins:List (Addr×Obj)}{s:Shared}{d':Drawn}{g':Array GenState}{t':Nat}{it:Addr}{N:List Str}{x:Str}{A:Around}{E:Value->Shared->Prop}{M:Model}{u:Value}{v:V}
section
variable{σ:List (Option V)}
theorem Cx.Ok.nofr(ok:X.Ok){o:Obj}(e:X.base.get? b=some o):b∉X.fs:=fun hb=>by
 have:=(ok.funs.mem hb).1
 rw[e] at this;cases this
theorem Inv.bs(I:Inv X pins σ H s):∀ b o,X.base.get? b=some o->s.heap.get? b=some o/\H b=none:=fun b o e =>
 ⟨I.base.keep b o (I.ok.bs b o e).1 (I.ok.bs b o e).2 (I.ok.nofr e) (I.ok.noex b o e),I.base.free b o (I.ok.bs b o e).1 (I.ok.bs b o e).2 (I.ok.noex b o e)⟩
theorem Inv.bk(I:Inv X pins σ H s):∀ b o,X.base.get? b=some o->s.heap.get? b=some o:=fun b o e=>(I.bs b o e).1
theorem Inv.mod(I:Inv X pins σ H s):Mod X.K X.mg X.base:=I.ok.mod
theorem Inv.kIn(I:Inv X pins σ H s):X.K.In s.heap:=I.ok.mod.kin.keeps I.bk
theorem Inv.lt(I:Inv X pins σ H s):X.env.locals<s.heap.objs.size:=let ⟨_,hn,_⟩:=I.loc;hn.lt
theorem Inv.sz(I:Inv X pins σ H s):X.s₀.heap.objs.size<=s.heap.objs.size:=Nat.le_trans I.ok.above (Nat.le_of_lt I.lt)
theorem Inv.nofs(I:Inv X pins σ H s)(h:s.heap.objs.size<=a):a∉X.fs:=fun hb=>by
 obtain⟨_,o,ho,_⟩:=I.ok.funs.mem hb
 exact absurd (Nat.lt_of_lt_of_le (Heap.lt_size ho) (Nat.le_trans I.sz h)) (Nat.lt_irrefl _)
theorem Inv.cne(I:Inv X pins σ H s):∀ x c,X.env.cells.lookup x=some c->c≠X.env.locals:=fun x c e z=>by
 obtain⟨v,o,ho,hd⟩:=I.cell x c e
 obtain⟨m,⟨o',es,ep,ho',hd',_⟩,_⟩:=I.loc
 rw[z,ho'] at ho;cases ho;rw[hd'] at hd;cases hd
theorem Inv.funs(I:Inv X pins σ H s):s.heap.FunFrames X.base X.outer:=by
 have all:∀ (l:List Env),(∀ b∈frs l,b∈X.fs)->X.s₀.heap.FunFrames X.base l->s.heap.FunFrames X.base l:=by
  intro l
  induction l with
  | nil=>intro _ _;trivial
  | cons env r ih =>
    intro hs hl
    obtain⟨hk,⟨L,o,hf,hn,ho,hd⟩,hr⟩:=hl
    have hL:L∈X.fs:=hs L (by unfold frs;rw[List.filterMap_cons,hf];exact List.mem_cons_self)
    obtain⟨sl,e⟩:=I.base.slot L o ho (I.ok.frf L hL) hL fun z=>I.ok.exfs L z hL
    exact⟨hk,⟨L,_,hf,hn,e,hd⟩,ih (fun b hb=>hs b (by unfold frs;rw[List.filterMap_cons,hf];exact List.mem_cons_of_mem _ hb)) hr⟩
 exact all X.outer (fun _ hb=>hb) I.ok.funs
theorem Inv.stack(I:Inv X pins σ H s):s.heap.FunFrames X.base X.stack:=by
 rcases I.ok.stk with e|⟨e,hf⟩
 ·rw[e];exact I.funs
 ·rw[e]
  obtain⟨m,hn,_⟩:=I.loc
  refine .cons (by rw[I.ok.kind];decide) hf hn ?_ I.funs
  exact Heap.get?_none_of_le (Nat.le_trans I.ok.bsz I.ok.above)
theorem Inv.stkSub(I:Inv X pins σ H s):∀ b∈frs X.stack,b∈X.env.locals::X.fs:=fun b hb=>by
 rcases I.ok.stk with e|⟨e,hf⟩
 ·rw[e] at hb;exact List.mem_cons_of_mem _ hb
 ·rw[e] at hb
  unfold frs at hb
  rw[List.filterMap_cons,hf] at hb
  exact hb
theorem Inv.stkFree(I:Inv X pins σ H s):∀ b∈frs X.stack,H b=none:=fun b hb=>by
 rcases List.mem_cons.mp (I.stkSub b hb) with e|hb
 ·rw[e];exact I.free
 ·obtain⟨_,o,ho,_⟩:=I.ok.funs.mem hb
  exact I.base.free b o ho (I.ok.frf b hb) fun z=>I.ok.exfs b z hb
theorem Inv.step{ch:List Addr}(I:Inv X pins σ H s)(hch:∀ b∈ch,(b∈X.ex\/X.s₀.heap.objs.size<=b)/\b≠X.env.locals/\(∀ x c,X.env.cells.lookup x=some c->c≠b)/\∀ p∈X.pn++pins,p.1≠b)(keep:∀ b o,b≠X.env.locals->b∉X.fs->b∉ch->s.heap.get? b=some o->H b=none->h'.get? b=some o)(slot:∀ b o,b≠X.env.locals->b∈X.fs->b∉ch->s.heap.get? b=some o->H b=none->∃ sl,h'.get? b=some {o with slots:=sl})(free:∀ b o,b∉ch->s.heap.get? b=some o->H b=none->H' b=none)(there:∀ b o,b∉ch->s.heap.get? b=some o->∃ o',h'.get? b=some o')(tups:∀ b xs,H b=some (.tup xs)->H' b=some (.tup xs))(frzs:∀ b o u,H b=some (.frz o u)->H' b=some (.frz o u))(tbls:∀ b ps,H b=some (.tbl ps)->∃ more,H' b=some (.tbl (ps++more)))(ns:∀ m,s.heap.Ns X.env.locals m->h'.Ns X.env.locals m)(hok:HOk X.prog X.w H' h')(hg:AllBare g')(ht:autoParam (0<t') zAt) :
 Inv X pins σ H' {s with heap:=h',gens:=g',drawn:=d',toks:=t'}:=by
 have neL:∀ b o,X.s₀.heap.get? b=some o->b≠X.env.locals:=fun b o e=>Nat.ne_of_lt (Nat.lt_of_lt_of_le (Heap.lt_size e) I.ok.above)
 have neC:∀ b o,X.s₀.heap.get? b=some o->b∉X.ex->b∉ch:=fun b o e hx hb=>by
  rcases(hch b hb).1 with z|z
  ·exact hx z
  ·exact absurd (Nat.lt_of_lt_of_le (Heap.lt_size e) z) (Nat.lt_irrefl _)
 have cellK:∀ x c,X.env.cells.lookup x=some c->∀ v,s.heap.IsCell c v->h'.IsCell c v:=fun x c e v ⟨o,ho,hd⟩=>by
  have nch:c∉ch:=fun z=>(hch c z).2.2.1 x c e rfl
  by_cases hc:c∈X.fs
  ·obtain⟨sl,q⟩:=slot c o (I.cne x c e) hc nch ho (I.freeC x c e)
   exact⟨_,q,hd⟩
  ·exact⟨o,keep c o (I.cne x c e) hc nch ho (I.freeC x c e),hd⟩
 refine⟨I.ok,I.os,hg,⟨fun b o e n hb hx=>?_,fun b o e n hb hx=>?_,fun b o e n hx=>?_,fun b o e hx=>?_,fun b xs e=>tups b xs (I.base.tups b xs e),fun b o xs e=>frzs b o xs (I.base.frzs b o xs e),fun b ps e=>?_⟩,?_,fun x c e=>?_,?_,fun x c e=>?_,fun p hp=>?_,hok,I.len,ht⟩
 ·exact keep b o (neL b o e) hb (neC b o e hx) (I.base.keep b o e n hb hx) (I.base.free b o e n hx)
 ·obtain⟨sl,e1⟩:=I.base.slot b o e n hb hx
  obtain⟨sl',e2⟩:=slot b _ (neL b o e) hb (neC b o e hx) e1 (I.base.free b o e n hx)
  exact⟨sl',e2⟩
 ·obtain⟨o',e1⟩:=I.base.there b o e hx
  exact free b o' (neC b o e hx) e1 (I.base.free b o e n hx)
 ·obtain⟨o',e1⟩:=I.base.there b o e hx
  exact there b o' (neC b o e hx) e1
 ·obtain⟨m1,e1⟩:=I.base.tbls b ps e
  obtain⟨m2,e2⟩:=tbls b _ e1
  exact⟨m1++m2,by rw[e2,Array.append_assoc]⟩
 ·obtain⟨m,hn,hl⟩:=I.loc
  refine⟨m,ns m hn,fun i x v e1 e2 e3=>?_⟩
  obtain⟨u,r,l⟩:=hl i x v e1 e2 e3
  refine⟨u,r,?_⟩
  rcases l with l|⟨k,c,e,z⟩
  ·exact .inl l
  ·exact .inr ⟨k,c,e,cellK x c e _ z⟩
 ·obtain⟨v,z⟩:=I.cell x c e
  exact⟨v,cellK x c e v z⟩
 ·obtain⟨m,⟨o,_,_,ho,_⟩,_⟩:=I.loc
  exact free _ o (fun z=>(hch _ z).2.1 rfl) ho I.free
 ·obtain⟨v,o,ho,hd⟩:=I.cell x c e
  exact free c o (fun z=>(hch c z).2.2.1 x c e rfl) ho (I.freeC x c e)
 ·obtain⟨e,n,ne,nf,d⟩:=I.pin p hp
  have nch:p.1∉ch:=fun z=>(hch p.1 z).2.2.2 p hp rfl
  exact⟨keep p.1 p.2 ne nf nch e n,free p.1 p.2 nch e n,ne,nf,d⟩
theorem Inv.un(I:Inv X pins σ H s)(u:Un X.fs [] H H' s.heap h')(hok:HOk X.prog X.w H' h')(ht:autoParam (0<t') zAt):Inv X pins σ H' {s with heap:=h',toks:=t'}:=by
 obtain⟨m,⟨o,es,ep,ho,r⟩,_⟩:=id I.loc
 obtain⟨sl,hL⟩:=u.any ho I.free (by simp)
 exact I.step (g':=s.gens) (d':=s.drawn) (ch:=[]) (fun _ z=>nomatch z) (fun b o _ hb _ e n=>u.keep b o e n hb (by simp)) (fun b o _ hb _ e n=>u.slot b o e n hb (by simp)) (fun b o _ e n=>u.free b o e n (by simp)) (fun b o _ e=>u.there b o e (by simp)) u.tups u.frzs u.tbls (fun m' hm=>by
  obtain⟨o',es',ep',ho',r'⟩:=hm
  rw[ho] at ho';cases ho'
  exact⟨_,es',ep',hL,r'⟩) hok I.bare
theorem Inv.call{ch:List Addr}(I:Inv X pins σ H s)(u:Un (frs X.stack) ch H H' s.heap h')(hok:HOk X.prog X.w H' h')(hg:AllBare g')(hch:∀ b∈ch,(b∈X.ex\/X.s₀.heap.objs.size<=b)/\b≠X.env.locals/\(∀ x c,X.env.cells.lookup x=some c->c≠b)/\∀ p∈X.pn++pins,p.1≠b)(ht:autoParam (0<t') zAt) :
 Inv X pins σ H' {s with heap:=h',gens:=g',drawn:=d',toks:=t'}:=by
 obtain⟨m,⟨o,es,ep,ho,r⟩,_⟩:=id I.loc
 obtain⟨sl,hL⟩:=u.any ho I.free fun z=>(hch _ z).2.1 rfl
 exact I.step (ch:=ch) hch (fun b o hL hb hc e n=>u.keep b o e n (fun z=>(List.mem_cons.mp (I.stkSub b z)).elim hL hb) hc) (fun b o _ _ hc e n=>u.any e n hc) (fun b o hc e n=>u.free b o e n hc) (fun b o hc e=>u.there b o e hc) u.tups u.frzs u.tbls (fun m' hm=>by
  obtain⟨o',es',ep',ho',r'⟩:=hm
  rw[ho] at ho';cases ho'
  exact⟨_,es',ep',hL,r'⟩) hok hg
theorem Inv.turned(I:Inv X pins σ H s)(k:∀ b o,b≠it->s.heap.get? b=some o->h'.get? b=some o)(hn:H it=none)(hL:it≠X.env.locals)(h1:it∈X.ex\/X.s₀.heap.objs.size<=it)(h2:∀ x c,X.env.cells.lookup x=some c->c≠it)(h3:∀ p∈X.pn++pins,p.1≠it)(ht:autoParam (0<t') zAt):Inv X pins σ H {s with heap:=h',toks:=t'}:=by
 have nit:∀ b u,H b=some u->b≠it:=fun b u e z=>by rw[z,hn] at e;cases e
 refine I.step (g':=s.gens) (d':=s.drawn) (ch:=[it]) (fun b hb=>?_) (fun b o _ _ hc e _=>k b o (fun z=>hc (by simp[z])) e) (fun b o _ _ hc e _=>⟨o.slots,k b o (fun z=>hc (by simp[z])) e⟩) (fun _ _ _ _ n=>n)
  (fun b o hc e=>⟨o,k b o (fun z=>hc (by simp[z])) e⟩) (fun _ _ e=>e) (fun _ _ _ e=>e) (fun b ps e=>⟨#[],by rw[e];simp⟩) (fun m hm=>?_) (fun b u e=>?_) I.bare
 ·have e:b=it:=by simpa using hb
  subst e
  exact⟨h1,hL,h2,h3⟩
 ·obtain⟨o,es,ep,ho,r⟩:=hm
  exact⟨o,es,ep,k _ o (Ne.symm hL) ho,r⟩
 ·refine(I.hok b u e).stay (fun c v hc q=>k c v ?_ q) (fun _ q=>q) fun _ _ q=>q
  rcases hc with z|z
  ·rw[z];exact nit b u e
  ·exact nit c _ z
theorem Inv.tok(I:Inv X pins σ H s)(t':Nat)(ht:autoParam (0<t') zAt):Inv X pins σ H {s with toks:=t'}:=I.un (h':=s.heap) (t':=t') Un.refl I.hok
theorem Inv.kept(I:Inv X pins σ H s)(k:∀ b u,s.heap.get? b=some u->h'.get? b=some u)(ht:autoParam (0<t') zAt):Inv X pins σ H {s with heap:=h',toks:=t'}:=I.un (Un.kept k) (I.hok.kept k)
theorem Inv.laid{o:HO}(I:Inv X pins σ H s)(k:∀ b u,s.heap.get? b=some u->h'.get? b=some u)(hp:s.heap.objs.size<=a)(new:V1 X.prog X.w (upd H a o) h' a o)(ht:autoParam (0<t') zAt) :
 Inv X pins σ (upd H a o) {s with heap:=h',toks:=t'}:=I.un (Un.laid k hp (I.hok.fresh hp)) (I.hok.laid k hp new)
theorem Inv.write{x e:Addr}{o:HO}(I:Inv X pins σ H s)(mu:Mut (H x))(he:e=x\/H e=some (.own x))(k:∀ b u,b≠e->s.heap.get? b=some u->h'.get? b=some u)(heo:∃ u,h'.get? e=some u)(new:V1 X.prog X.w (upd H x o) h' x o)(ht:autoParam (0<t') zAt):Inv X pins σ (upd H x o) {s with heap:=h',toks:=t'}:=I.un (Un.write mu he k heo) (I.hok.write mu he k heo new)
theorem Inv.weak{σ':List (Option V)}(I:Inv X pins σ H s)(hl:σ'.length=σ.length)(w:∀ (i:Nat) v,σ'[i]?=some (some v)->σ[i]?=some (some v)):Inv X pins σ' H s :=
 ⟨I.ok,I.os,I.bare,I.base,let ⟨m,hn,hl'⟩:=I.loc;⟨m,hn,fun i x v e1 e2 e3=>hl' i x v e1 (w i v e2) e3⟩,I.cell,I.free,I.freeC,I.pin,I.hok,hl.trans I.len,I.tk⟩
theorem Inv.pins_of{pins':List (Addr×Obj)}(I:Inv X pins σ H s)(h:∀ p∈pins',s.heap.get? p.1=some p.2/\H p.1=none/\p.1≠X.env.locals/\p.1∉X.fs/\∀ v,p.2.data≠.cell v):Inv X pins' σ H s :=
 ⟨I.ok,I.os,I.bare,I.base,I.loc,I.cell,I.free,I.freeC,fun p hp=>(List.mem_append.mp hp).elim (fun z=>I.pin p (List.mem_append_left _ z)) (h p),I.hok,I.len,I.tk⟩
theorem xx5(hN:N.Nodup){i j:Nat}(a:N[i]?=some x)(b:N[j]?=some x):i=j:=by
 obtain⟨h1,e1⟩:=List.getElem?_eq_some_iff.mp a
 obtain⟨h2,e2⟩:=List.getElem?_eq_some_iff.mp b
 exact(List.getElem_inj hN).mp (e1.trans e2.symm)
theorem xn7{i:Nat}{Q:Unit->Shared->Prop}(I:Inv X pins σ H s)(hN:X.N.Nodup)(hi:X.N[i]?=some x)(hx:Loc X.env.scope x)(r:L4 v u)(h:∀ s',Inv X pins (σ.set i (some v)) H s'->(∃ a,Heap.SameBut a s.heap s'.heap/\(a=X.env.locals\/X.env.cells.lookup x=some a))->Q () s')(hf:autoParam (X.fn x=true\/X.env.scope.names.lookup x=some .local) zAf):wpAny M A (storeName X.env x u) Q E s:=by
 obtain⟨m,hn,hl⟩:=id I.loc
 have hcls:(X.env.scope.kind == .class || (X.env.scope.kind == .module && X.env.locals != X.env.globals))=false:=by rw[I.ok.kind];rfl
 have hiσ:i<σ.length:=by rw[I.len];exact(List.getElem?_eq_some_iff.mp hi).1
 have cne:=I.cne
 have tracked:∀ {a:Addr} {h':Heap},(∃ o,s.heap.get? a=some o/\H a=none)->Heap.SameBut a s.heap h'->HOk X.prog X.w H h':=fun{a h'} ha hs b ob e=>by
  obtain⟨_,_,hfree⟩:=ha
  refine(I.hok b ob e).stay (fun c w' hc q=>(hs.2 c ?_).trans q) (fun _ q=>q) fun _ _ q=>q
  rintro rfl
  rcases hc with rfl|hc
  ·rw[hfree] at e;cases e
  ·rw[hfree] at hc;cases hc
 rcases hx with hk|hk
 ·refine wpAny_storeName_local hk hn (fun h' hn' hs=>?_) hcls
  obtain⟨oL,_,_,hoL,_⟩:=id hn
  refine h _ ⟨I.ok,I.os,I.bare,⟨fun b o e n hb hx=>?_,fun b o e n hb hx=>?_,I.base.free,fun b o e hx=>?_,I.base.tups,I.base.frzs,I.base.tbls⟩,⟨_,hn',fun j y v' e1 e2 e3=>?_⟩,fun y c e=>?_,I.free,I.freeC,fun p hp=>?_,tracked ⟨oL,hoL,I.free⟩ hs,by simpa using I.len,by first|exact I.tk|exact Nat.succ_pos _⟩ ⟨_,hs,.inl rfl⟩
  ·exact(hs.2 b (Nat.ne_of_lt (Nat.lt_of_lt_of_le (Heap.lt_size e) I.ok.above))).trans (I.base.keep b o e n hb hx)
  ·obtain⟨sl,e1⟩:=I.base.slot b o e n hb hx
   exact⟨sl,(hs.2 b (Nat.ne_of_lt (Nat.lt_of_lt_of_le (Heap.lt_size e) I.ok.above))).trans e1⟩
  ·obtain⟨o',e1⟩:=I.base.there b o e hx
   exact⟨o',(hs.2 b (Nat.ne_of_lt (Nat.lt_of_lt_of_le (Heap.lt_size e) I.ok.above))).trans e1⟩
  ·by_cases hj:j=i
   ·subst hj
    rw[hi] at e1;cases e1
    rw[List.getElem?_set_self hiσ] at e2
    cases e2
    exact⟨u,r,.inl ⟨hk,by simp⟩⟩
   ·rw[List.getElem?_set_ne (Ne.symm hj)] at e2
    obtain⟨u',r',q⟩:=hl j y v' e1 e2 e3
    refine⟨u',r',?_⟩
    rcases q with⟨k,e⟩|⟨k,c,e,z⟩
    ·refine .inl ⟨k,?_⟩
     have:y≠x:=fun e=>hj (xx5 hN e1 (e▸hi))
     simp[this,e]
    ·exact .inr ⟨k,c,e,z.sameBut hs (cne y c e)⟩
  ·obtain⟨w',z⟩:=I.cell y c e
   exact⟨w',z.sameBut hs (cne y c e)⟩
  ·obtain⟨e,n,ne,nf,d⟩:=I.pin p hp
   exact⟨(hs.2 p.1 ne).trans e,n,ne,nf,d⟩
 ·have hfn:X.fn x=true:=by
   rcases hf with z|z
   ·exact z
   ·rw[z] at hk;cases hk
  obtain⟨c,hc⟩:=I.ok.has x (.inl hk)
  obtain⟨w',z⟩:=I.cell x c hc
  refine wpAny_storeName_cell I.ok.kind hk hc z (fun h' hc' hs=>?_)
  obtain⟨oc,hoc,hocd⟩:=id z
  refine h {s with heap:=h'} ⟨I.ok,I.os,I.bare,⟨fun b o e n hb hx=>?_,fun b o e n hb hx=>?_,I.base.free,fun b o e hx=>?_,I.base.tups,I.base.frzs,I.base.tbls⟩,⟨m,hn.sameBut hs (Ne.symm (cne x c hc)),fun j y v' e1 e2 e3=>?_⟩,fun y c' e=>?_,I.free,I.freeC,fun p hp=>?_,tracked ⟨oc,hoc,I.freeC x c hc⟩ hs,by simpa using I.len,by first|exact I.tk|exact Nat.succ_pos _⟩ ⟨c,hs,.inr hc⟩
  ·exact(hs.2 b (Nat.ne_of_lt (Nat.lt_of_lt_of_le (Heap.lt_size e) (I.ok.cab x c hfn hc)))).trans (I.base.keep b o e n hb hx)
  ·obtain⟨sl,e1⟩:=I.base.slot b o e n hb hx
   exact⟨sl,(hs.2 b (Nat.ne_of_lt (Nat.lt_of_lt_of_le (Heap.lt_size e) (I.ok.cab x c hfn hc)))).trans e1⟩
  ·obtain⟨o',e1⟩:=I.base.there b o e hx
   exact⟨o',(hs.2 b (Nat.ne_of_lt (Nat.lt_of_lt_of_le (Heap.lt_size e) (I.ok.cab x c hfn hc)))).trans e1⟩
  ·by_cases hj:j=i
   ·subst hj
    rw[hi] at e1;cases e1
    rw[List.getElem?_set_self hiσ] at e2
    cases e2
    exact⟨u,r,.inr ⟨.inl hk,c,hc,hc'⟩⟩
   ·rw[List.getElem?_set_ne (Ne.symm hj)] at e2
    obtain⟨u',r',q⟩:=hl j y v' e1 e2 e3
    refine⟨u',r',?_⟩
    rcases q with q|⟨k,c',e,z'⟩
    ·exact .inl q
    ·refine .inr ⟨k,c',e,z'.sameBut hs ?_⟩
     rintro rfl
     exact hj (xx5 hN e1 (I.ok.inj _ _ _ e hc▸hi))
  ·by_cases hcc:c'=c
   ·subst hcc;exact⟨_,hc'⟩
   ·obtain⟨w2,z2⟩:=I.cell y c' e
    exact⟨w2,z2.sameBut hs hcc⟩
  ·obtain⟨e,n,ne,nf,d⟩:=I.pin p hp
   refine⟨(hs.2 p.1 ?_).trans e,n,ne,nf,d⟩
   intro q
   rw[q,hoc] at e
   have q':oc=p.2:=Option.some.inj e
   exact d w' (by rw[<-q'];exact hocd)
theorem xx6{i:Nat}{Q:Unit->Shared->Prop}(I:Inv X pins σ H s)(hN:X.N.Nodup)(hi:X.N[i]?=some x)(hx:Loc X.env.scope x)(r:L4 v u)(h:∀ s',Inv X pins (σ.set i (some v)) H s'->Q () s')(hf:autoParam (X.fn x=true\/X.env.scope.names.lookup x=some .local) zAf):wpAny M A (storeName X.env x u) Q E s :=
 xn7 I hN hi hx r (fun s' I' _=>h s' I') hf
end
abbrev XK:=Value->Option Addr->Hp->Prop
abbrev St:=List (Option V)
abbrev VK:=V->Hp->Prop
abbrev TE:=St->Hp->VK->Prop
abbrev TT:=St->Hp->(Bool->Hp->Prop)->Prop
abbrev TA:=St->Hp->(List V->Hp->Prop)->Prop
set_option genInjectivity false in
structure qf7 where
 nx:St->Hp->Prop
 rt:VK
 bk:St->Hp->Prop:=fun _ _=>False
 ct:St->Hp->Prop:=fun _ _=>False
abbrev TS:=qf7->St->Hp->Prop
def EP(X:Cx)(pins:List (Addr×Obj))(σ:St)(Q:VK)(u:Value)(s':Shared):Prop:=∃ v H',Inv X pins σ H' s'/\L4 v u/\Q v H'
def TP(X:Cx)(pins:List (Addr×Obj))(σ:St)(Q:Bool->Hp->Prop)(b:Bool)(s':Shared):Prop:=∃ H',Inv X pins σ H' s'/\Q b H'
def AP(X:Cx)(pins:List (Addr×Obj))(σ:St)(Q:List V->Hp->Prop)(us:List Value)(s':Shared):Prop:=∃ vs H',Inv X pins σ H' s'/\L1 vs us/\Q vs H'
def SP(X:Cx)(pins:List (Addr×Obj))(D:qf7)(f:Flow)(s':Shared):Prop :=
 match f with
 | .next=>∃ σ' H',Inv X pins σ' H' s'/\D.nx σ' H'
 | .brk=>∃ σ' H',Inv X pins σ' H' s'/\D.bk σ' H'
 | .cont=>∃ σ' H',Inv X pins σ' H' s'/\D.ct σ' H'
 | .ret u=>∃ v σ' H',Inv X pins σ' H' s'/\L4 v u/\D.rt v H'
def PE(X:Cx)(e:Expr)(t:TE):Prop :=
 ∀ (pins:List (Addr×Obj)) (s:Shared) (σ:St) (H:Hp) (Q:VK),Inv X pins σ H s->t σ H Q->wpAny (model X.prog X.w) X.A (eval e X.env) (EP X pins σ Q) X.xe s
def PT(X:Cx)(e:Expr)(t:TT):Prop :=
 ∀ (pins:List (Addr×Obj)) (s:Shared) (σ:St) (H:Hp) (Q:Bool->Hp->Prop),Inv X pins σ H s->t σ H Q->wpAny (model X.prog X.w) X.A (isTrue e X.env (eval e X.env)) (TP X pins σ Q) X.xe s
def PW(X:Cx)(e:Expr)(t:TT):Prop :=
 ∀ (whole:Sem Value) (pins:List (Addr×Obj)) (s:Shared) (σ:St) (H:Hp) (Q:Bool->Hp->Prop),Inv X pins σ H s->t σ H Q->wpAny (model X.prog X.w) X.A (isTrue e X.env whole) (TP X pins σ Q) X.xe s
variable{e:Expr}
theorem PW.pt{t:TT}(h:PW X e t):PT X e t:=h _
def PA(X:Cx)(es:List Expr)(t:TA):Prop :=
 ∀ (pos:Pos) (pins:List (Addr×Obj)) (s:Shared) (σ:St) (H:Hp) (Q:List V->Hp->Prop),Inv X pins σ H s->t σ H Q->wpAny (model X.prog X.w) X.A (spliced (backTo pos (starEach es X.env))) (AP X pins σ Q) X.xe s
def PS(X:Cx)(st:Stmt)(t:TS):Prop :=
 ∀ (pins:List (Addr×Obj)) (s:Shared) (σ:St) (H:Hp) (D:qf7),Inv X pins σ H s->t D σ H->wpAny (model X.prog X.w) X.A (exec st X.env) (SP X pins D) X.xe s
def PSs(X:Cx)(st:List Stmt)(t:TS):Prop :=
 ∀ (pins:List (Addr×Obj)) (s:Shared) (σ:St) (H:Hp) (D:qf7),Inv X pins σ H s->t D σ H->wpAny (model X.prog X.w) X.A (execs st X.env) (SP X pins D) X.xe s
variable{α:Type}
theorem thn{t:Sem α}{Q Q':α->Shared->Prop}(h:wpAny M A t Q E s)(hQ:∀ a s,Q a s->Q' a s):wpAny M A t Q' E s:=wpAny_mono h hQ fun _ _ x=>x
variable{pos:Pos}{Q:Value->Shared->Prop}{σ:St}{ta:TE}{c:Expr}
section
def A3(i:Nat):TE:=fun σ H Q=>∃ v,σ[i]?=some (some v)/\Q v H
def tC(v:V):TE:=fun _ H Q=>Q v H
theorem zr2{i:Nat}(hN:X.N[i]?=some x)(hv:Vis X.env.scope x)(hd:autoParam ((x == ("__debug__":Str))=false) zAd)(hcd:autoParam ((x == ("__classdict__":Str))=false) zAd):PE X (.Name x pos) (A3 i):=by
 intro pins s σ H Q I h
 obtain⟨v,e,h⟩:=h
 obtain⟨m,hn,hl⟩:=I.loc
 obtain⟨u,r,l⟩:=hl i x v hN e hv
 have fin:EP X pins σ Q u s:=⟨v,H,I,r,h⟩
 rcases l with⟨hk,hm⟩|⟨hk,c,hc,hcell⟩
 ·exact wpAny_Name (wpAny_loadName_local I.ok.kind hk hn hm fin) hd
 ·rcases hk with hk|hk
  ·exact wpAny_Name (wpAny_loadName_cell I.ok.kind hk hc hcell fin) hd
  ·exact wpAny_Name (wpAny_loadName_free I.ok.kind hk hc hcell fin hcd) hd
theorem A9{i j pos}:PE X (.Constant (.int i) j pos) (tC (.int i)):=fun _ _ _ H _ I h=>wpAny_Constant_int ⟨.int i,H,I.tok _,⟨_,rfl⟩,h⟩
theorem xx7{b j pos}:PE X (.Constant (.bool b) j pos) (tC (.bl b)):=fun _ _ _ H _ I h=>Constant_bool ⟨.bl b,H,I,rfl,h⟩
theorem V2{j pos}:PE X (.Constant .none j pos) (tC .non):=fun _ _ _ H _ I h=>Constant_none ⟨.non,H,I,rfl,h⟩
theorem B3{x j pos}:PE X (.Constant (.str x) j pos) (tC (.str x)):=fun _ _ _ H _ I h=>Calls.Constant_str ⟨.str x,H,I.tok _,⟨_,rfl⟩,h⟩
def Gl(X:Cx)(x:Str):Prop:=X.env.kindOf x=some .globalImplicit
theorem xr0(I:Inv X pins σ H s)(hg:Gl X x)(hm:X.mg x=some u)(h:Q u s)(hd:autoParam ((x == ("__debug__":Str))=false) zAd):wpAny (model X.prog X.w) X.A (eval (.Name x pos) X.env) Q E s :=
 Calls.Name_function_global I.ok.kind hg (Calls.loadGlobal_global (by rw[I.ok.glob];exact I.mod.glob.keeps I.bk) hm h) hd
theorem wa6(I:Inv X pins σ H s)(hg:Gl X x)(hm:X.mg x=none)(hv:bootBuiltins x=some u)(h:Q u s)(hn:autoParam (x ≠ "__name__") zAd)(hd:autoParam ((x == ("__debug__":Str))=false) zAd):wpAny (model X.prog X.w) X.A (eval (.Name x pos) X.env) Q E s:=by
 obtain⟨mb,h1,h2⟩:=I.mod.blt
 exact Calls.Name_function_global I.ok.kind hg (Calls.loadGlobal_builtin (by rw[I.ok.glob];exact I.mod.glob.keeps I.bk) hm (by rw[I.ok.blt];exact h1.keeps I.bk) ((h2 x hn).trans hv) h) hd
theorem M8(hg:Gl X x)(hm:X.mg x=some u)(r:L4 v u)(hd:autoParam ((x == ("__debug__":Str))=false) zAd):PE X (.Name x pos) (tC v) :=
 fun _ _ _ H _ I h=>xr0 I hg hm ⟨v,H,I,r,h⟩ hd
theorem xr1(hg:Gl X x)(hm:X.mg x=none)(hv:bootBuiltins x=some u)(r:L4 v u)(hn:autoParam (x ≠ "__name__") zAd)(hd:autoParam ((x == ("__debug__":Str))=false) zAd):PE X (.Name x pos) (tC v) :=
 fun _ _ _ H _ I h=>wa6 I hg hm hv ⟨v,H,I,r,h⟩ hn hd
variable{a b:Expr}{tb:TE}
def tB(t:TE):TT:=fun σ H Q=>t σ H fun x H1=>∃ c,x=.bl c/\Q c H1
theorem qf8{t:TE}(h:PE X e t)(he:autoParam (∀ whole,isTrue e X.env whole=(do let v<-whole;standAt e.pos;holding [v] (truthy v))) zAi):PT X e (tB t):=by
 intro pins s σ H Q I hw
 refine isTrue_plain (thn (h pins s σ H _ I hw) fun v s1 zq=>?_) (he _)
 obtain⟨x,H1,I1,r1,q1⟩:=zq
 obtain⟨d,rfl,q⟩:=q1
 cases r1
 exact wpAny_truthy_bool ⟨H1,I1,q⟩
variable{tA tB':TT}{rest:List Expr}
def xb4(t u:TT):TT:=fun σ H Q=>t σ H fun c H1=>if c=true then u σ H1 Q else Q false H1
def tOr(t u:TT):TT:=fun σ H Q=>t σ H fun c H1=>if c=true then Q true H1 else u σ H1 Q
def yr7(t:TT):TT:=fun σ H Q=>t σ H fun c H1=>Q (!c) H1
theorem qt8(ha:PT X a tA):PW X (.BoolOp .And [a] pos) tA:=by
 intro wh pins s σ H Q I h
 refine isTrue_and (thn (ha pins s σ H Q I h) fun c s1 e=>?_)
 cases c with
 | true=>exact isTrue_and_nil e
 | false=>exact e
theorem yw6(ha:PT X a tA):PW X (.BoolOp .Or [a] pos) tA:=by
 intro wh pins s σ H Q I h
 refine isTrue_or (thn (ha pins s σ H Q I h) fun c s1 e=>?_)
 cases c with
 | false=>exact isTrue_or_nil e
 | true=>exact e
theorem wa7(ha:PT X a tA)(hb:PW X (.BoolOp .And (b::rest) pos) tB'):PW X (.BoolOp .And (a::b::rest) pos) (xb4 tA tB'):=by
 intro wh pins s σ H Q I h
 refine isTrue_and (thn (ha pins s σ H _ I h) fun c s1 zq=>?_)
 obtain⟨H1,I1,q1⟩:=zq
 cases c with
 | true=>exact hb wh pins s1 σ H1 Q I1 q1
 | false=>exact⟨H1,I1,q1⟩
theorem zo7(ha:PT X a tA)(hb:PW X (.BoolOp .Or (b::rest) pos) tB'):PW X (.BoolOp .Or (a::b::rest) pos) (tOr tA tB'):=by
 intro wh pins s σ H Q I h
 refine isTrue_or (thn (ha pins s σ H _ I h) fun c s1 zq=>?_)
 obtain⟨H1,I1,q1⟩:=zq
 cases c with
 | true=>exact⟨H1,I1,q1⟩
 | false=>exact hb wh pins s1 σ H1 Q I1 q1
theorem yf1(ha:PT X a tA):PT X (.UnaryOp .Not a pos) (yr7 tA):=by
 intro pins s σ H Q I h
 exact isTrue_not (ha pins s σ H (fun c H1=>Q (!c) H1) I h)
def ym1(ta tb:TE):TE:=fun σ H Q=>ta σ H fun x H1=>∃ c,x=.bl c/\if c=true then tb σ H1 Q else Q (.bl false) H1
def yw7(ta:TE):TE:=fun σ H Q=>ta σ H fun x H1=>∃ c,x=.bl c/\Q (.bl (!c)) H1
theorem yw8{op}{t:TE}(h:PE X a t):PE X (.BoolOp op [a] pos) t:=fun pins s σ H Q I hw=>BoolOp_one (h pins s σ H Q I hw)
theorem yw9(ha:PE X a ta)(hb:PE X (.BoolOp .And (b::rest) pos) tb):PE X (.BoolOp .And (a::b::rest) pos) (ym1 ta tb):=by
 intro pins s σ H Q I h
 refine BoolOp_and (thn (ha pins s σ H _ I h) fun v s1 zq=>?_)
 obtain⟨x,H1,I1,r1,q1⟩:=zq
 obtain⟨c,rfl,q1⟩:=q1
 cases r1
 refine wpAny_truthy_bool ?_
 cases c with
 | true=>exact hb pins s1 σ H1 Q I1 q1
 | false=>exact⟨.bl false,H1,I1,rfl,q1⟩
theorem zr3(ha:PE X a ta):PE X (.UnaryOp .Not a pos) (yw7 ta):=by
 intro pins s σ H Q I h
 refine UnaryOp_ (thn (ha pins s σ H _ I h) fun v s1 zq=>?_)
 obtain⟨x,H1,I1,r1,q1⟩:=zq
 obtain⟨c,rfl,q1⟩:=q1
 cases r1
 exact not_of (wpAny_truthy_bool ⟨.bl (!c),H1,I1,rfl,q1⟩)
def tIf(t:TT)(ta tb:TE):TE:=fun σ H Q=>t σ H fun c H1=>if c=true then ta σ H1 Q else tb σ H1 Q
theorem qq9(hc:PT X c tA)(ha:PE X a ta)(hb:PE X b tb):PE X (.IfExp c a b pos) (tIf tA ta tb):=by
 intro pins s σ H Q I h
 refine wpAny_IfExp (thn (hc pins s σ H _ I h) fun d s1 zq=>?_)
 obtain⟨H1,I1,q1⟩:=zq
 cases d with
 | true=>exact ha pins s1 σ H1 Q I1 q1
 | false=>exact hb pins s1 σ H1 Q I1 q1
end
def SqL(K:Fg)(H:Hp)(a:Addr)(xs:List V):Prop :=
 Rd H a (.lst xs) \/
  ∃ (o:Obj) (its:Array Value) (n:Nat),K.lookup a=some o/\o.cls=.type "list"/\o.dict=none/\o.data=.seq its n/\its.size<=sizeLine/\L1 xs its.toList
def SqT(K:Fg)(H:Hp)(a:Addr)(xs:List V):Prop :=
 Rd H a (.tup xs) \/
  ∃ (o:Obj) (its:Array Value) (n:Nat),K.lookup a=some o/\o.cls=.type "tuple"/\o.data=.seq its n/\its.size<=sizeLine/\L1 xs its.toList
def Ac9:Value->Option V
 | .none=>some .non
 | .bool b=>some (.bl b)
 | .int i _=>some (.int i)
 | .str x _=>some (.str x)
 | .bytes b _=>some (.byt b)
 | .float b _=>some (.flt b)
 | .ref a=>some (.ref a)
 | .type n=>some (.ty n)
 | _=>none
theorem L4.abs{x:V}(r:L4 x u):Ac9 u=some x:=by
 cases x with
 | non=>cases r;rfl
 | bl _=>cases r;rfl
 | int _=>obtain⟨t,rfl⟩:=r;rfl
 | str _=>obtain⟨t,rfl⟩:=r;rfl
 | byt _=>obtain⟨t,rfl⟩:=r;rfl
 | flt _=>obtain⟨t,rfl⟩:=r;rfl
 | ref _=>cases r;rfl
 | ty _=>cases r;rfl
variable{y:V}
theorem L4.inj{x:V}(r:L4 x u)(q:L4 y u):x=y:=Option.some.inj (r.abs.symm.trans q.abs)
theorem L1.inj{xs ys:List V}{us:List Value}(h:L1 xs us):L1 ys us->xs=ys:=by
 induction h generalizing ys with
 | nil=>intro k;cases k;rfl
 | cons r t ih=>intro k;cases k with|cons r' t'=>rw[r.inj r',ih t']
variable{ys:List V}
variable{K:Fg}
theorem SqL.of(h:H a=some (.lst xs)):SqL K H a xs:=.inl (.inl h)
theorem SqT.of(h:H a=some (.tup xs)):SqT K H a xs:=.inl (.inl h)
theorem Inv.list(I:Inv X pins σ H s)(h:SqL X.K H a xs):∃ its:List Value,L1 xs its/\PlainL s.heap a its.toArray/\xs.length<=sizeLine:=by
 rcases h with h|⟨o,its,n,hk,hc,hd,hs,hz,r⟩
 ·obtain⟨z,its,n,r,e⟩:=h.ok I.hok
  exact⟨its,r,⟨_,n,e,rfl,rfl,rfl⟩,z⟩
 ·refine⟨its.toList,r,⟨o,n,I.kIn a o hk,hc,hd,by simpa using hs⟩,?_⟩
  have e:=r.length
  simp only[Array.length_toList] at e
  omega
theorem Inv.tuple(I:Inv X pins σ H s)(h:SqT X.K H a xs):∃ its:List Value,L1 xs its/\IsTup s.heap a its.toArray/\xs.length<=sizeLine:=by
 rcases h with h|⟨o,its,n,hk,hc,hs,hz,r⟩
 ·obtain⟨z,its,r,p⟩:=h.ok I.hok
  exact⟨its,r,p,z⟩
 ·refine⟨its.toList,r,⟨o,I.kIn a o hk,hc,n,by simpa using hs⟩,?_⟩
  have e:=r.length
  simp only[Array.length_toList] at e
  omega
theorem Inv.list_inj(I:Inv X pins σ H s)(h:SqL X.K H a xs)(h':SqL X.K H a ys):xs=ys:=by
 obtain⟨its,r,⟨o,n,e,_,_,d⟩,_⟩:=I.list h
 obtain⟨its',r',⟨o',n',e',_,_,d'⟩,_⟩:=I.list h'
 rw[e] at e';cases e'
 rw[d] at d'
 injection d' with d1 _
 have:its=its':=by simpa using congrArg Array.toList d1
 subst this
 exact r.inj r'
theorem Inv.tuple_inj(I:Inv X pins σ H s)(h:SqT X.K H a xs)(h':SqT X.K H a ys):xs=ys:=by
 obtain⟨its,r,⟨o,e,_,n,d⟩,_⟩:=I.tuple h
 obtain⟨its',r',⟨o',e',_,n',d'⟩,_⟩:=I.tuple h'
 rw[e] at e';cases e'
 rw[d] at d'
 injection d' with d1 _
 have:its=its':=by simpa using congrArg Array.toList d1
 subst this
 exact r.inj r'
abbrev Cx.wish(X:Cx)(E:Value->Shared->Prop):Cx:={X with xe:=E}
abbrev Cx.nox(X:Cx):Cx:=X.wish fun _ _=>False
theorem Cx.Ok.wish(ok:X.Ok)(E:Value->Shared->Prop):(X.wish E).Ok :=
 ⟨ok.mod,ok.kind,ok.glob,ok.blt,ok.above,ok.inj,ok.has,ok.cab,ok.hd,ok.frames,ok.stk,ok.exf,ok.bs,ok.bsz,ok.noex,ok.exfs,ok.funs,ok.frf⟩
theorem Cx.Ok.unwish(ok:(X.wish E).Ok):X.Ok :=
 ⟨ok.mod,ok.kind,ok.glob,ok.blt,ok.above,ok.inj,ok.has,ok.cab,ok.hd,ok.frames,ok.stk,ok.exf,ok.bs,ok.bsz,ok.noex,ok.exfs,ok.funs,ok.frf⟩
theorem Inv.wish(I:Inv X pins σ H s)(E:Value->Shared->Prop):Inv (X.wish E) pins σ H s:=⟨I.ok.wish E,I.os,I.bare,I.base,I.loc,I.cell,I.free,I.freeC,I.pin,I.hok,I.len,I.tk⟩
theorem Inv.unwish(I:Inv (X.wish E) pins σ H s):Inv X pins σ H s:=⟨I.ok.unwish,I.os,I.bare,I.base,I.loc,I.cell,I.free,I.freeC,I.pin,I.hok,I.len,I.tk⟩
theorem SP.unwish{D:qf7}{f:Flow}{s':Shared}(h:SP (X.wish E) pins D f s'):SP X pins D f s':=by
 cases f with
 | next=>obtain⟨σ',H',I,q⟩:=h;exact⟨σ',H',I.unwish,q⟩
 | brk=>obtain⟨σ',H',I,q⟩:=h;exact⟨σ',H',I.unwish,q⟩
 | cont=>obtain⟨σ',H',I,q⟩:=h;exact⟨σ',H',I.unwish,q⟩
 | ret u=>obtain⟨v,σ',H',I,r,q⟩:=h;exact⟨v,σ',H',I.unwish,r,q⟩
theorem PSs.nox{st:List Stmt}{t:TS}(h:PSs X.nox st t):PSs X st t:=fun pins s σ H D I hw =>
 wpAny_mono (h pins s σ H D (I.wish _) hw) (fun _ _ q=>q.unwish) fun _ _ z=>False.elim z
variable{st:Stmt}{te:TE}
section
variable{rest:List Stmt}{t u:TS}
def O5:TS:=fun D σ H=>D.nx σ H
def C0(t u:TS):TS:=fun D σ H=>t {D with nx:=u D} σ H
theorem I9:PSs X [] O5:=fun _ _ σ H _ I h=>wpAny_execs_nil ⟨σ,H,I,h⟩
theorem A5(h1:PS X st t)(h2:PSs X rest u):PSs X (st::rest) (C0 t u):=by
 intro pins s σ H D I h
 refine wpAny_execs_cons (thn (h1 pins s σ H {D with nx:=u D} I h) fun f s1 q=>?_)
 cases f with
 | next =>
   obtain⟨σ',H',I',q⟩:=q
   exact h2 pins s1 σ' H' D I' q
 | ret v=>exact q
 | brk=>exact q
 | cont=>exact q
theorem A8(h1:PS X st t):PSs X [st] t:=by
 intro pins s σ H D I h
 refine wpAny_execs_cons (thn (h1 pins s σ H D I h) fun f s1 q=>?_)
 cases f with
 | next=>exact wpAny_execs_nil q
 | ret v=>exact q
 | brk=>exact q
 | cont=>exact q
def yf2:TS:=fun D σ H=>D.bk σ H
theorem yx0:PS X (.Break pos) yf2:=fun _ _ σ H _ I h=>wpAny_Break ⟨σ,H,I,h⟩
theorem Inv.quiet(I:Inv X pins σ H s):interactive X.env=false:=by simp[interactive,I.ok.kind]
def L7(te:TE):TS:=fun D σ H=>te σ H fun _ H1=>D.nx σ H1
theorem C9(he:PE X e te)(hs:autoParam (swapsWith e none pos.line X.env=pure false) zAr):PS X (.Expr e pos) (L7 te):=by
 intro pins s σ H D I h
 exact wpAny_Expr_any (thn (he pins s σ H _ I h) fun v s1 ⟨x,H1,I1,r1,q1⟩=>⟨σ,H1,I1,q1⟩) I.quiet hs
def M0(te:TE):TS:=fun D σ H=>te σ H D.rt
theorem C5(he:PE X e te):PS X (.Return (some e) pos) (M0 te):=by
 intro pins s σ H D I h
 exact wpAny_Return_some (thn (he pins s σ H _ I h) fun v s1 ⟨x,H1,I1,r1,q1⟩=>⟨x,σ,H1,I1,r1,q1⟩)
def ym2:TS:=fun D _ H=>D.rt .non H
theorem ym3:PS X (.Return none pos) ym2:=fun _ _ σ H _ I h=>wpAny_Return_none ⟨.non,σ,H,I,rfl,h⟩
def T2(c:TT)(t u:TS):TS:=fun D σ H=>c σ H fun b H1=>if b=true then t D σ H1 else u D σ H1
theorem N1{a b:List Stmt}{tc:TT}(hc:PT X c tc)(ha:PSs X a t)(hb:PSs X b u):PS X (.If c a b pos) (T2 tc t u):=by
 intro pins s σ H D I h
 refine wpAny_If (thn (hc pins s σ H _ I h) fun d s1 zq=>?_)
 obtain⟨H1,I1,q1⟩:=zq
 cases d with
 | true=>exact ha pins s1 σ H1 D I1 q1
 | false=>exact hb pins s1 σ H1 D I1 q1
end
abbrev TG:=V->St->Hp->(St->Hp->Prop)->Prop
abbrev TGs:=List V->St->Hp->(St->Hp->Prop)->Prop
def PG(X:Cx)(target:Expr)(t:TG):Prop :=
 ∀ (pins:List (Addr×Obj)) (s:Shared) (σ:St) (H:Hp) (v:V) (u:Value) (Q:St->Hp->Prop),Inv X pins σ H s->L4 v u->t v σ H Q ->
  wpAny (model X.prog X.w) X.A (assign target X.env u) (fun _ s'=>∃ σ' H',Inv X pins σ' H' s'/\Q σ' H') X.xe s
def PGs(X:Cx)(ts:List Expr)(t:TGs):Prop :=
 ∀ (pins:List (Addr×Obj)) (s:Shared) (σ:St) (H:Hp) (vs:List V) (us:List Value) (Q:St->Hp->Prop),Inv X pins σ H s->L1 vs us->t vs σ H Q ->
  wpAny (model X.prog X.w) X.A (assignInOrder ((assignEach ts X.env).map (·.2)) us) (fun _ s'=>∃ σ' H',Inv X pins σ' H' s'/\Q σ' H') X.xe s
abbrev yx1:=V->V->V->Hp->(Hp->Prop)->Prop
def zr4(X:Cx)(t:yx1):Prop :=
 ∀ (pins:List (Addr×Obj)) (s:Shared) (σ:St) (H:Hp) (o i v:V) (ov iv u:Value) (Q:Hp->Prop),Inv X pins σ H s->L4 o ov->L4 i iv->L4 v u->t o i v H Q ->
  wpAny (model X.prog X.w) X.A (setItem ov iv u) (fun _ s'=>∃ H',Inv X pins σ H' s'/\Q H') X.xe s
def B2(i:Nat):TG:=fun v σ H Q=>Q (σ.set i (some v)) H
theorem J6{i:Nat}(hN:X.N.Nodup)(hi:X.N[i]?=some x)(hx:Loc X.env.scope x)(hf:autoParam (X.fn x=true\/X.env.scope.names.lookup x=some .local) zAf):PG X (.Name x pos) (B2 i):=by
 intro pins s σ H v u Q I r h
 exact wpAny_assign_Name (xx6 I hN hi hx r (fun s' I'=>⟨_,H,I',h⟩) hf)
def yf3:TGs:=fun vs σ H Q=>vs=[]/\Q σ H
def qr0(t:TG)(u:TGs):TGs:=fun vs σ H Q=>∃ v r,vs=v::r/\t v σ H fun σ' H'=>u r σ' H' Q
theorem wp7:PGs X [] yf3:=by
 intro pins s σ H vs us Q I r h
 obtain⟨e,h⟩:=h
 subst e
 cases r
 exact assignInOrder_nil ⟨σ,H,I,h⟩
variable{es:List Expr}
theorem V3{t:TG}{u:TGs}(h1:PG X e t)(h2:PGs X es u)(hs:autoParam ((assignEach (e::es) X.env).map (·.2)=assign e X.env::(assignEach es X.env).map (·.2)) zAr):PGs X (e::es) (qr0 t u):=by
 intro pins s σ H vs us Q I r h
 obtain⟨v,vr,e1,h⟩:=h
 subst e1
 cases r with
 | cons r rr =>
   rw[hs]
   refine assignInOrder_cons (thn (h1 pins s σ H _ _ _ I r h) fun _ s1 zq=>?_)
   obtain⟨σ1,H1,I1,q1⟩:=zq
   exact h2 pins s1 σ1 H1 _ _ Q I1 rr q1
def yf4(K:Fg)(n:Nat)(t:TGs):TG:=fun v σ H Q=>∃ a xs,v=.ref a/\SqT K H a xs/\xs.length=n/\t xs σ H Q
variable{n:Nat}
theorem xe1{k:Nat}{t:TGs}(hc:X.calm=true)(h:PGs X es t)(hn:autoParam ((assignEach es X.env).length=n) zAr)(hst:autoParam ((assignEach es X.env).findIdx? (·.1)=none) zAr):PG X (.Tuple es k pos) (yf4 X.K n t):=by
 intro pins s σ H v u Q I r hw
 obtain⟨a,xs,e1,hq,hl,hw⟩:=hw
 subst e1
 cases r
 obtain⟨its,rv,ht,hz⟩:=I.tuple hq
 refine assign_Tuple_tuple (I.ok.hd hc) ht (by simp[hn,<-hl,rv.length]) hst fun h' hx=>?_
 have I1:Inv X pins σ H {s with heap:=h'}:=I.kept (t':=s.toks) fun b o e=>hx b o (Nat.ne_of_lt (Heap.lt_size e)) e
 exact h pins _ σ H xs _ Q I1 (by simpa using rv) hw
def yx2(to ti:TE)(t:yx1):TG:=fun v σ H Q=>to σ H fun o H1=>ti σ H1 fun i H2=>t o i v H2 fun H3=>Q σ H3
variable{o:Expr}{ti to:TE}
theorem yf5{i:Expr}{t:yx1}(ho:PE X o to)(hi:PE X i ti)(hs:zr4 X t) (ha:∀ v,assign (.Subscript o i pos) X.env v=(do
  let ov<-holding [v] (eval o X.env)
  let iv<-holding [v,ov] (eval i X.env)
  standAt pos
  holding [v,ov,iv] (setItem ov iv v)
  release [v,ov,iv] []):=by intro _;rfl):PG X (.Subscript o i pos) (yx2 to ti t):=by
 intro pins s σ H v u Q I r h
 rw[ha]
 refine wpAny_bind (wpAny_holding (thn (ho pins s σ H _ I h) fun ov s1 zq=>?_))
 obtain⟨x,H1,I1,r1,q1⟩:=zq
 refine wpAny_bind (wpAny_holding (thn (hi pins s1 σ H1 _ I1 q1) fun iv s2 zq=>?_))
 obtain⟨y,H2,I2,r2,q2⟩:=zq
 refine wpAny_bind (wpAny_standAt (wpAny_bind (wpAny_holding (thn (hs pins s2 σ H2 x y v ov iv u _ I2 r1 r2 r q2) fun _ s3 zq=>?_))))
 obtain⟨H3,I3,q3⟩:=zq
 exact wpAny_release ⟨σ,H3,I3,q3⟩
def E9(te:TE)(g:TG):TS:=fun D σ H=>te σ H fun x H1=>g x σ H1 D.nx
variable{g:TG}
theorem xr2{tg:Expr}(he:PE X e te)(hg:PG X tg g)(hs:autoParam (swapsWithSole [tg] e pos.line X.env=pure false) zAr)(hw:autoParam (swappedStores [tg] e X.env=pure none) zAr)(h1:autoParam ((assignEach [tg] X.env).map (·.2)=[assign tg X.env]) zAr):PS X (.Assign [tg] e pos) (E9 te g):=by
 intro pins s σ H D I h
 refine wpAny_Assign_stores (thn (he pins s σ H _ I h) fun v s1 zq=>?_) hs hw
 obtain⟨x,H1,I1,r1,q1⟩:=zq
 rw[h1]
 exact thn (hg pins s1 σ H1 x v _ I1 r1 q1) fun _ s2 q=>q
variable{pos':Pos}
theorem Z3{i:Nat}(hN:X.N.Nodup)(hi:X.N[i]?=some x)(hx:Loc X.env.scope x)(he:PE X e te)(hs:autoParam (swapsWith e (some (.Name x pos')) pos.line X.env=pure false) zAr)(hf:autoParam (X.fn x=true\/X.env.scope.names.lookup x=some .local) zAf) :
 PS X (.Assign [.Name x pos'] e pos) (E9 te (B2 i)):=by
 intro pins s σ H D I h
 refine wpAny_Assign_Name (thn (he pins s σ H _ I h) fun v s1 zq=>?_) hs
 obtain⟨y,H1,I1,r1,q1⟩:=zq
 exact xx6 I1 hN hi hx r1 (fun s2 I2=>⟨_,H1,I2,q1⟩) hf
def wa8(c:TT)(tb:TS):TS:=fun D σ H=>∃ W:Nat->St->Hp->Prop,(∃ m,W m σ H)/\∀ m σ H,W m σ H ->
 c σ H fun b H1=>if b=true then ∃ N:St->Hp->Prop,(∀ σ' H',N σ' H'->∃ m',m'<m/\W m' σ' H')/\tb {D with nx:=N,ct:=N,bk:=D.nx} σ H1 else D.nx σ H1
variable{body:List Stmt}{tb:TS}
theorem wf0{tc:TT}(hp:PassesOwn (model X.prog X.w) X.A X.env X.xe)(hc:PT X c tc)(hb:PSs X body tb):PS X (.While c body [] pos) (wa8 tc tb):=by
 intro pins s σ H D I h
 obtain⟨W,⟨m0,w0⟩,turn⟩:=h
 refine wpAny_While (codeAny_whileLoop (fun n s'=>∃ σ' H',Inv X pins σ' H' s'/\W n σ' H') ?_ m0 ⟨σ,H,I,w0⟩)
 rintro n s1 ⟨σ1,H1,I1,w1⟩
 refine wpAny_passesOwn hp (thn (hc pins s1 σ1 H1 _ I1 (turn n σ1 H1 w1)) fun b s2 zq=>?_)
 obtain⟨H2,I2,q2⟩:=zq
 cases b with
 | true =>
   obtain⟨N,hN,q2⟩:=q2
   rw[if_pos rfl]
   refine wpAny_passesOwn hp (thn (hb pins s2 σ1 H2 _ I2 q2) fun f s3 q3=>?_)
   cases f with
   | next =>
     obtain⟨σ3,H3,I3,n3⟩:=q3
     obtain⟨m',hm,w3⟩:=hN σ3 H3 n3
     exact⟨m',hm,σ3,H3,I3,w3⟩
   | cont =>
     obtain⟨σ3,H3,I3,n3⟩:=q3
     obtain⟨m',hm,w3⟩:=hN σ3 H3 n3
     exact⟨m',hm,σ3,H3,I3,w3⟩
   | brk=>exact q3
   | ret v=>exact q3
 | false =>
   rw[if_neg Bool.false_ne_true]
   exact wpAny_execs_nil ⟨σ1,H2,I2,q2⟩
set_option genInjectivity false in
structure It where
 go:Nat->Hp->Prop
 yld:Nat->Hp->V->Hp->Prop
 stop:Nat->Hp->Prop
def xl0(X:Cx)(pins:List (Addr×Obj))(H:Hp)(b:Addr):Prop :=
 H b=none/\b≠X.env.locals/\b∉X.fs/\(b∈X.ex\/X.s₀.heap.objs.size<=b)/\(∀ x c,X.env.cells.lookup x=some c->c≠b)/\∀ p∈X.pn++pins,p.1≠b
theorem Inv.fpOk(I:Inv X pins σ H s)(hb:s.heap.objs.size<=b)(hn:H' b=none):xl0 X pins H' b:=by
 refine⟨hn,Nat.ne_of_gt (Nat.lt_of_lt_of_le I.lt hb),I.nofs hb,.inr (Nat.le_trans I.sz hb),fun x c e z=>?_,fun p hp z=>?_⟩
 ·obtain⟨v,q⟩:=I.cell x c e
  exact absurd (Nat.lt_of_lt_of_le q.lt (by rw[z];exact hb)) (Nat.lt_irrefl _)
 ·exact absurd (Nat.lt_of_lt_of_le (Heap.lt_size (I.pin p hp).1) (by rw[z];exact hb)) (Nat.lt_irrefl _)
structure xe2(P:Program)(w:World)(K:Fg)(tg:Expr)(J:It)(fp:List Addr)(it:Addr)(tn:Nat->Heap->Prop):Prop where
 mem:it∈fp
 obj:∀ i h,tn i h->∀ b∈fp,∃ o,h.get? b=some o/\∀ v,o.data≠.cell v
 keep:∀ i h h',tn i h->(∀ b∈fp,∀ o,h.get? b=some o->h'.get? b=some o)->tn i h'
 item:∀ (X:Cx),X.prog=P->X.w=w->X.K=K->X.calm=true->∀ (i:Nat) (pins:List (Addr×Obj)) (s:Shared) (σ:St) (H:Hp) (E:Value->Shared->Prop),Inv X pins σ H s->(∀ b∈fp,xl0 X pins H b)->tn i s.heap->J.go i H ->
  wpAny (model P w) X.A (pyNext (.ref it)) (fun r s1=>∃ u,r=some u /\
   wpAny (model P w) X.A (letOwnedTupleGo tg (.ref it) u) (fun _ s2=>∃ x H',Inv X pins σ H' s2/\L4 x u/\J.yld i H x H'/\tn (i+1) s2.heap/\∀ b∈fp,H' b=none) E s1) E s
 done:∀ (X:Cx),X.prog=P->X.w=w->X.K=K->X.calm=true->∀ (i:Nat) (pins:List (Addr×Obj)) (s:Shared) (σ:St) (H:Hp) (E:Value->Shared->Prop),Inv X pins σ H s->(∀ b∈fp,xl0 X pins H b)->tn i s.heap->J.stop i H ->
  wpAny (model P w) X.A (pyNext (.ref it)) (fun r s1=>r=none/\Inv X pins σ H s1) E s
 self:∀ (A:Around) (i:Nat) (s:Shared) (Q:Value->Shared->Prop) (E:Value->Shared->Prop),tn i s.heap->Q (.ref it) s->wpAny (model P w) A (pyIter (.ref it)) Q E s
abbrev TI:=St->Hp->(It->Hp->Prop)->Prop
def PIE(X:Cx)(pins:List (Addr×Obj))(σ:St)(tg:Expr)(R:It->Hp->Prop)(itv:Value)(s2:Shared):Prop :=
 ∃ (it:Addr) (fp:List Addr) (tn:Nat->Heap->Prop) (J:It) (H':Hp),itv=.ref it/\Inv X pins σ H' s2/\xe2 X.prog X.w X.K tg J fp it tn/\tn 0 s2.heap/\(∀ b∈fp,xl0 X pins H' b)/\R J H'
def PI(X:Cx)(tg iter:Expr)(wi:TI):Prop :=
 ∀ (pins:List (Addr×Obj)) (s:Shared) (σ:St) (H:Hp) (R:It->Hp->Prop),Inv X pins σ H s->wi σ H R ->
  wpAny (model X.prog X.w) X.A (eval iter X.env) (fun v s1=>wpAny (model X.prog X.w) X.A (pyIter v) (PIE X pins σ tg R) X.xe s1) X.xe s
theorem xn8{tg:Expr}{o:Obj}{n:String}{vs:Array Value}{Q:Unit->Shared->Prop}(ho:s.heap.get? it=some o)(hc:o.cls=.type n)(hd:o.data=.fields vs)(hn:["enumerate","zip","dict_itemiterator","dict_reverseitemiterator","odict_iterator","itertools.zip_longest","itertools.pairwise"].contains n=false)(hQ:Q () s):wpAny M A (letOwnedTupleGo tg (.ref it) u) Q E s:=by
 unfold letOwnedTupleGo
 cases tg <;> first
  | exact wpAny_pure hQ
  | (cases u <;> first
   | exact wpAny_pure hQ
   | (refine wpAny_bind (wpAny_load ho ?_)
      rw[hc,hd]
      show wpAny M A (if(["enumerate","zip","dict_itemiterator","dict_reverseitemiterator","odict_iterator","itertools.zip_longest","itertools.pairwise"].contains n && vs[0]? == some (rawInt _))=true then _ else _) Q E s
      rw[if_neg (by intro h;rw[hn,Bool.false_and] at h;cases h)]
      exact wpAny_pure hQ))
def Itl(K:Fg)(a:Addr):It :=
 ⟨fun i H=>∃ xs x,SqL K H a xs/\xs[i]?=some x,fun i H x H'=>H'=H/\∀ xs,SqL K H a xs->xs[i]?=some x,fun i H=>∃ xs,SqL K H a xs/\xs.length<=i⟩
def Itt(K:Fg)(a:Addr):It :=
 ⟨fun i H=>∃ xs x,SqT K H a xs/\xs[i]?=some x,fun i H x H'=>H'=H/\∀ xs,SqT K H a xs->xs[i]?=some x,fun i H=>∃ xs,SqT K H a xs/\xs.length<=i⟩
def Itr(lo:Int)(n:Nat):It:=⟨fun i _=>i<n,fun i H x H'=>H'=H/\x=.int (lo+i),fun i _=>n<=i⟩
theorem yr8{tg:Expr}(a it:Addr):xe2 P w K tg (Itl K a) [it] it (fun i h=>h.IsListIter it a i) where
 mem:=by simp
 obj:=fun i h st b hb=>by
  have e:b=it:=by simpa using hb
  subst e
  obtain⟨o,e,c,d⟩:=st
  exact⟨o,e,fun v z=>by rw[d] at z;cases z⟩
 keep:=fun i h h' st k=>st.at fun o e=>k it (by simp) o e
 item:=by
  intro X hP hw hK hc i pins s σ H E I hf st hg
  subst hP hw hK
  obtain⟨xs,x,hq,hx⟩:=hg
  obtain⟨its,rv,p,hz⟩:=I.list hq
  obtain⟨u,hu,ru⟩:=rv.get hx
  obtain⟨f0,f1,f2,f3,f4,f5⟩:=hf it (by simp)
  refine wpAny_pyNext_list_item st p.isList (x:=u) (by simpa using hu) fun h' st' sb=>?_
  have I1:Inv X pins σ H {s with heap:=h'}:=I.turned (t':=s.toks) (fun b o hb e=>(sb.2 b hb).trans e) f0 f1 f3 f4 f5
  obtain⟨o,e,c,d⟩:=id st'
  exact⟨u,rfl,xn8 (s:={s with heap:=h'}) e c d (by decide) ⟨x,H,I1,ru,⟨rfl,fun ys hy=>by rw[I.list_inj hy hq];exact hx⟩,st',fun b hb=>(hf b hb).1⟩⟩
 done:=by
  intro X hP hw hK hc i pins s σ H E I hf st hg
  subst hP hw hK
  obtain⟨xs,hq,hx⟩:=hg
  obtain⟨its,rv,p,hz⟩:=I.list hq
  obtain⟨f0,f1,f2,f3,f4,f5⟩:=hf it (by simp)
  have hl:=rv.length
  exact wpAny_pyNext_list_end (I.ok.hd hc) st p.isList (by simp;omega) fun h' eb=>⟨rfl,I.turned (t':=s.toks) (fun b o hb e=>eb b o hb e) f0 f1 f3 f4 f5⟩
 self:=fun _ _ _ _ _ st h=>wpAny_pyIter_listiter st h
theorem yf6{tg:Expr}(a it:Addr):xe2 P w K tg (Itt K a) [it] it (fun i h=>h.IsTupleIter it a i) where
 mem:=by simp
 obj:=fun i h st b hb=>by
  have e:b=it:=by simpa using hb
  subst e
  obtain⟨o,e,c,d⟩:=st
  exact⟨o,e,fun v z=>by rw[d] at z;cases z⟩
 keep:=fun i h h' st k=>st.at fun o e=>k it (by simp) o e
 item:=by
  intro X hP hw hK hc i pins s σ H E I hf st hg
  subst hP hw hK
  obtain⟨xs,x,hq,hx⟩:=hg
  obtain⟨its,rv,p,hz⟩:=I.tuple hq
  obtain⟨u,hu,ru⟩:=rv.get hx
  obtain⟨f0,f1,f2,f3,f4,f5⟩:=hf it (by simp)
  refine wpAny_pyNext_tuple_item st (show s.heap.IsTuple a its.toArray from p) (x:=u) (by simpa using hu) fun h' st' sb=>?_
  have I1:Inv X pins σ H {s with heap:=h'}:=I.turned (t':=s.toks) (fun b o hb e=>(sb.2 b hb).trans e) f0 f1 f3 f4 f5
  obtain⟨o,e,c,d⟩:=id st'
  exact⟨u,rfl,xn8 (s:={s with heap:=h'}) e c d (by decide) ⟨x,H,I1,ru,⟨rfl,fun ys hy=>by rw[I.tuple_inj hy hq];exact hx⟩,st',fun b hb=>(hf b hb).1⟩⟩
 done:=by
  intro X hP hw hK hc i pins s σ H E I hf st hg
  subst hP hw hK
  obtain⟨xs,hq,hx⟩:=hg
  obtain⟨its,rv,p,hz⟩:=I.tuple hq
  obtain⟨f0,f1,f2,f3,f4,f5⟩:=hf it (by simp)
  have hl:=rv.length
  exact wpAny_pyNext_tuple_end (I.ok.hd hc) st (show s.heap.IsTuple a its.toArray from p) (by simp;omega) fun h' eb=>⟨rfl,I.turned (t':=s.toks) (fun b o hb e=>eb b o hb e) f0 f1 f3 f4 f5⟩
 self:=fun _ _ _ _ _ st h=>wpAny_pyIter_tupleiter st h
theorem yf7{tg:Expr}(it:Addr)(lo:Int)(n:Nat):xe2 P w K tg (Itr lo n) [it] it (fun i h=>IsRangeIter h it (lo+(i:Nat)*1) ((n:Int)-(i:Nat)) 1) where
 mem:=by simp
 obj:=fun i h st b hb=>by
  have e:b=it:=by simpa using hb
  subst e
  exact⟨_,st,fun v z=>by
   have z':Data.fields _=Data.cell v:=z
   cases z'⟩
 keep:=fun i h h' st k=>k it (by simp) _ st
 item:=by
  intro X hP hw hK hc i pins s σ H E I hf st hg
  subst hP hw hK
  obtain⟨f0,f1,f2,f3,f4,f5⟩:=hf it (by simp)
  have W:=Walks.range (prog:=X.prog) (w:=X.w) (I.ok.hd hc) it lo 1 n
  refine wpAny_with_toks (n:=1) I.tk (W.item i s _ _ hg st fun v h' tk hv st' kk ht=>?_)
  have ht:0<tk:=ht
  obtain⟨t,rfl⟩:=hv
  have I1:Inv X pins σ H {s with heap:=h',toks:=tk}:=I.turned (fun b o hb e=>kk b o (by simpa using hb) e) f0 f1 f3 f4 f5
  refine⟨_,rfl,xn8 (s:={s with heap:=h',toks:=tk}) (n := "range_iterator") st' rfl rfl (by decide) ⟨.int (lo+i),H,I1,⟨t,?_⟩,⟨rfl,rfl⟩,st',fun b hb=>(hf b hb).1⟩⟩
  rw[Int.mul_one]
 done:=by
  intro X hP hw hK hc i pins s σ H E I hf st hg
  subst hP hw hK
  obtain⟨f0,f1,f2,f3,f4,f5⟩:=hf it (by simp)
  exact wpAny_pyNext_range_end (I.ok.hd hc) st (by have:n<=i:=hg;omega) fun h' eb=>⟨rfl,I.turned (t':=s.toks) (fun b o hb e=>eb b o hb e) f0 f1 f3 f4 f5⟩
 self:=fun _ _ _ _ _ st h=>wpAny_pyIter_rangeiter st h
variable{R:It->Hp->Prop}{iter:Expr}{wi:TI}
section
variable{tg:Expr}
theorem xx8{lo hi:Int}{t u v:Tok}{tk:Nat}(I:Inv X pins σ H s)(h1:-(2 ^ 62)<=lo)(h2:lo<2 ^ 62)(h3:-(2 ^ 62)<=hi)(h4:hi<2 ^ 62)(q:R (Itr lo (hi-lo).toNat) H)(ht:autoParam (0<tk) zAt):wpAny (model X.prog X.w) X.A (pyIter (.ref s.heap.objs.size)) (PIE X pins σ tg R) E {s with heap:=s.heap.push {cls:=.type "range",data:=.fields #[.int lo t,.int hi u,.int 1 v]},toks:=tk}:=by
 refine wpAny_pyIter_range (IsRange.new ..) (small_one h1 h2 h3 h4) ?_
 have I1:Inv X pins σ H {s with heap:=s.heap.push {cls:=.type "range",data:=.fields #[.int lo t,.int hi u,.int 1 v]},toks:=tk}:=I.kept fun b o e=>Heap.get?_push_of_some _ e
 refine⟨(s.heap.push {cls:=.type "range",data:=.fields #[.int lo t,.int hi u,.int 1 v]}).objs.size,[(s.heap.push {cls:=.type "range",data:=.fields #[.int lo t,.int hi u,.int 1 v]}).objs.size],_,_,H,rfl,
  I1.kept (t':=tk) fun b o e=>Heap.get?_push_of_some _ e,yf7 _ lo (hi-lo).toNat,?_,fun b hb=>?_,q⟩
 ·have e1:lo+((0:Nat):Int)*1=lo:=by simp
  have e2:(((hi-lo).toNat:Nat):Int)-((0:Nat):Int)=Builtin.Range.rangeSize lo hi 1:=by rw[rangeSize_one];split <;> omega
  show IsRangeIter _ _ (lo+((0:Nat):Int)*1) ((((hi-lo).toNat:Nat):Int)-((0:Nat):Int)) 1
  rw[e1,e2]
  exact Heap.get?_push_size _ rfl
 ·have e:b=(s.heap.push {cls:=.type "range",data:=.fields #[.int lo t,.int hi u,.int 1 v]}).objs.size:=by simpa using hb
  subst e
  exact I1.fpOk (Nat.le_refl _) (I1.hok.fresh (Nat.le_refl _))
def ym4(ta:TA):TI:=fun σ H R=>ta σ H fun vs H1=>∃ j:Int,vs=[.int j]/\-(2 ^ 62)<=j/\j<2 ^ 62/\R (Itr 0 j.toNat) H1
def yx3(ta:TA):TI:=fun σ H R=>ta σ H fun vs H1=>∃ i j:Int,vs=[.int i,.int j]/\(-(2 ^ 62)<=i/\i<2 ^ 62/\-(2 ^ 62)<=j/\j<2 ^ 62)/\R (Itr i (j-i).toNat) H1
theorem xn9{a:Expr}{ta:TA}{p:Pos}(hg:Gl X "range")(hm:X.mg "range"=none)(ha:PA X [a] ta)(hs:autoParam (starEach [a] X.env=[(false,eval a X.env)]) zAr):PI X tg (.Call (.Name "range" p) [a] [] pos) (ym4 ta):=by
 intro pins s σ H R I h
 refine Call_ (wa6 I hg hm boot_range (PyProof.Rows.callWith_type1 (thn (ha pos pins s σ H _ I h) fun us s1 zq=>?_) hs rfl))
 obtain⟨vs,H1,I1,r1,q1⟩:=zq
 obtain⟨j,e,q1,q2,q⟩:=q1
 subst e
 cases r1 with
 | cons r rr =>
   cases rr
   obtain⟨t,rfl⟩:=r
   exact call_range_1 (xx8 I1 (by omega) (by omega) q1 q2 (by simpa using q))
theorem yr9{a b:Expr}{ta:TA}{p:Pos}(hg:Gl X "range")(hm:X.mg "range"=none)(ha:PA X [a,b] ta)(hs:autoParam (starEach [a,b] X.env=[(false,eval a X.env),(false,eval b X.env)]) zAr)(hs2:autoParam (starEach [b] X.env=[(false,eval b X.env)]) zAr) :
 PI X tg (.Call (.Name "range" p) [a,b] [] pos) (yx3 ta):=by
 intro pins s σ H R I h
 refine Call_ (wa6 I hg hm boot_range (PyProof.Rows.callWith_type1 (thn (ha pos pins s σ H _ I h) fun us s1 zq=>?_) (by rw[hs,hs2]) (by rw[hs2];rfl)))
 obtain⟨vs,H1,I1,r1,q1⟩:=zq
 obtain⟨i,j,e,⟨q1,q2,q3,q4⟩,q⟩:=q1
 subst e
 cases r1 with
 | cons r rr =>
   cases rr with
   | cons r' rr =>
     cases rr
     obtain⟨t,rfl⟩:=r
     obtain⟨t',rfl⟩:=r'
     exact call_range_2 (xx8 I1 q1 q2 q3 q4 q)
def qx9(wi:TI)(g:TG)(tb:TS):TS:=fun D σ H=>wi σ H fun J H1=>∃ W:Nat->Nat->St->Hp->Prop,(∃ m,W 0 m σ H1)/\∀ i m σ H,W i m σ H ->
 (J.stop i H/\D.nx σ H)\/(J.go i H/\∃ N:St->Hp->Prop,(∀ σ' H',N σ' H'->∃ m',m'<m/\W (i+1) m' σ' H')/\∀ x H',J.yld i H x H'->g x σ H' fun σ2 H2=>tb {D with nx:=N,ct:=N,bk:=D.nx} σ2 H2)
def xe3(fp:List Addr)(h:Heap):List (Addr×Obj):=fp.filterMap fun b=>(h.get? b).map fun o=>(b,o)
theorem wa9{fp:List Addr}{o:Obj}(hb:b∈fp)(e:h.get? b=some o):(b,o)∈xe3 fp h:=List.mem_filterMap.mpr ⟨b,hb,by rw[e];rfl⟩
theorem ys0{fp:List Addr}{p:Addr×Obj}(hp:p∈xe3 fp h):p.1∈fp/\h.get? p.1=some p.2:=by
 obtain⟨b,hb,e⟩:=List.mem_filterMap.mp hp
 cases q:h.get? b with
 | none=>rw[q] at e;cases e
 | some o =>
   rw[q] at e
   have e':(b,o)=p:=Option.some.inj e
   subst e'
   exact⟨hb,q⟩
theorem Inv.pinned{fp:List Addr}(I:Inv X pins σ H s)(hf:∀ b∈fp,xl0 X pins H b)(ho:∀ b∈fp,∃ o,s.heap.get? b=some o/\∀ v,o.data≠.cell v):Inv X (pins++xe3 fp s.heap) σ H s :=
 I.pins_of fun p hp=>(List.mem_append.mp hp).elim (fun z=>I.pin p (List.mem_append_right _ z)) fun z=>by
  obtain⟨hb,e⟩:=ys0 z
  obtain⟨f0,f1,f2,_⟩:=hf p.1 hb
  obtain⟨o,e',d⟩:=ho p.1 hb
  rw[e] at e';cases e'
  exact⟨e,f0,f1,f2,d⟩
theorem Inv.unpinned{pl:List (Addr×Obj)}(I:Inv X (pins++pl) σ H s):Inv X pins σ H s:=I.pins_of fun p hp=>I.pin p (List.mem_append_right _ (List.mem_append_left _ hp))
theorem X6(hp:PassesOwn (model X.prog X.w) X.A X.env X.xe)(hc:X.calm=true)(hi:PI X tg iter wi)(hg:PG X tg g)(hb:PSs X body tb)(hs:autoParam (∀ x,foldedSetIterable iter X.env x=pure x) zAi):PS X (.For tg iter body [] pos) (qx9 wi g tb):=by
 intro pins s σ H D I h
 refine wpAny_For (thn (hi pins s σ H _ I h) fun v s1 h1=>thn h1 fun itv s2 h2=>?_) hs
 obtain⟨it,fp,tn,J,H2,e,I2,T,st2,f2,W,⟨m0,w0⟩,turn⟩:=h2
 subst e
 have stat:∀ {H':Hp},(∀ b∈fp,H' b=none)->∀ b∈fp,xl0 X pins H' b:=fun hn b hb=>⟨hn b hb,(f2 b hb).2⟩
 refine codeAny_forLoop_any (fun n s'=>∃ i σ' H',Inv X pins σ' H' s'/\tn i s'.heap/\(∀ b∈fp,H' b=none)/\W i n σ' H') ?_ m0 ⟨0,σ,H2,I2,st2,fun b hb=>(f2 b hb).1,w0⟩
 rintro n s3 ⟨i,σ3,H3,I3,st3,fr3,w3⟩
 rcases turn i n σ3 H3 w3 with⟨stop,qn⟩|⟨go,N,hN,step⟩
 ·refine wpAny_passesOwn hp (thn (T.done X rfl rfl rfl hc i pins s3 σ3 H3 X.xe I3 (stat fr3) st3 stop) fun r s4 zq=>?_)
  obtain⟨hr,I4⟩:=zq
  subst hr
  exact wpAny_execs_nil ⟨σ3,H3,I4,qn⟩
 ·refine wpAny_passesOwn hp (thn (T.item X rfl rfl rfl hc i pins s3 σ3 H3 X.xe I3 (stat fr3) st3 go) fun r s4 zq=>?_)
  obtain⟨u,hr,h4⟩:=zq
  subst hr
  refine wpAny_passesOwn hp (thn h4 fun _ s5 zq=>?_)
  obtain⟨x,H5,I5,r5,y5,st5,fr5⟩:=zq
  have I5':=I5.pinned (stat fr5) (T.obj _ _ st5)
  refine wpAny_passesOwn hp (thn (hg _ s5 σ3 H5 x u _ I5' r5 (step x H5 y5)) fun _ s6 zq=>?_)
  obtain⟨σ6,H6,I6,q6⟩:=zq
  refine wpAny_passesOwn hp (thn (hb _ s6 σ6 H6 _ I6 q6) fun f s7 q7=>?_)
  have again:∀ {σ7:St} {H7:Hp},Inv X (pins++xe3 fp s5.heap) σ7 H7 s7->N σ7 H7->∃ m,m<n/\∃ i σ' H',Inv X pins σ' H' s7/\tn i s7.heap/\(∀ b∈fp,H' b=none)/\W i m σ' H':=fun{σ7 H7} I7 n7=>by
   obtain⟨m',hm,w7⟩:=hN σ7 H7 n7
   refine⟨m',hm,i+1,σ7,H7,I7.unpinned,T.keep _ _ _ st5 fun b hb o e=>(I7.pin (b,o) (List.mem_append_right _ (List.mem_append_right _ (wa9 hb e)))).1,fun b hb=>?_,w7⟩
   obtain⟨o,e,d⟩:=T.obj _ _ st5 b hb
   exact(I7.pin (b,o) (List.mem_append_right _ (List.mem_append_right _ (wa9 hb e)))).2.1
  cases f with
  | next=>obtain⟨σ7,H7,I7,n7⟩:=q7;exact again I7 n7
  | cont=>obtain⟨σ7,H7,I7,n7⟩:=q7;exact again I7 n7
  | brk=>obtain⟨σ7,H7,I7,q7⟩:=q7;exact⟨σ7,H7,I7.unpinned,q7⟩
  | ret v=>obtain⟨x7,σ7,H7,I7,r7,q7⟩:=q7;exact⟨x7,σ7,H7,I7.unpinned,r7,q7⟩
end
abbrev PAt{α:Type}(P:Nat->α->Hp->Prop)(i:Nat):α->Hp->Prop:=P i
variable{D:qf7}
theorem xe4(Pv:Nat->St->Hp->Prop)(h0:Pv 0 σ H)(hl:∀ i σ H,i<=xs.length->Pv i σ H->SqL K H a xs)(hs:∀ i x σ H,xs[i]?=some x->Pv i σ H->g x σ H fun σ2 H2=>tb {D with nx:=PAt Pv (i+1),ct:=PAt Pv (i+1),bk:=D.nx} σ2 H2)(hd:∀ σ H,Pv xs.length σ H->D.nx σ H) :
 ∃ W:Nat->Nat->St->Hp->Prop,(∃ m,W 0 m σ H)/\∀ i m σ H,W i m σ H ->
  ((Itl K a).stop i H/\D.nx σ H)\/((Itl K a).go i H/\∃ N:St->Hp->Prop,(∀ σ' H',N σ' H'->∃ m',m'<m/\W (i+1) m' σ' H')/\∀ x H',(Itl K a).yld i H x H'->g x σ H' fun σ2 H2=>tb {D with nx:=N,ct:=N,bk:=D.nx} σ2 H2):=by
 refine⟨fun i m σ H=>m=xs.length-i/\i<=xs.length/\Pv i σ H,⟨xs.length,by simp,Nat.zero_le _,h0⟩,?_⟩
 rintro i m σ H ⟨rfl,hi,p⟩
 have q:=hl i σ H hi p
 by_cases hlt:i<xs.length
 ·refine .inr ⟨⟨xs,xs[i],q,by simp[hlt]⟩,Pv (i+1),fun σ' H' p'=>⟨xs.length-(i+1),by omega,rfl,hlt,p'⟩,fun x H' y=>?_⟩
  obtain⟨e,y⟩:=y
  subst e
  exact hs i x σ _ (y xs q) p
 ·have e:i=xs.length:=by omega
  subst e
  exact .inl ⟨⟨xs,q,Nat.le_refl _⟩,hd σ H p⟩
theorem xr3(Pv:Nat->St->Hp->Prop)(h0:Pv 0 σ H)(hl:∀ i σ H,i<=xs.length->Pv i σ H->SqT K H a xs)(hs:∀ i x σ H,xs[i]?=some x->Pv i σ H->g x σ H fun σ2 H2=>tb {D with nx:=PAt Pv (i+1),ct:=PAt Pv (i+1),bk:=D.nx} σ2 H2)(hd:∀ σ H,Pv xs.length σ H->D.nx σ H) :
 ∃ W:Nat->Nat->St->Hp->Prop,(∃ m,W 0 m σ H)/\∀ i m σ H,W i m σ H ->
  ((Itt K a).stop i H/\D.nx σ H)\/((Itt K a).go i H/\∃ N:St->Hp->Prop,(∀ σ' H',N σ' H'->∃ m',m'<m/\W (i+1) m' σ' H')/\∀ x H',(Itt K a).yld i H x H'->g x σ H' fun σ2 H2=>tb {D with nx:=N,ct:=N,bk:=D.nx} σ2 H2):=by
 refine⟨fun i m σ H=>m=xs.length-i/\i<=xs.length/\Pv i σ H,⟨xs.length,by simp,Nat.zero_le _,h0⟩,?_⟩
 rintro i m σ H ⟨rfl,hi,p⟩
 have q:=hl i σ H hi p
 by_cases hlt:i<xs.length
 ·refine .inr ⟨⟨xs,xs[i],q,by simp[hlt]⟩,Pv (i+1),fun σ' H' p'=>⟨xs.length-(i+1),by omega,rfl,hlt,p'⟩,fun x H' y=>?_⟩
  obtain⟨e,y⟩:=y
  subst e
  exact hs i x σ _ (y xs q) p
 ·have e:i=xs.length:=by omega
  subst e
  exact .inl ⟨⟨xs,q,Nat.le_refl _⟩,hd σ H p⟩
theorem xo0{lo:Int}(Pv:Nat->St->Hp->Prop)(h0:Pv 0 σ H)(hs:∀ i σ H,i<n->Pv i σ H->g (.int (lo+i)) σ H fun σ2 H2=>tb {D with nx:=PAt Pv (i+1),ct:=PAt Pv (i+1),bk:=D.nx} σ2 H2)(hd:∀ σ H,Pv n σ H->D.nx σ H) :
 ∃ W:Nat->Nat->St->Hp->Prop,(∃ m,W 0 m σ H)/\∀ i m σ H,W i m σ H ->
  ((Itr lo n).stop i H/\D.nx σ H)\/((Itr lo n).go i H/\∃ N:St->Hp->Prop,(∀ σ' H',N σ' H'->∃ m',m'<m/\W (i+1) m' σ' H')/\∀ x H',(Itr lo n).yld i H x H'->g x σ H' fun σ2 H2=>tb {D with nx:=N,ct:=N,bk:=D.nx} σ2 H2):=by
 refine⟨fun i m σ H=>m=n-i/\i<=n/\Pv i σ H,⟨n,by simp,Nat.zero_le _,h0⟩,?_⟩
 rintro i m σ H ⟨rfl,hi,p⟩
 by_cases hlt:i<n
 ·refine .inr ⟨hlt,Pv (i+1),fun σ' H' p'=>⟨n-(i+1),by omega,rfl,hlt,p'⟩,fun x H' y=>?_⟩
  obtain⟨e,y⟩:=y
  subst e y
  exact hs i σ _ hlt p
 ·have e:i=n:=by omega
  subst e
  exact .inl ⟨Nat.le_refl _,hd σ H p⟩
theorem xx9{c:TT}(Pv:St->Hp->Prop)(μ:St->Hp->Nat)(h0:Pv σ H)(hs:∀ σ H,Pv σ H->c σ H fun b H1=>if b=true then tb {D with nx:=fun σ' H'=>Pv σ' H'/\μ σ' H'<μ σ H,ct:=fun σ' H'=>Pv σ' H'/\μ σ' H'<μ σ H,bk:=D.nx} σ H1 else D.nx σ H1)(mono:∀ σ H Q Q',(∀ b H1,Q b H1->Q' b H1)->c σ H Q->c σ H Q'):wa8 c tb D σ H:=by
 refine⟨fun m σ H=>m=μ σ H/\Pv σ H,⟨_,rfl,h0⟩,?_⟩
 rintro m σ H ⟨rfl,p⟩
 refine mono σ H _ _ (fun b H1 q=>?_) (hs σ H p)
 cases b with
 | true=>exact⟨_,fun σ' H' ⟨p',l⟩=>⟨_,l,rfl,p'⟩,q⟩
 | false=>exact q
abbrev R2:=V->V->Hp->VK->Prop
def OpR(X:Cx)(f:Value->Value->Sem Value)(r:R2):Prop :=
 ∀ (pins:List (Addr×Obj)) (s:Shared) (σ:St) (H:Hp) (x y:V) (v u:Value) (Q:VK),Inv X pins σ H s->L4 x v->L4 y u->r x y H Q ->
  wpAny (model X.prog X.w) X.A (f v u) (EP X pins σ Q) X.xe s
def UnR(X:Cx)(f:Value->Sem Value)(r:V->Hp->VK->Prop):Prop :=
 ∀ (pins:List (Addr×Obj)) (s:Shared) (σ:St) (H:Hp) (x:V) (v:Value) (Q:VK),Inv X pins σ H s->L4 x v->r x H Q ->
  wpAny (model X.prog X.w) X.A (f v) (EP X pins σ Q) X.xe s
def qm5(X:Cx)(f:Value)(r:List V->Hp->VK->Prop):Prop :=
 ∀ (pins:List (Addr×Obj)) (s:Shared) (σ:St) (H:Hp) (xs:List V) (us:List Value) (Q:VK),Inv X pins σ H s->L1 xs us->r xs H Q ->
  wpAny (model X.prog X.w) X.A (call f us) (EP X pins σ Q) X.xe s
def tOp(r:R2)(ta tb:TE):TE:=fun σ H Q=>ta σ H fun x H1=>tb σ H1 fun y H2=>r x y H2 Q
def tUn(r:V->Hp->VK->Prop)(ta:TE):TE:=fun σ H Q=>ta σ H fun x H1=>r x H1 Q
def rI(C:Int->Int->Prop)(g:Int->Int->V):R2:=fun x y H Q=>∃ i j,x=.int i/\y=.int j/\C i j/\Q (g i j) H
def rI0(g:Int->Int->V):R2:=fun x y H Q=>∃ i j,x=.int i/\y=.int j/\Q (g i j) H
def rU(g:Int->V):V->Hp->VK->Prop:=fun x H Q=>∃ i,x=.int i/\Q (g i) H
variable{tc:TE}{f:Value->Value->Sem Value}{i j:Int}
section
variable{a b:Expr}{tb:TE}
theorem zr5(ha:PE X a ta)(hb:PE X b tb){R:V->V->Hp->Prop}(I:Inv X pins σ H s)(h:ta σ H fun x H1=>tb σ H1 fun y H2=>R x y H2)(hf:∀ v u s2 x y H2,Inv X pins σ H2 s2->L4 x v->L4 y u->R x y H2->wpAny (model X.prog X.w) X.A (f v u) Q X.xe s2) :
 wpAny (model X.prog X.w) X.A (eval a X.env) (fun v s₁=>wpAny (model X.prog X.w) X.A (eval b X.env) (fun u s₂=>wpAny (model X.prog X.w) X.A (f v u) Q X.xe s₂) X.xe s₁) X.xe s:=by
 refine thn (ha pins s σ H _ I h) fun v s1 zq=>?_
 obtain⟨x,H1,I1,r1,q1⟩:=zq
 refine thn (hb pins s1 σ H1 _ I1 q1) fun u s2 zq=>?_
 obtain⟨y,H2,I2,r2,q2⟩:=zq
 exact hf v u s2 x y H2 I2 r1 r2 q2
theorem B6{op:Operator}{r:R2}(ho:OpR X (binaryOp op) r)(ha:PE X a ta)(hb:PE X b tb):PE X (.BinOp a op b pos) (tOp r ta tb):=by
 intro pins s σ H Q I h
 exact wpAny_BinOp (zr5 ha hb I h fun v u s2 x y H2 I2 rx ry q=>ho pins s2 σ H2 x y v u Q I2 rx ry q)
theorem qj5{op:UnaryOp}{r:V->Hp->VK->Prop}(ho:UnR X (unaryOp op) r)(ha:PE X a ta):PE X (.UnaryOp op a pos) (tUn r ta):=by
 intro pins s σ H Q I h
 exact UnaryOp_ (thn (ha pins s σ H _ I h) fun v s1 ⟨x,H1,I1,r1,q1⟩=>ho pins s1 σ H1 x v Q I1 r1 q1)
theorem opI{C:Int->Int->Prop}{g:Int->Int->Int}(rule:∀ (i j:Int) (t u:Tok) (s:Shared) (Q:Value->Shared->Prop) (E:Value->Shared->Prop),C i j->Q (.int (g i j) s.toks) {s with toks:=s.toks+1}->wpAny (model X.prog X.w) X.A (f (.int i t) (.int j u)) Q E s) :
 OpR X f (rI C fun i j=>.int (g i j)):=by
 intro pins s σ H x y v u Q I rx ry h
 obtain⟨i,j,rfl,rfl,hc,q⟩:=h
 obtain⟨t,rfl⟩:=rx
 obtain⟨t',rfl⟩:=ry
 exact rule i j t t' s _ _ hc ⟨.int (g i j),H,I.tok _,⟨_,rfl⟩,q⟩
theorem zx7{g:Int->Int->Int}(rule:∀ (i j:Int) (t u:Tok) (s:Shared) (Q:Value->Shared->Prop) (E:Value->Shared->Prop),Q (.int (g i j) s.toks) {s with toks:=s.toks+1}->wpAny (model X.prog X.w) X.A (f (.int i t) (.int j u)) Q E s) :
 OpR X f (rI0 fun i j=>.int (g i j)):=by
 intro pins s σ H x y v u Q I rx ry h
 obtain⟨i,j,rfl,rfl,q⟩:=h
 obtain⟨t,rfl⟩:=rx
 obtain⟨t',rfl⟩:=ry
 exact rule i j t t' s _ _ ⟨.int (g i j),H,I.tok _,⟨_,rfl⟩,q⟩
theorem zh7{g:Int->Int->Bool}(rule:∀ (i j:Int) (t u:Tok) (s:Shared) (Q:Value->Shared->Prop) (E:Value->Shared->Prop),Q (.bool (g i j)) s->wpAny (model X.prog X.w) X.A (f (.int i t) (.int j u)) Q E s) :
 OpR X f (rI0 fun i j=>.bl (g i j)):=by
 intro pins s σ H x y v u Q I rx ry h
 obtain⟨i,j,rfl,rfl,q⟩:=h
 obtain⟨t,rfl⟩:=rx
 obtain⟨t',rfl⟩:=ry
 exact rule i j t t' s _ _ ⟨.bl (g i j),H,I,rfl,q⟩
def xe5(i j:Int):Prop:=0<j/\j<1073741824
def yx4(i j:Int):Prop:=0<=j/\j<=1000000/\i.natAbs<2 ^ 64
def yf8(i j:Int):Prop:=(-(2 ^ 64)<i/\i<2 ^ 64)\/(-(2 ^ 64)<j/\j<2 ^ 64)
theorem yf8.ok(h:yf8 i j):IntMulOk i j:=by
 rcases h with⟨h1,h2⟩|⟨h1,h2⟩
 ·exact .of_left (intBits_le_64 h1 h2)
 ·exact .of_right (intBits_le_64 h1 h2)
theorem yf9(k:Nat):(0:Int)<=2 ^ k:=by
 rw[two_pow_cast]
 exact Int.natCast_nonneg _
theorem zr6:OpR X (binaryOp .Add) (rI0 fun i j=>.int (i+j)):=zx7 fun _ _ _ _ _ _ _ q=>add_int q
theorem wu7:OpR X (binaryOp .Sub) (rI0 fun i j=>.int (i-j)):=zx7 fun _ _ _ _ _ _ _ q=>sub_int q
theorem zr7:OpR X (binaryOp .Mult) (rI yf8 fun i j=>.int (i*j)):=opI fun _ _ _ _ _ _ _ hc q=>mul_int q hc.ok
theorem qt9:OpR X (binaryOp .FloorDiv) (rI xe5 fun i j=>.int (i / j)):=opI fun i j _ _ _ _ _ hc q=>by
 have h1:(0:Int)<j:=hc.1
 have h2:j<1073741824:=hc.2
 exact floordiv_int (by omega) (by rw[Int.fdiv_eq_ediv_of_nonneg i (by omega)];exact q) (.inl (PyProof.noPylong_small (by omega)))
theorem V4:OpR X (binaryOp .Mod) (rI (fun _ j=>0<j) fun i j=>.int (i % j)):=opI fun i j _ _ _ _ _ hc q=>by
 have h1:(0:Int)<j:=hc
 exact mod_int' (by omega) (by rw[Int.fmod_eq_emod_of_nonneg i (by omega)];exact q)
theorem yx5:OpR X (binaryOp .LShift) (rI yx4 fun i j=>.int (i*2 ^ j.toNat)):=opI fun _ _ _ _ _ _ _ hc q=>lshift_int_small hc.1 hc.2.1 hc.2.2 q
theorem yx6:OpR X (binaryOp .RShift) (rI (fun _ j=>0<=j) fun i j=>.int (i / 2 ^ j.toNat)):=opI fun i j _ _ _ _ _ hc q =>
 rshift_int hc (by rw[Int.fdiv_eq_ediv_of_nonneg i (yf9 _)];exact q)
theorem unI{f:Value->Sem Value}{g:Int->Int}(rule:∀ (i:Int) (t:Tok) (s:Shared) (Q:Value->Shared->Prop) (E:Value->Shared->Prop),Q (.int (g i) s.toks) {s with toks:=s.toks+1}->wpAny (model X.prog X.w) X.A (f (.int i t)) Q E s) :
 UnR X f (rU fun i=>.int (g i)):=by
 intro pins s σ H x v Q I rx h
 obtain⟨i,rfl,q⟩:=h
 obtain⟨t,rfl⟩:=rx
 exact rule i t s _ _ ⟨.int (g i),H,I.tok _,⟨_,rfl⟩,q⟩
theorem X7:UnR X (unaryOp .USub) (rU fun i=>.int (-i)):=unI fun _ _ _ _ _ q=>neg_int q
end
def zh8:V->V->Bool
 | .non,.non=>true | .non,.int _=>true | .int _,.non=>true | .non,.bl _=>true | .bl _,.non=>true | .non,.str _=>true | .str _,.non=>true
 | .int _,.int _=>true | .bl _,.bl _=>true | .str _,.str _=>true | .byt _,.byt _=>true
 | .int _,.str _=>true | .str _,.int _=>true | .bl _,.str _=>true | .str _,.bl _=>true
 | _,_=>false
def rEq:R2:=fun x y H Q=>zh8 x y=true/\Q (.bl (decide (x=y))) H
def rNe:R2:=fun x y H Q=>zh8 x y=true/\Q (.bl (!decide (x=y))) H
theorem ym5:decide (V.int i=V.int j)=(i == j):=by
 rw[Bool.eq_iff_iff]
 simp
theorem yx7{i j:Bool}:decide (V.bl i=V.bl j)=(i == j):=by
 rw[Bool.eq_iff_iff]
 simp
theorem ym6{i j:Str}:decide (V.str i=V.str j)=(i == j):=by
 rw[Bool.eq_iff_iff]
 simp
theorem ym7{i j:Array UInt8}:decide (V.byt i=V.byt j)=(i.toList == j.toList):=by
 rw[Bool.eq_iff_iff]
 cases i
 cases j
 simp
section
variable{a b:Expr}{tb:TE}
theorem M1{Q:VK}{k k':Bool}(I:Inv X pins σ H s)(q:Q (.bl k) H)(e:k=k'):EP X pins σ Q (.bool k') s:=by
 subst e
 exact⟨.bl k,H,I,rfl,q⟩
theorem zx8:OpR X (compareOp .Eq) rEq:=by
 intro pins s σ H x y v u Q I rx ry h
 obtain⟨hs,q⟩:=h
 cases x with
 | non =>
   cases rx
   cases y with
   | non=>cases ry;exact PySem.EqNone.eq_none_none (M1 I q (by simp))
   | bl j=>cases ry;exact PySem.EqNone.eq_none_bool (M1 I q (by simp))
   | int j=>obtain⟨t',rfl⟩:=ry;exact PySem.EqNone.eq_none_int (M1 I q (by simp))
   | str j=>obtain⟨t',rfl⟩:=ry;exact PySem.EqNone.eq_none_str (M1 I q (by simp))
   | _=>exact absurd (show false=true from hs) Bool.false_ne_true
 | bl i =>
   cases rx
   cases y with
   | non=>cases ry;exact PySem.EqNone.eq_bool_none (M1 I q (by simp))
   | bl j=>cases ry;exact eq_bool (M1 I q yx7)
   | str j=>obtain⟨t',rfl⟩:=ry;exact PySem.EqMixed.eq_bool_str (M1 I q (by simp))
   | _=>exact absurd (show false=true from hs) Bool.false_ne_true
 | int i =>
   obtain⟨t,rfl⟩:=rx
   cases y with
   | non=>cases ry;exact PySem.EqNone.eq_int_none (M1 I q (by simp))
   | int j=>obtain⟨t',rfl⟩:=ry;exact eq_int (M1 I q ym5)
   | str j=>obtain⟨t',rfl⟩:=ry;exact PySem.EqMixed.eq_int_str (M1 I q (by simp))
   | _=>exact absurd (show false=true from hs) Bool.false_ne_true
 | str i =>
   obtain⟨t,rfl⟩:=rx
   cases y with
   | non=>cases ry;exact PySem.EqNone.eq_str_none (M1 I q (by simp))
   | bl j=>cases ry;exact PySem.EqMixed.eq_str_bool (M1 I q (by simp))
   | int j=>obtain⟨t',rfl⟩:=ry;exact PySem.EqMixed.eq_str_int (M1 I q (by simp))
   | str j=>obtain⟨t',rfl⟩:=ry;exact eq_str (M1 I q ym6)
   | _=>exact absurd (show false=true from hs) Bool.false_ne_true
 | byt i =>
   obtain⟨t,rfl⟩:=rx
   cases y with
   | byt j=>obtain⟨t',rfl⟩:=ry;exact PySem.W.eq_bytes (M1 I q ym7)
   | _=>exact absurd (show false=true from hs) Bool.false_ne_true
 | _=>cases y <;> exact absurd (show false=true from hs) Bool.false_ne_true
theorem zx9:OpR X (compareOp .NotEq) rNe:=by
 intro pins s σ H x y v u Q I rx ry h
 obtain⟨hs,q⟩:=h
 cases x with
 | non =>
   cases rx
   cases y with
   | non=>cases ry;exact PySem.EqNone.ne_none_none (M1 I q (by simp))
   | bl j=>cases ry;exact PySem.EqNone.ne_none_bool (M1 I q (by simp))
   | int j=>obtain⟨t',rfl⟩:=ry;exact PySem.EqNone.ne_none_int (M1 I q (by simp))
   | str j=>obtain⟨t',rfl⟩:=ry;exact PySem.EqNone.ne_none_str (M1 I q (by simp))
   | _=>exact absurd (show false=true from hs) Bool.false_ne_true
 | bl i =>
   cases rx
   cases y with
   | non=>cases ry;exact PySem.EqNone.ne_bool_none (M1 I q (by simp))
   | bl j=>cases ry;exact ne_bool (M1 I q (congrArg not yx7))
   | str j=>obtain⟨t',rfl⟩:=ry;exact PySem.EqMixed.ne_bool_str (M1 I q (by simp))
   | _=>exact absurd (show false=true from hs) Bool.false_ne_true
 | int i =>
   obtain⟨t,rfl⟩:=rx
   cases y with
   | non=>cases ry;exact PySem.EqNone.ne_int_none (M1 I q (by simp))
   | int j=>obtain⟨t',rfl⟩:=ry;exact ne_int (M1 I q (congrArg not ym5))
   | str j=>obtain⟨t',rfl⟩:=ry;exact PySem.EqMixed.ne_int_str (M1 I q (by simp))
   | _=>exact absurd (show false=true from hs) Bool.false_ne_true
 | str i =>
   obtain⟨t,rfl⟩:=rx
   cases y with
   | non=>cases ry;exact PySem.EqNone.ne_str_none (M1 I q (by simp))
   | bl j=>cases ry;exact PySem.EqMixed.ne_str_bool (M1 I q (by simp))
   | int j=>obtain⟨t',rfl⟩:=ry;exact PySem.EqMixed.ne_str_int (M1 I q (by simp))
   | str j=>obtain⟨t',rfl⟩:=ry;exact ne_str (M1 I q (congrArg not ym6))
   | _=>exact absurd (show false=true from hs) Bool.false_ne_true
 | byt i =>
   obtain⟨t,rfl⟩:=rx
   cases y with
   | byt j=>obtain⟨t',rfl⟩:=ry;exact PySem.W.ne_bytes (M1 I q (congrArg not ym7))
   | _=>exact absurd (show false=true from hs) Bool.false_ne_true
 | _=>cases y <;> exact absurd (show false=true from hs) Bool.false_ne_true
theorem zy0:OpR X (compareOp .Lt) (rI0 fun i j=>.bl (decide (i<j))):=zh7 fun _ _ _ _ _ _ _ q=>lt_int q
theorem zy1:OpR X (compareOp .LtE) (rI0 fun i j=>.bl (decide (i<=j))):=zh7 fun _ _ _ _ _ _ _ q=>le_int q
theorem zy2:OpR X (compareOp .Gt) (rI0 fun i j=>.bl (decide (j<i))):=zh7 fun _ _ _ _ _ _ _ q=>gt_int q
theorem zy3:OpR X (compareOp .GtE) (rI0 fun i j=>.bl (decide (j<=i))):=zh7 fun _ _ _ _ _ _ _ q=>ge_int q
theorem ys1:OpR X (compareOp .Lt) (fun x y H Q=>∃ i j,x=.str i/\y=.str j/\Q (.bl (decide (i.cps.toList<j.cps.toList))) H):=by
 intro pins s σ H x y v u Q I rx ry h
 obtain⟨i,j,rfl,rfl,q⟩:=h
 obtain⟨t,rfl⟩:=rx
 obtain⟨t',rfl⟩:=ry
 exact lt_str (M1 I q rfl)
theorem ys2:OpR X (compareOp .In) (fun x y H Q=>∃ i j,x=.str i/\y=.str j/\Q (.bl (!(Builtin.Str.occurrences j i 0 j.length 1).isEmpty)) H):=by
 intro pins s σ H x y v u Q I rx ry h
 obtain⟨i,j,rfl,rfl,q⟩:=h
 obtain⟨t,rfl⟩:=rx
 obtain⟨t',rfl⟩:=ry
 exact in_str (M1 I q rfl)
theorem zr8:OpR X (compareOp .Is) (fun x y H Q=>y=.non/\Q (.bl (decide (x=.non))) H):=by
 intro pins s σ H x y v u Q I rx ry h
 obtain⟨rfl,q⟩:=h
 cases ry
 refine is_none_gen (M1 I q ?_)
 cases x <;> first
  | (cases rx;rfl)
  | (obtain⟨t,rfl⟩:=rx;rfl)
theorem zh9:OpR X (compareOp .IsNot) (fun x y H Q=>y=.non/\Q (.bl (!decide (x=.non))) H):=by
 intro pins s σ H x y v u Q I rx ry h
 obtain⟨rfl,q⟩:=h
 cases ry
 refine isnot_none_gen (M1 I q ?_)
 cases x <;> first
  | (cases rx;rfl)
  | (obtain⟨t,rfl⟩:=rx;rfl)
theorem OpR.or{r r':R2}(h:OpR X f r)(h':OpR X f r'):OpR X f (fun x y H Q=>r x y H Q\/r' x y H Q):=by
 intro pins s σ H x y v u Q I rx ry q
 rcases q with q|q
 ·exact h pins s σ H x y v u Q I rx ry q
 ·exact h' pins s σ H x y v u Q I rx ry q
theorem E7(b:Expr){op:CmpOp}(h:autoParam (op≠.In) zAd)(h2:autoParam (op≠.NotIn) zAd):behindInMarks op b=false:=by
 have e1:(op == CmpOp.In)=false:=by cases op <;> first|rfl|exact absurd rfl h
 have e2:(op == CmpOp.NotIn)=false:=by cases op <;> first|rfl|exact absurd rfl h2
 cases b <;> simp[behindInMarks,e1,e2]
theorem qu0{op:CmpOp}{r:R2}(ho:OpR X (compareOp op) r)(ha:PE X a ta)(hb:PE X b tb)(hm:behindInMarks op b=false):PE X (.Compare a [op] [b] pos) (tOp r ta tb):=by
 intro pins s σ H Q I h
 exact wpAny_Compare1 (zr5 ha hb I h fun v u s2 x y H2 I2 rx ry q=>ho pins s2 σ H2 x y v u Q I2 rx ry q) hm
def L0(t:TE):TT:=fun σ H Q=>t σ H fun x H'=>∃ k,x=.bl k/\Q k H'
theorem C8{op:CmpOp}{r:R2}(ho:OpR X (compareOp op) r)(ha:PE X a ta)(hb:PE X b tb)(hm:behindInMarks op b=false):PT X (.Compare a [op] [b] pos) (L0 (tOp r ta tb)):=by
 intro pins s σ H Q I h
 refine wpAny_isTrue_Compare1 (thn (ha pins s σ H _ I h) fun v s1 ⟨x,H1,I1,r1,q1⟩=>thn (hb pins s1 σ H1 _ I1 q1) fun u s2 ⟨y,H2,I2,r2,q2⟩ =>
  thn (ho pins s2 σ H2 x y v u _ I2 r1 r2 q2) fun c s3 ⟨z,H3,I3,r3,k,e,q3⟩=>?_) hm
 subst e
 cases r3
 exact wpAny_truthy_bool ⟨H3,I3,q3⟩
def xr4(r r':R2)(ta tb tc:TE):TE:=fun σ H Q=>ta σ H fun x H1=>tb σ H1 fun y H2=>r x y H2 fun z H3=>∃ k,z=.bl k /\
 (if k=true then tc σ H3 fun w' H4=>r' y w' H4 Q else Q (.bl false) H3)
theorem xy0{op op':CmpOp}{r r':R2}(ho:OpR X (compareOp op) r)(ho':OpR X (compareOp op') r')(ha:PE X a ta)(hb:PE X b tb)(hc:PE X c tc)(hm:lastMarks [op,op'] [b,c]=false:=by with_unfolding_all rfl):PE X (.Compare a [op,op'] [b,c] pos) (xr4 r r' ta tb tc):=by
 intro pins s σ H Q I h
 refine Compare_chain (thn (ha pins s σ H _ I h) fun v s1 ⟨x,H1,I1,r1,q1⟩=>chain_link (thn (hb pins s1 σ H1 _ I1 q1) fun u s2 ⟨y,H2,I2,r2,q2⟩ =>
  thn (ho pins s2 σ H2 x y v u _ I2 r1 r2 q2) fun d s3 ⟨z,H3,I3,r3,k,e,q3⟩=>?_)) hm
 subst e
 cases r3
 refine wpAny_truthy_bool ?_
 cases k with
 | false=>exact ite_ff ⟨.bl false,H3,I3,rfl,q3⟩
 | true=>exact ite_tt (chain_last (thn (hc pins s3 σ H3 _ I3 q3) fun w' s4 ⟨z',H4,I4,r4,q4⟩=>ho' pins s4 σ H4 y z' u w' Q I4 r2 r4 q4))
theorem wu8:(sizeLine:Nat)<2 ^ 63:=by rw[sizeLine_eq];decide
theorem yg0:OpR X (binaryOp .Add) (fun x y H Q=>∃ i j,x=.str i/\y=.str j/\i.length+j.length<=sizeLine/\Q (.str (i++j)) H):=by
 intro pins s σ H x y v u Q I rx ry h
 obtain⟨i,j,rfl,rfl,hz,q⟩:=h
 obtain⟨t,rfl⟩:=rx
 obtain⟨t',rfl⟩:=ry
 exact wpAny_with_toks (n:=1) I.tk (add_str (fun t' tk ht=>⟨.str (i++j),H,I.tok _ ht,⟨_,rfl⟩,q⟩) hz)
theorem wd3{x:V}(r:L1 [x] us):∃ u,us=[u]/\L4 x u:=by
 cases r with
 | cons r1 r2=>cases r2;exact⟨_,rfl,r1⟩
theorem xy1{x:V}(r:L1 [x,y] us):∃ u w',us=[u,w']/\L4 x u/\L4 y w':=by
 cases r with
 | cons r1 r2 =>
   cases r2 with
   | cons r3 r4=>cases r4;exact⟨_,_,rfl,r1,r3⟩
theorem ys3:qm5 X (.type "int") (fun xs H Q=>(∃ i,xs=[.int i]/\Q (.int i) H)\/∃ k,xs=[.bl k]/\Q (.int (if k then 1 else 0)) H):=by
 intro pins s σ H xs us Q I r h
 rcases h with⟨i,rfl,q⟩|⟨k,rfl,q⟩
 ·obtain⟨u,rfl,t,rfl⟩:=wd3 r
  exact call_int_int ⟨.int i,H,I,⟨_,rfl⟩,q⟩
 ·obtain⟨u,rfl,r1⟩:=wd3 r
  cases r1
  exact call_int_bool ⟨.int (if k then 1 else 0),H,I.tok _,⟨_,rfl⟩,q⟩
end
structure yg1(h:Heap)(x dx C:Addr)(mA:Str->Option Value):Prop where
 obj:h.get? x=some (PySem.W.instObj C dx)
 ns:h.Ns1 dx mA
 ne:dx≠x
variable{dx:Addr}{mA:Str->Option Value}
theorem ys4(n:h.Ns1 dx mA):∃ od,h.get? dx=some od/\∀ name,PySem.W.lookIn name od=some (mA name):=by
 obtain⟨o,es,ep,ho,hd,hk,_,hm⟩:=n
 refine⟨o,ho,fun name=>?_⟩
 have e:=hm name
 unfold nsFind findBy at e
 rw[<-Array.find?_toList] at e
 unfold PySem.W.lookIn
 rw[hd]
 dsimp only
 split
 ·rename_i y q
  rw[q] at e
  exact congrArg some e
 ·rename_i q
  rw[q] at e
  have a:es.toList.any (·.refKey)=false:=by
   rw[List.any_eq_false]
   intro y hy
   obtain⟨z,t,hkey⟩:=hk y (Array.mem_toList_iff.mp hy)
   simp[DictEntry.refKey,hkey]
  have a':¬es.toList.any (·.refKey)=true:=by rw[a];exact Bool.false_ne_true
  rw[if_neg a']
  exact congrArg some e
variable{C:Addr}
theorem yg1.look{x:Addr}(I:yg1 h x dx C mA):∃ od,PySem.W.InstAt h x (PySem.W.instObj C dx) C (some od)/\∀ name,PySem.W.lookIn name od=some (mA name) :=
 let ⟨od,ho,hl⟩:=ys4 I.ns
 ⟨od,⟨I.obj,rfl,rfl,ho⟩,hl⟩
variable{name:Str}{prog:Program}{pl:Sem Bool}{kw:List (Str×Value)}
section
variable{x f:Addr}{v:Value}
theorem zi0{expr:Bool}(X:K.In s.heap)(I:yg1 s.heap x dx C mA)(hg:PySem.W.plainGet K C name=true)(hh:PySem.W.hasDictIn K C=true)(ha:PySem.W.findIn K (.ref C) name=some none)(hv:mA name=some v)(hv':PySem.W.handedIn v=true)(h:Q v {s with toks:=s.toks+1}) :
 wpAny (model prog w) A (getAttr (.ref x) name expr) Q E s:=by
 obtain⟨od,J,hl⟩:=I.look
 exact PySem.W.get_value X J (PySem.W.plainGet_of hg).1 (PySem.W.findObj_own hh ha rfl (by rw[hl,hv])) hv' h
theorem yx8{Q:Value×List Value->Shared->Prop}(X:K.In s.heap)(I:yg1 s.heap x dx C mA)(hg:PySem.W.plainGet K C name=true)(hf:PySem.W.findIn K (.ref C) name=some (some (.ref f)))(ht:PySem.W.isFn K (.ref f)=true)(hv:mA name=none)(h:Q (.ref f,[.ref x]) s) :
 wpAny (model prog w) A (getMethod (.ref x) name pl) Q E s:=by
 obtain⟨od,J,hl⟩:=I.look
 exact PySem.W.method_fn X J (PySem.W.plainGet_of hg).1 (PySem.W.plainGet_of hg).2 hf (beq_iff_eq.mp ht) (by show(PySem.W.lookIn name od).map (·.isSome)=some false;rw[hl,hv];rfl) h
theorem zi1{ns:List Str}{Q:Unit->Shared->Prop}(X:K.In s.heap)(I:yg1 s.heap x dx C mA)(hs:PySem.W.findIn K (.ref C) "__setattr__"=some (some (.builtin "object.__setattr__")))(hp:PySem.W.plainOver K C=true)(ht:PySem.W.takerIn K C name=some none)(hh:PySem.W.hasDictIn K C=true)(hw:PySem.Within mA ns)(hsz:ns.length<=sizeLine)(h:∀ h',yg1 h' x dx C (fun y=>if y=name then some v else mA y)->Heap.SameBut dx s.heap h'->Q () {s with heap:=h',toks:=s.toks+2}) :
 wpAny (model prog w) A (setAttr (.ref x) name v) Q E s:=by
 obtain⟨od,J,hl⟩:=I.look
 refine PySem.W.set_plain X J hs (PySem.W.osa_open (s:={s with toks:=s.toks+1}) (r:=none) X J hp ht fun b=>?_)
 obtain⟨cd,hc,hd'⟩:=PySem.W.any_some hh
 have hx:s.heap.get? x=some ⟨.ref C,some dx,.plain,#[]⟩:=I.obj
 refine wpAny_bind (wpAny_pure (wpAny_bind (wpAny_bind (wpAny_loadPart hx (wpAny_bind (PySem.W.Looks.here (s:={s with toks:=s.toks+1}) (PySem.W.looks_clsIn X hc) ?_))))))
 rw[hd']
 refine wpAny_pure (a:=some dx) (wpAny_bind (wpAny_pure (wpAny_bind ?_)))
 refine wpAny_nsSet1 (s:={s with toks:=s.toks+1}) I.ns fun h' hn2 hs2=>?_
 obtain⟨oD,esD,epD,hoD,hdD,hcD⟩:=hn2.count (PySem.Within.cons name v hw)
 refine wpAny_bind (wpAny_lookBehind hoD (by rw[hdD];exact pastItsLine_dict (Nat.le_trans hcD (by rw[List.length_cons];omega))) ?_)
 exact wpAny_pure (h _ ⟨(hs2.2 _ (Ne.symm I.ne)).trans I.obj,hn2,I.ne⟩ hs2)
theorem yx9{R:Result->Shared->Prop}{vs:List Value}(X:K.In s.heap)(hm:PySem.W.makesIn K C=true)(hi:PySem.W.findIn K (.ref C) "__init__"=some (some (.ref f)))(hf:PySem.W.typeIn K (.ref f)=some (.type "function")) (h:codeAny (model prog w) (A.under (.builtin "type.__call__" ⟨.ref C::vs,kw⟩)) (.call (.ref f) ⟨.ref (s.heap.objs.size+1)::vs,kw⟩) (PySem.W.InitBack (s.heap.objs.size+1) R)
  {s with heap:=(s.heap.push PySem.W.emptyDict).push (PySem.W.instObj C s.heap.objs.size)}) :
 codeAny (model prog w) A (.call (.ref C) ⟨vs,kw⟩) R s:=by
 obtain⟨hh,g,d,t,os⟩:=s
 exact PySem.W.make_core (PySem.W.makes_of X hm) (PySem.W.looks_findIn X hi) (fun self=>PySem.W.bind_fn X self hf) (.inl rfl) h
end
def qm6(f:Str)(v:V):List (Str×V)->List (Str×V)
 | []=>[(f,v)]
 | (g,x)::r=>if g=f then(g,v)::r else(g,x)::qm6 f v r
theorem xa2(f g:Str)(v:V):∀ fs:List (Str×V),(qm6 f v fs).lookup g=if g=f then some v else fs.lookup g
 | []=>by
   show List.lookup g [(f,v)]=_
   by_cases h:g=f
   ·have hb:(g == f)=true:=beq_iff_eq.mpr h
    simp only[List.lookup,hb,if_pos h]
   ·have hb:(g == f)=false:=beq_eq_false_iff_ne.mpr h
    simp only[List.lookup,hb,if_neg h]
 | (k,x)::r=>by
   have ih:=xa2 f g v r
   rw[show qm6 f v ((k,x)::r)=(if k=f then(k,v)::r else(k,x)::qm6 f v r) from rfl]
   by_cases hk:k=f
   ·rw[if_pos hk]
    by_cases h:g=k
    ·have hb:(g == k)=true:=beq_iff_eq.mpr h
     simp only[List.lookup,hb,if_pos (h.trans hk)]
    ·have hb:(g == k)=false:=beq_eq_false_iff_ne.mpr h
     simp only[List.lookup,hb,if_neg (fun e:g=f=>h (e.trans hk.symm))]
   ·rw[if_neg hk]
    by_cases h:g=k
    ·have hb:(g == k)=true:=beq_iff_eq.mpr h
     simp only[List.lookup,hb,if_neg (fun e:g=f=>hk (h.symm.trans e))]
    ·have hb:(g == k)=false:=beq_eq_false_iff_ne.mpr h
     simp only[List.lookup,hb]
     exact ih
theorem wu9(f:Str)(v:V):∀ fs:List (Str×V),f∈(qm6 f v fs).map (·.1)/\∀ g,g∈fs.map (·.1)->g∈(qm6 f v fs).map (·.1)
 | []=>⟨by simp[qm6],fun g h=>by simp at h⟩
 | (k,x)::r=>by
   obtain⟨i1,i2⟩:=wu9 f v r
   rw[show qm6 f v ((k,x)::r)=(if k=f then(k,v)::r else(k,x)::qm6 f v r) from rfl]
   by_cases hk:k=f
   ·rw[if_pos hk]
    subst hk
    exact⟨by simp,fun g h=>by simpa using h⟩
   ·rw[if_neg hk]
    refine⟨?_,fun g h=>?_⟩
    ·rw[List.map_cons]
     exact List.mem_cons_of_mem _ i1
    ·rw[List.map_cons] at h ⊢
     rcases List.mem_cons.mp h with e|e
     ·exact List.mem_cons.mpr (.inl e)
     ·exact List.mem_cons_of_mem _ (i2 g e)
theorem xa3(f:Str)(v:V):∀ fs:List (Str×V),(qm6 f v fs).length<=fs.length+1
 | []=>by simp[qm6]
 | (k,x)::r=>by
   have ih:=xa3 f v r
   rw[show qm6 f v ((k,x)::r)=(if k=f then(k,v)::r else(k,x)::qm6 f v r) from rfl]
   by_cases hk:k=f
   ·rw[if_pos hk,List.length_cons,List.length_cons];omega
   ·rw[if_neg hk,List.length_cons,List.length_cons];omega
theorem wk7.some_of{o:Option Value}(r:wk7 (some v) o):∃ u,o=some u/\L4 v u:=by
 cases o with
 | none=>exact(show False from r).elim
 | some u=>exact⟨u,rfl,r⟩
theorem wk7.none_of{o:Option Value}(r:wk7 none o):o=none:=by
 cases o with
 | none=>rfl
 | some u=>exact(show False from r).elim
theorem ys5(r:L4 v u):PySem.W.handedIn u=true:=by
 cases v with
 | non=>cases (show u=Value.none from r);rfl
 | bl b=>cases (show u=Value.bool b from r);rfl
 | int i=>obtain⟨t,e⟩:=(show ∃ t,u=Value.int i t from r);cases e;rfl
 | str x=>obtain⟨t,e⟩:=(show ∃ t,u=Value.str x t from r);cases e;rfl
 | byt b=>obtain⟨t,e⟩:=(show ∃ t,u=Value.bytes b t from r);cases e;rfl
 | flt b=>obtain⟨t,e⟩:=(show ∃ t,u=Value.float b t from r);cases e;rfl
 | ref a=>cases (show u=Value.ref a from r);rfl
 | ty n=>cases (show u=Value.type n from r);rfl
section
variable{fs fs':List (Str×V)}
theorem xd1(hok:HOk P w H h)(e:H a=some (.ins C dx fs)):∃ mA,yg1 h a dx C mA/\(∀ f,wk7 (fs.lookup f) (mA f))/\PySem.Within mA (fs.map (·.1))/\fs.length<=1000/\H dx=some (.own a):=by
 obtain⟨d,z,ne,ob,mA,n,r,q⟩:=(show V1 P w H h a (.ins C dx fs) from hok a _ e)
 exact⟨mA,⟨ob,n,ne⟩,r,q,z,d⟩
end
structure Cls(K:Fg)(C:Addr):Prop where
 pg:PySem.W.plainGet K C Str.empty=true
 hd:PySem.W.hasDictIn K C=true
 po:PySem.W.plainOver K C=true
 sa:PySem.W.findIn K (.ref C) "__setattr__"=some (some (.builtin "object.__setattr__"))
theorem Cls.get(c:Cls K C)(f:Str):PySem.W.plainGet K C f=true:=c.pg
def wf1(K:Fg)(C:Addr)(f:Str):Prop:=PySem.W.findIn K (.ref C) f=some none
theorem wf1.taker{f:Str}(n:wf1 K C f):PySem.W.takerIn K C f=some none:=by
 unfold PySem.W.takerIn
 rw[show PySem.W.findIn K (.ref C) f=some none from n]
 rfl
structure wb0(K:Fg)(C:Addr)(m:Str)(f:Addr):Prop where
 at_:PySem.W.findIn K (.ref C) m=some (some (.ref f))
 fn:PySem.W.isFn K (.ref f)=true
 kp:PySem.W.keepIn K (.ref f)=true
variable{m:Str}{env:Env}
section
variable{fs:List (Str×V)}{f:Str}
theorem yg2{b:Bool}(I:Inv X pins σ H s)(e:H a=some (.ins C dx fs))(c:Cls X.K C)(n:wf1 X.K C f)(l:fs.lookup f=some v)(h:∀ u s',Inv X pins σ H s'->L4 v u->Q u s'):wpAny (model X.prog X.w) A (getAttr (.ref a) f b) Q E s:=by
 obtain⟨mA,O,r,_,_,_⟩:=xd1 I.hok e
 obtain⟨u,hu,ru⟩:=wk7.some_of (v:=v) (o:=mA f) (by rw[<-l];exact r f)
 exact zi0 I.kIn O (c.get f) c.hd n hu (ys5 ru) (h u _ (I.tok _) ru)
theorem xe6{g:Addr}{Q:Value×List Value->Shared->Prop}(I:Inv X pins σ H s)(e:H a=some (.ins C dx fs))(c:Cls X.K C)(k:wb0 X.K C m g)(l:fs.lookup m=none)(h:Q (.ref g,[.ref a]) s):wpAny (model X.prog X.w) A (getMethod (.ref a) m pl) Q E s:=by
 obtain⟨mA,O,r,_,_,_⟩:=xd1 I.hok e
 have hn:mA m=none:=wk7.none_of (by rw[<-l];exact r m)
 exact yx8 I.kIn O (c.get m) k.at_ k.fn hn h
theorem yg3{Q:Unit->Shared->Prop}(I:Inv X pins σ H s)(e:H a=some (.ins C dx fs))(c:Cls X.K C)(n:wf1 X.K C f)(hl:fs.length<1000)(ry:L4 y u)(h:∀ s',Inv X pins σ (upd H a (.ins C dx (qm6 f y fs))) s'->Q () s'):wpAny (model X.prog X.w) A (setAttr (.ref a) f u) Q E s:=by
 obtain⟨mA,O,r,wi,_,ho⟩:=xd1 I.hok e
 have hz:(fs.map (·.1)).length<=sizeLine:=by rw[List.length_map,sizeLine_eq];omega
 refine zi1 I.kIn O c.sa c.po n.taker c.hd wi hz fun h' O' sb=>h _ ?_
 have hd:∃ o,h'.get? dx=some o:=let ⟨o,_,_,e',_⟩:=O'.ns;⟨o,e'⟩
 refine I.write (x:=a) (e:=dx) (by rw[e];exact True.intro) (.inr ho) (fun b q hb z=>(sb.2 b hb).trans z) hd ?_
 refine⟨by rw[B7 O.ne];exact ho,?_,O.ne,O'.obj,_,O'.ns,fun g=>?_,fun g hg=>?_⟩
 ·have:=xa3 f y fs;omega
 ·show wk7 ((qm6 f y fs).lookup g) (if g=f then some u else mA g)
  rw[xa2]
  by_cases q:g=f
  ·rw[if_pos q,if_pos q];exact ry
  ·rw[if_neg q,if_neg q];exact r g
 ·by_cases q:g=f
  ·rw[q];exact(wu9 f y fs).1
  ·refine(wu9 f y fs).2 g (wi g fun z=>hg ?_)
   show(if g=f then some u else mA g)=none
   rw[if_neg q];exact z
theorem Inv.made(I:Inv X pins σ H s):Inv X pins σ (upd (upd H s.heap.objs.size (.own (s.heap.objs.size+1))) (s.heap.objs.size+1) (.ins C s.heap.objs.size []))
 {s with heap:=(s.heap.push PySem.W.emptyDict).push (PySem.W.instObj C s.heap.objs.size)}:=by
 have e1:(s.heap.push PySem.W.emptyDict).get? s.heap.objs.size=some PySem.W.emptyDict:=Heap.get?_push_size s.heap rfl
 have e2:((s.heap.push PySem.W.emptyDict).push (PySem.W.instObj C s.heap.objs.size)).get? (s.heap.objs.size+1)=some (PySem.W.instObj C s.heap.objs.size):=by
  have:=Heap.get?_push_size (s.heap.push PySem.W.emptyDict) (o:=PySem.W.instObj C s.heap.objs.size) rfl
  rwa [Heap.size_push] at this
 have e3:(s.heap.push PySem.W.emptyDict).Ns s.heap.objs.size (fun _=>none):=⟨PySem.W.emptyDict,#[],_,e1,rfl,(fun e he=>absurd he (by simp)),fun _=>rfl⟩
 have I1:=I.laid (a:=s.heap.objs.size) (o:=.own (s.heap.objs.size+1)) (h':=s.heap.push PySem.W.emptyDict) (t':=s.toks) (fun b u q=>Heap.get?_push_of_some _ q) (Nat.le_refl _) ⟨_,e1⟩
 refine I1.laid (a:=s.heap.objs.size+1) (o:=.ins C s.heap.objs.size []) (t':=s.toks) (fun b u q=>Heap.get?_push_of_some _ q) (Nat.le_of_eq (Heap.size_push _ _)) ?_
 have ne:s.heap.objs.size≠s.heap.objs.size+1:=Nat.ne_of_lt (Nat.lt_succ_self _)
 refine⟨by rw[B7 ne,A6],Nat.zero_le _,ne,e2,fun _=>none,(Heap.Ns1.of_empty e3).at fun o q=>Heap.get?_push_of_some _ q,fun _=>True.intro,fun y hy=>absurd rfl hy⟩
theorem zi2{f:Str}(hb:attributeBase e f env (eval e env)=eval e env)(h:wpAny (model prog w) A (eval e env) (fun o s₁=>wpAny (model prog w) A (getAttr o f true) Q E s₁) E s):wpAny (model prog w) A (eval (.Attribute e f pos) env) Q E s :=
 Attribute_any_ h (by rw[arm_eval_Attribute,hb])
end
def T3(K:Fg)(ta:TE)(f:Str):TE:=fun σ H Q=>ta σ H fun x H1=>∃ a C dx fs v,x=.ref a/\H1 a=some (.ins C dx fs)/\Cls K C/\wf1 K C f/\fs.lookup f=some v/\Q v H1
def wf2(K:Fg)(ta tv:TE)(f:Str):TS:=fun D σ H=>tv σ H fun y H1=>ta σ H1 fun x H2=>∃ a C dx fs,x=.ref a/\H2 a=some (.ins C dx fs)/\Cls K C/\wf1 K C f/\fs.length<1000 /\
 D.nx σ (upd H2 a (.ins C dx (qm6 f y fs)))
variable{tpos:Pos}{tv:TE}{value:Expr}
section
variable{f:Str}
theorem J8(he:PE X e ta)(hb:attributeBase e f X.env (eval e X.env)=eval e X.env):PE X (.Attribute e f pos) (T3 X.K ta f):=by
 intro pins s σ H Q I h
 refine zi2 hb (thn (he pins s σ H _ I h) fun u s1 zq=>?_)
 obtain⟨x,H1,I1,rx,a,C,dx,fs,v,ex,ea,c,n,l,q⟩:=zq
 subst ex
 obtain rfl:u=Value.ref a:=rx
 exact yg2 I1 ea c n l fun u' s2 I2 ru=>⟨v,H1,I2,ru,q⟩
theorem qw5(ha:PE X o ta)(hv:PE X value tv)(hs:swapsWith value (some (.Attribute o f pos')) pos.line X.env=pure false):PS X (.Assign [.Attribute o f pos'] value pos) (wf2 X.K ta tv f):=by
 intro pins s σ H D I h
 refine plainObj_wpAny_Assign_Attribute (thn (hv pins s σ H _ I h) fun u s1 ⟨y,H1,I1,ry,q⟩=>thn (ha pins s1 σ H1 _ I1 q) fun ov s2 zq=>?_) hs
 obtain⟨x,H2,I2,rx,a,C,dx,fs,ex,ea,c,n,l,q2⟩:=zq
 subst ex
 obtain rfl:ov=Value.ref a:=rx
 exact yg3 I2 ea c n l ry fun s3 I3=>⟨σ,_,I3,q2⟩
end
section
variable{c:Value}{b:Bool}
inductive wp8(K:Fg)(H:Hp):V->Value->Prop where
 | non:wp8 K H .non (.type "NoneType")
 | bl (x:Bool):wp8 K H (.bl x) (.type "bool")
 | int (i:Int):wp8 K H (.int i) (.type "int")
 | str (x:Str):wp8 K H (.str x) (.type "str")
 | flt (x:UInt64):wp8 K H (.flt x) (.type "float")
 | lst {a:Addr} {xs:List V} (e:H a=some (.lst xs)):wp8 K H (.ref a) (.type "list")
 | frz {a:Addr} {o:Obj} {xs:List V} (e:H a=some (.frz o (.lst xs))):wp8 K H (.ref a) (.type "list")
 | tup {a:Addr} {xs:List V} (e:H a=some (.tup xs)):wp8 K H (.ref a) (.type "tuple")
 | dK {a:Addr} {kvs:List (Key×V)} (e:H a=some (.dK kvs)):wp8 K H (.ref a) (.type "dict")
 | dT {a:Addr} {kvs:List (List Key×V)} (e:H a=some (.dT kvs)):wp8 K H (.ref a) (.type "dict")
 | ins {a C dx:Addr} {fs:List (Str×V)} (e:H a=some (.ins C dx fs)) (cl:Cls K C) (ha:PySem.W.findIn K (.ref C) "__class__"=some (some (.builtin "object.__class__")))
  (hn:PySem.W.specialIn K (.builtin "object.__class__") "__get__"=some (some (.builtin "getset_descriptor.__get__"))) (htk:PySem.W.takesIn K (.builtin "object.__class__")=some true)
  (hm:PySem.W.mroIn K C (.type "object")=some true):wp8 K H (.ref a) (.ref C)
theorem ys6{x:V}{t:Value}(I:Inv X pins σ H s)(rx:L4 x u)(ty:wp8 X.K H x t)(e:PySem.W.kitOne X.K t c=some b)(h:∀ tk,Q (.bool b) {s with toks:=tk}) :
 wpAny (model X.prog X.w) A (call (.builtin "isinstance") [u,c]) Q E s:=by
 cases ty with
 | non=>cases (show u=Value.none from rx);exact PySem.W.kia_one PySem.W.kitx_none I.kIn True.intro e (fun z=>nomatch z) h
 | bl y=>cases (show u=Value.bool y from rx);exact PySem.W.kia_one PySem.W.kitx_bool I.kIn True.intro e (fun z=>nomatch z) h
 | int i=>obtain⟨t,q⟩:=(show ∃ t,u=Value.int i t from rx);cases q;exact PySem.W.kia_one PySem.W.kitx_int I.kIn True.intro e (fun z=>nomatch z) h
 | str y=>obtain⟨t,q⟩:=(show ∃ t,u=Value.str y t from rx);cases q;exact PySem.W.kia_one PySem.W.kitx_str I.kIn True.intro e (fun z=>nomatch z) h
 | flt y=>obtain⟨t,q⟩:=(show ∃ t,u=Value.float y t from rx);cases q;exact PySem.W.kia_one PySem.W.kitx_float I.kIn True.intro e (fun z=>nomatch z) h
 | @lst a xs ea =>
   cases (show u=Value.ref a from rx)
   obtain⟨_,_,n,_,h1⟩:=(show V1 X.prog X.w H s.heap a (.lst xs) from I.hok a _ ea)
   exact PySem.W.kia_one PySem.W.kitx_list I.kIn ⟨_,h1,rfl⟩ e (fun z=>nomatch z) h
 | @frz a ob xs ea =>
   cases (show u=Value.ref a from rx)
   obtain⟨_,_,_,n,_,h1⟩:=(show V1 X.prog X.w H s.heap a (.frz ob (.lst xs)) from I.hok a _ ea)
   exact PySem.W.kia_one PySem.W.kitx_list I.kIn ⟨_,h1,rfl⟩ e (fun z=>nomatch z) h
 | @tup a xs ea =>
   cases (show u=Value.ref a from rx)
   obtain⟨_,_,_,p⟩:=(show V1 X.prog X.w H s.heap a (.tup xs) from I.hok a _ ea)
   obtain⟨o,h1,h2,_⟩:=p
   exact PySem.W.kia_one PySem.W.kitx_tuple I.kIn ⟨o,h1,h2⟩ e (fun z=>nomatch z) h
 | @dK a kvs ea =>
   cases (show u=Value.ref a from rx)
   obtain⟨_,_,vs,_,p⟩:=(show V1 X.prog X.w H s.heap a (.dK kvs) from I.hok a _ ea)
   obtain⟨o,es,ep,h1,h2,_⟩:=p
   exact PySem.W.kia_one PySem.W.kitx_dict I.kIn ⟨o,h1,h2.1⟩ e (fun z=>nomatch z) h
 | @dT a kvs ea =>
   cases (show u=Value.ref a from rx)
   obtain⟨_,_,xs,_,o,es,ep,h1,h2,_⟩:=(show V1 X.prog X.w H s.heap a (.dT kvs) from I.hok a _ ea)
   exact PySem.W.kia_one PySem.W.kitx_dict I.kIn ⟨o,h1,h2.1⟩ e (fun z=>nomatch z) h
 | @ins a C dx fs ea cl ha hn htk hm =>
   cases (show u=Value.ref a from rx)
   obtain⟨mA,O,_⟩:=xd1 I.hok ea
   obtain⟨od,J,_⟩:=O.look
   exact PySem.W.kia_one (PySem.W.kitx_own (cl.get _) cl.hd ha hn htk hm) I.kIn J e (fun z=>nomatch z) h
end
structure qk8(k:Nat)(A:Around):Prop where
 hd:A.handled=none
 dp:A.depth+3*k+5<recursionLimit
 un:A.units+16*k+200<cLine
 gd:A.guards=some []
theorem qk8.mono{j k:Nat}(r:qk8 k A)(h:j<=k):qk8 j A:=⟨r.hd,by have:=r.dp;omega,by have:=r.un;omega,r.gd⟩
theorem qk8.deeper{k:Nat}(r:qk8 (k+1) A)(env:Env):qk8 k (A.deeper env) :=
 ⟨r.hd,by have:=r.dp;show A.depth+1+3*k+5<_;omega,by have:=r.un;show A.units+3+16*k+200<_;omega,r.gd⟩
theorem yg4:(A.under (.builtin "type.__call__" ⟨.ref C::us,kw⟩)).depth=A.depth+1:=by
 first|rfl|simp[Around.under,Code.weight,Code.isCreation,Code.isGuard,Code.isCaller,Code.frames,Code.isFrame,guardIds]
theorem yg5:(A.under (.builtin "type.__call__" ⟨.ref C::us,kw⟩)).units=A.units+1:=by
 first|rfl|simp[Around.under,Code.cUnits,Code.frames,Code.isFrame]
theorem xy2:(A.under (.builtin "type.__call__" ⟨.ref C::us,kw⟩)).guards=pushGuards [] A.guards:=by
 first|rfl|simp[Around.under,Code.guards,Code.isGuard,guardIds]
theorem qk8.make{k:Nat}(r:qk8 (k+1) A)(C:Addr)(us:List Value)(kw:List (Str×Value)):qk8 k (A.under (.builtin "type.__call__" ⟨.ref C::us,kw⟩)) :=
 ⟨r.hd,by have:=r.dp;rw[yg4];omega,by have:=r.un;rw[yg5];omega,by rw[xy2,r.gd];rfl⟩
theorem qk8.depth{k:Nat}(r:qk8 k A):A.depth<recursionLimit:=by have:=r.dp;omega
theorem qk8.units{k:Nat}(r:qk8 k A):A.units+64<cLine:=by have:=r.un;omega
def B0:TA:=fun _ H Q=>Q [] H
def A2(ta:TE)(tr:TA):TA:=fun σ H Q=>ta σ H fun x H1=>tr σ H1 fun xs H2=>Q (x::xs) H2
variable{t:TA}
theorem A4:PA X [] B0:=fun _ _ _ _ H Q I h=>Calls.spliced_nil ⟨[],H,I,.nil,h⟩
theorem A0(ha:PE X e te)(hr:PA X es t)(hs:autoParam (starEach (e::es) X.env=(false,eval e X.env)::starEach es X.env) zAr):PA X (e::es) (A2 te t):=by
 intro pos pins s σ H Q I h
 rw[hs]
 show wpAny _ _ (spliced ((false,eval e X.env)::backTo pos (starEach es X.env))) _ _ s
 refine Calls.spliced_cons (thn (ha pins s σ H _ I h) fun u s1 zq=>?_)
 obtain⟨x,H1,I1,r1,q1⟩:=zq
 exact thn (hr pos pins s1 σ H1 _ I1 q1) fun us s2 ⟨xs,H2,I2,r2,q2⟩=>⟨x::xs,H2,I2,.cons r1 r2,q2⟩
def M2(t:TA):TE:=fun σ H Q=>t σ H fun xs H1=>xs.length<=sizeLine/\∀ p,H1 p=none->Q (.ref p) (upd H1 p (.tup xs))
def qd5(t:TA):TE:=fun σ H Q=>t σ H fun xs H1=>xs.length<=sizeLine/\∀ p,H1 p=none->Q (.ref p) (upd H1 p (.lst xs))
theorem C4{x1}(h:PA X es t):PE X (.Tuple es x1 pos) (M2 t):=by
 intro pins s σ H Q I hq
 refine wpAny_Tuple_spliced (thn (h pos pins s σ H _ I hq) fun us s1 ⟨xs,H1,I1,r,z,q⟩=>⟨by rw[<-r.length];exact z,?_⟩)
 have hf:H1 s1.heap.objs.size=none:=I1.hok.fresh (Nat.le_refl _)
 refine⟨.ref s1.heap.objs.size,upd H1 s1.heap.objs.size (.tup xs),I1.laid (t':=s1.toks) (fun b u e=>Heap.get?_push_of_some _ e) (Nat.le_refl _) ?_,rfl,q _ hf⟩
 exact⟨z,us,r,⟨_,Heap.get?_push_size _ rfl,rfl,_,rfl⟩⟩
theorem P2(h:PA X es t):PE X (.List es pos) (qd5 t):=by
 intro pins s σ H Q I hq
 refine wpAny_List_spliced (thn (h pos pins s σ H _ I hq) fun us s1 ⟨xs,H1,I1,r,z,q⟩=>⟨by rw[<-r.length];exact z,?_⟩)
 have hf:H1 s1.heap.objs.size=none:=I1.hok.fresh (Nat.le_refl _)
 refine⟨.ref s1.heap.objs.size,upd H1 s1.heap.objs.size (.lst xs),I1.laid (t':=s1.toks) (fun b u e=>Heap.get?_push_of_some _ e) (Nat.le_refl _) ?_,rfl,q _ hf⟩
 exact⟨z,us,0,r,Heap.get?_push_size _ rfl⟩
abbrev Sp:=List V->Hp->VK->XK->Prop
abbrev CXT:=List Env->Hp->Shared->XK->Value->Shared->Prop
structure yg6(P:Program)(w:World)(K:Fg)(mg:Str->Option Value)(base:Heap)(A:Around)(outer:List Env)(s:Shared)(H:Hp):Prop where
 frames:A.frames=some outer
 mod:Mod K mg base
 bs:∀ b o,base.get? b=some o->s.heap.get? b=some o/\H b=none
 bsz:base.objs.size<=s.heap.objs.size
 funs:s.heap.FunFrames base outer
 frf:∀ b∈frs outer,H b=none
 hok:HOk P w H s.heap
 bare:AllBare s.gens
 tk:0<s.toks
def CE(outer:List Env)(P:Program)(w:World)(H:Hp)(s:Shared)(Q:VK)(u:Value)(s':Shared):Prop :=
 ∃ v H',0<s'.toks/\s'.os=s.os/\AllBare s'.gens/\Un (frs outer) [] H H' s.heap s'.heap/\HOk P w H' s'.heap/\L4 v u/\Q v H'
def CR(CX:CXT)(outer:List Env)(P:Program)(w:World)(H:Hp)(s:Shared)(Q:VK)(E:XK)(r:Result)(s':Shared):Prop :=
 match r with
 | .ok (.ret u)=>CE outer P w H s Q u s'
 | .ok _=>False
 | .error e=>CX outer H s E e s'
structure L5(P:Program)(w:World)(K:Fg)(mg:Str->Option Value)(base:Heap)(CX:CXT)(k:Nat)(f:Addr)(fd:FuncData)(ps:List Str)(sp:Sp):Prop where
 len:∀ vs H Q E,sp vs H Q E->vs.length=ps.length
 run:∀ (A:Around) (outer:List Env) (s:Shared) (H:Hp) (args:Args) (us:List Value) (vs:List V) (Q:VK) (E:XK),qk8 k A->yg6 P w K mg base A outer s H->BindsTo s fd args (ps.zip us)->L1 vs us->sp vs H Q E ->
  codeAny (model P w) A (.call (.ref f) args) (CR CX outer P w H s Q E) s
variable{base:Heap}{mg:Str->Option Value}{outer:List Env}
theorem yg6.make(e:yg6 P w K mg base A outer s H)(C:Addr)(us:List Value)(kw:List (Str×Value)) :
 yg6 P w K mg base (A.under (.builtin "type.__call__" ⟨.ref C::us,kw⟩)) outer s H:=⟨by first|exact e.frames|(simpa [Around.under,Code.envs,Code.isFrame,pushEnvs] using e.frames),e.mod,e.bs,e.bsz,e.funs,e.frf,e.hok,e.bare,e.tk⟩
section
variable{s':Shared}
theorem Inv.env0(I:Inv X pins σ H s):yg6 X.prog X.w X.K X.mg X.base X.A X.stack s H :=
 ⟨I.ok.frames,I.ok.mod,I.bs,Nat.le_trans I.ok.bsz I.sz,I.stack,I.stkFree,I.hok,I.bare,I.tk⟩
theorem Inv.after{Q:VK}(I:Inv X pins σ H s)(h:CE X.stack X.prog X.w H s Q u s'):EP X pins σ Q u s':=by
 obtain⟨v,H',ht,os,bare,un,hok,r,q⟩:=h
 obtain⟨hh,g,d,t,os'⟩:=s'
 obtain rfl:os'=s.os:=os
 exact⟨v,H',I.call (h':=hh) (g':=g) (d':=d) (t':=t) (ch:=[]) un hok bare (fun b z=>absurd z (by simp)) ht,r,q⟩
end
def E2(sp:Sp)(dvs:List V)(E:XK)(t:TA):TE:=fun σ H Q=>t σ H fun vs H1=>sp (vs++dvs) H1 Q E
def N9(C:Addr)(m:Str)(sp:Sp)(dvs:List V)(E:XK)(ta:TE)(t:TA):TE:=fun σ H Q=>ta σ H fun x H1=>∃ a dx fs,x=.ref a/\H1 a=some (.ins C dx fs)/\fs.lookup m=none /\
 t σ H1 fun vs H2=>sp (x::(vs++dvs)) H2 Q E
def xy3(C:Addr)(sp:Sp)(dvs:List V)(E:XK)(t:TA):TE:=fun σ H Q=>t σ H fun vs H1=>∀ x dx,H1 x=none->H1 dx=none->dx≠x ->
 sp (.ref x::(vs++dvs)) (upd (upd H1 dx (.own x)) x (.ins C dx [])) (fun v H2=>v=.non/\Q (.ref x) H2) E
def U4(K:Fg)(fd:FuncData)(ps:List Str)(ds:List Value):Prop :=
 ∀ (s:Shared) (us:List Value),K.In s.heap->(us++ds).length=ps.length->BindsTo s fd ⟨us,[]⟩ (ps.zip (us++ds))
variable{fd:FuncData}{ps:List Str}
theorem U4.all(h:∀ us:List Value,us.length=ps.length->bindArgs fd ⟨us,[]⟩=pure (ps.zip us)):U4 K fd ps []:=fun s us _ hl=>by
 rw[List.append_nil] at hl ⊢
 exact .of_eq (h us hl)
def wf3(CX:CXT)(X:Cx)(E:XK):Prop:=∀ (pins:List (Addr×Obj)) (σ:St) (H:Hp) (s:Shared) (e:Value) (s':Shared),Inv X pins σ H s->CX X.stack H s E e s'->X.xe e s'
variable{CX:CXT}{apos:Pos}{dvs vs:List V}{sp:Sp}
section
variable{k:Nat}{f:Addr}{ds:List Value}{E:XK}{p:Pos}
theorem yg7{Q:VK}(F:L5 X.prog X.w X.K X.mg X.base CX k f fd ps sp)(hr:qk8 k X.A)(hb:U4 X.K fd ps ds)(hd:L1 dvs ds)(hx:wf3 CX X E)(I:Inv X pins σ H s)(r:L1 vs us)(h:sp (vs++dvs) H Q E):wpAny (model X.prog X.w) X.A (call (.ref f) us) (EP X pins σ Q) X.xe s:=by
 have r2:L1 (vs++dvs) (us++ds):=r.append hd
 have hl:(us++ds).length=ps.length:=by rw[<-r2.length];exact F.len _ _ _ _ h
 refine wpAny_call (codeAny_mono (F.run X.A X.stack s H ⟨us,[]⟩ (us++ds) (vs++dvs) Q E hr I.env0 (hb s us I.kIn hl) r2 h) fun r s' hq=>?_)
 cases r with
 | error e=>exact hx pins σ H s e s' I hq
 | ok fl =>
   cases fl with
   | ret u=>exact I.after hq
   | next=>exact False.elim hq
   | brk=>exact False.elim hq
   | cont=>exact False.elim hq
theorem zi3(F:L5 X.prog X.w X.K X.mg X.base CX k f fd ps sp)(hr:qk8 k X.A)(hg:Gl X x)(hm:X.mg x=some (.ref f))(hk:PySem.W.keepIn X.K (.ref f)=true)(hb:U4 X.K fd ps ds)(hd:L1 dvs ds)(hx:wf3 CX X E)(ha:PA X (e::es) t)(hdb:autoParam ((x == ("__debug__":Str))=false) zAd)(he:autoParam (starEach (e::es) X.env=(false,eval e X.env)::starEach es X.env) zAr)(hpl:autoParam ((backTo pos (starEach es X.env)).any (·.1)=false) zAr) :
 PE X (.Call (.Name x p) (e::es) [] pos) (E2 sp dvs E t):=by
 intro pins s σ H Q I h
 refine wpAny_Call_Name_kw (xr0 I hg hm ?_ hdb)
 refine PySem.W.callWith_K (h₀:=X.base) I.ok.mod.kin hk (thn (ha pos pins s σ H _ I h) fun us s1 ⟨vs,H1,I1,r,q⟩=>⟨I1.kIn,?_⟩) he hpl
 exact yg7 F hr hb hd hx I1 r q
theorem O7(he:PE X o ta)(c:Cls X.K C)(hm:wb0 X.K C m f)(F:L5 X.prog X.w X.K X.mg X.base CX k f fd ps sp)(hr:qk8 k X.A)(hb:U4 X.K fd ps ds)(hd:L1 dvs ds)(hx:wf3 CX X E)(ha:PA X (e::es) t)(hst:autoParam (starEach (e::es) X.env=(false,eval e X.env)::starEach es X.env) zAr)(hpl:autoParam ((backTo pos (starEach es X.env)).any (·.1)=false) zAr) (ht:eval (.Call (.Attribute o m apos) (e::es) [] pos) X.env=(do
  let ov<-eval o X.env
  standAt apos.atName
  let (f,first)<-holding [ov] (getMethod ov m pl)
  callWith pos f first (backTo pos (starEach (e::es) X.env)) (backToKw pos (keywordEach [] X.env))):=by rfl) :
 PE X (.Call (.Attribute o m apos) (e::es) [] pos) (N9 C m sp dvs E ta t):=by
 intro pins s σ H Q I h
 refine PySem.W.methodCall_KW (pl:=pl) (thn (he pins s σ H _ I h) fun u s1 zq=>?_) ht
 obtain⟨x,H1,I1,rx,a,dx,fs,ex,ea,l,q⟩:=zq
 subst ex
 obtain rfl:u=Value.ref a:=rx
 refine xe6 I1 ea c hm l ?_
 refine PySem.W.callWith_K (first:=[.ref a]) (h₀:=X.base) I.ok.mod.kin hm.kp (thn (ha pos pins s1 σ H1 _ I1 q) fun us s2 ⟨vs,H2,I2,r,q2⟩=>⟨I2.kIn,?_⟩) hst hpl
 exact yg7 (us:=.ref a::us) (vs:=.ref a::vs) F hr hb hd hx I2 (.cons rfl r) q2
theorem T4(he:PE X o ta)(c:Cls X.K C)(hm:wb0 X.K C m f)(F:L5 X.prog X.w X.K X.mg X.base CX k f fd ps sp)(hr:qk8 k X.A)(hb:U4 X.K fd ps ds)(hd:L1 dvs ds)(hx:wf3 CX X E) (ht:eval (.Call (.Attribute o m apos) [] [] pos) X.env=(do
  let ov<-eval o X.env
  standAt apos.atName
  let (f,first)<-holding [ov] (getMethod ov m pl)
  callWith pos f first (backTo pos (starEach [] X.env)) (backToKw pos (keywordEach [] X.env))):=by rfl) :
 PE X (.Call (.Attribute o m apos) [] [] pos) (N9 C m sp dvs E ta B0):=by
 intro pins s σ H Q I h
 refine PySem.W.methodCall_KW (pl:=pl) (thn (he pins s σ H _ I h) fun u s1 zq=>?_) ht
 obtain⟨x,H1,I1,rx,a,dx,fs,ex,ea,l,q⟩:=zq
 subst ex
 obtain rfl:u=Value.ref a:=rx
 refine xe6 I1 ea c hm l ?_
 exact PySem.W.callWith_K0 (first:=[.ref a]) I1.kIn hm.kp (yg7 (us:=[.ref a]) (vs:=[.ref a]) F hr hb hd hx I1 (.cons rfl .nil) q)
structure Mk(K:Fg)(C f:Addr):Prop where
 makes:PySem.W.makesIn K C=true
 init:PySem.W.findIn K (.ref C) "__init__"=some (some (.ref f))
 fn:PySem.W.isFn K (.ref f)=true
 kp:PySem.W.keepIn K (.ref C)=true
theorem yy0{Q:VK}(M:Mk X.K C f)(F:L5 X.prog X.w X.K X.mg X.base CX k f fd ps sp)(hr:qk8 (k+1) X.A)(hb:U4 X.K fd ps ds)(hd:L1 dvs ds)(hx:wf3 CX X E)(I:Inv X pins σ H s)(r:L1 vs us)(h:∀ x dx,H x=none->H dx=none->dx≠x->sp (.ref x::(vs++dvs)) (upd (upd H dx (.own x)) x (.ins C dx [])) (fun v H2=>v=.non/\Q (.ref x) H2) E) :
 wpAny (model X.prog X.w) X.A (call (.ref C) us) (EP X pins σ Q) X.xe s:=by
 have hq:=h (s.heap.objs.size+1) s.heap.objs.size (I.hok.fresh (Nat.le_succ _)) (I.hok.fresh (Nat.le_refl _)) (Nat.ne_of_lt (Nat.lt_succ_self _))
 have I2:=Inv.made (C:=C) I
 have r2:L1 (V.ref (s.heap.objs.size+1)::(vs++dvs)) (Value.ref (s.heap.objs.size+1)::(us++ds)):=.cons rfl (r.append hd)
 have hl:(Value.ref (s.heap.objs.size+1)::us++ds).length=ps.length:=by
  have e:=r2.length
  rw[F.len _ _ _ _ hq] at e
  exact e.symm
 refine wpAny_call (yx9 (f:=f) I.kIn M.makes M.init (beq_iff_eq.mp M.fn) (codeAny_mono (F.run _ X.stack _ _ ⟨Value.ref (s.heap.objs.size+1)::us,[]⟩ (Value.ref (s.heap.objs.size+1)::(us++ds)) _ _ E (hr.make C us [])
  (I2.env0.make C us []) (hb _ (Value.ref (s.heap.objs.size+1)::us) I2.kIn hl) r2 hq) fun r s' hq'=>?_))
 cases r with
 | error e=>exact hx pins σ _ _ e s' I2 hq'
 | ok fl =>
   cases fl with
   | ret u =>
     obtain⟨v,H',I3,rv,ev,q3⟩:=I2.after hq'
     subst ev
     exact⟨rv,⟨V.ref (s.heap.objs.size+1),H',I3,rfl,q3⟩⟩
   | next=>exact False.elim hq'
   | brk=>exact False.elim hq'
   | cont=>exact False.elim hq'
theorem xr5(M:Mk X.K C f)(F:L5 X.prog X.w X.K X.mg X.base CX k f fd ps sp)(hr:qk8 (k+1) X.A)(hg:Gl X x)(hm:X.mg x=some (.ref C))(hb:U4 X.K fd ps ds)(hd:L1 dvs ds)(hx:wf3 CX X E)(ha:PA X (e::es) t)(hdb:autoParam ((x == ("__debug__":Str))=false) zAd)(he:autoParam (starEach (e::es) X.env=(false,eval e X.env)::starEach es X.env) zAr)(hpl:autoParam ((backTo pos (starEach es X.env)).any (·.1)=false) zAr) :
 PE X (.Call (.Name x p) (e::es) [] pos) (xy3 C sp dvs E t):=by
 intro pins s σ H Q I h
 refine wpAny_Call_Name_kw (xr0 I hg hm ?_ hdb)
 refine PySem.W.callWith_K (h₀:=X.base) I.ok.mod.kin M.kp (thn (ha pos pins s σ H _ I h) fun us s1 ⟨vs,H1,I1,r,q⟩=>⟨I1.kIn,?_⟩) he hpl
 exact yy0 M F hr hb hd hx I1 r q
end
section
variable{k:Nat}{f:Addr}{ks:List Str}{E:XK}{p kpos:Pos}{kws:List Keyword}{tk:TA}{nm:Option Str}
variable{g:List Value->List Value->List Value}{gV:List V->List V->List V}
end
structure B8(N P:List Str)(sc:Scope):Prop where
 kind:sc.kind=.function
 co:sc.isCoroutine=false
 gen:sc.isGenerator=false
 nd:N.Nodup
 pre:N.take P.length=P
 par:∀ x∈P,sc.names.lookup x=some .local\/sc.names.lookup x=some .cell
 nofree:∀ y∈sc.names,y.2≠.free
theorem xo1{kindOf:Str->Option NameKind}{x:Str}:∀ {binds:List (Str×Value)} {m:Str->Option Value},(∀ v,(x,v)∉binds)->bindL kindOf binds m x=m x
 | [],_,_=>rfl
 | (n,v)::r,m,h=>by
   unfold bindL
   rw[xo1 fun w hw=>h w (List.mem_cons_of_mem _ hw)]
   split
   ·have:x≠n:=by rintro rfl;exact h v List.mem_cons_self
    simp[this]
   ·rfl
theorem xo2{kindOf:Str->Option NameKind}{x:Str}:∀ {binds:List (Str×Value)} {m:Str->Option Value},(∀ v,(x,v)∉binds)->bindC kindOf binds m x=m x
 | [],_,_=>rfl
 | (n,v)::r,m,h=>by
   unfold bindC
   rw[xo2 fun w hw=>h w (List.mem_cons_of_mem _ hw)]
   split
   ·rfl
   ·have:x≠n:=by rintro rfl;exact h v List.mem_cons_self
    simp[this]
theorem xo3{kindOf:Str->Option NameKind}{x:Str}{v:Value}:∀ {P:List Str} {vs:List Value} {i:Nat} {m:Str->Option Value},P.Nodup->P[i]?=some x->vs[i]?=some v->kindOf x=some .local ->
 bindL kindOf (P.zip vs) m x=some v
 | [],_,_,_,_,h,_,_=>by simp at h
 | _::_,[],_,_,_,_,h,_=>by simp at h
 | p::P,w::vs,0,m,nd,h1,h2,hk=>by
   simp at h1 h2;subst h1;subst h2
   show bindL kindOf ((p,w)::P.zip vs) m p=_
   unfold bindL
   rw[xo1 fun v hv=>(List.nodup_cons.mp nd).1 (List.of_mem_zip hv).1,if_pos hk]
   simp
 | p::P,w::vs,i+1,m,nd,h1,h2,hk=>by
   show bindL kindOf ((p,w)::P.zip vs) m x=_
   unfold bindL
   exact xo3 (i:=i) (List.nodup_cons.mp nd).2 (by simpa using h1) (by simpa using h2) hk
theorem xo4{kindOf:Str->Option NameKind}{x:Str}{v:Value}:∀ {P:List Str} {vs:List Value} {i:Nat} {m:Str->Option Value},P.Nodup->P[i]?=some x->vs[i]?=some v->kindOf x≠some .local ->
 bindC kindOf (P.zip vs) m x=some v
 | [],_,_,_,_,h,_,_=>by simp at h
 | _::_,[],_,_,_,_,h,_=>by simp at h
 | p::P,w::vs,0,m,nd,h1,h2,hk=>by
   simp at h1 h2;subst h1;subst h2
   show bindC kindOf ((p,w)::P.zip vs) m p=_
   unfold bindC
   rw[xo2 fun v hv=>(List.nodup_cons.mp nd).1 (List.of_mem_zip hv).1,if_neg hk]
   simp
 | p::P,w::vs,i+1,m,nd,h1,h2,hk=>by
   show bindC kindOf ((p,w)::P.zip vs) m x=_
   unfold bindC
   exact xo4 (i:=i) (List.nodup_cons.mp nd).2 (by simpa using h1) (by simpa using h2) hk
def E8(N:List Str)(vs:List V):St:=vs.map some++List.replicate (N.length-vs.length) none
def ys7(CX:CXT)(P:Program)(w:World)(K:Fg)(mg:Str->Option Value)(base:Heap)(N:List Str)(qual:Str)(scope:Scope)(f:Addr)(cd:Value)(A:Around)(outer:List Env)(s:Shared)(H:Hp)(E:XK):Cx where
 prog:=P
 w:=w
 K:=K
 mg:=mg
 base:=base
 A:=A.deeper (envOfC qual scope s.heap.objs.size f cd)
 N:=N
 s₀:=s
 H₀:=H
 env:=envOfC qual scope s.heap.objs.size f cd
 outer:=outer
 stack:=envOfC qual scope s.heap.objs.size f cd::outer
 ex:=[]
 calm:=true
 fn:=fun _=>true
 pn:=[]
 xe:=fun e s'=>wpAny (model P w) (A.deeper (envOfC qual scope s.heap.objs.size f cd)) (leaving (envOfC qual scope s.heap.objs.size f cd) e) (fun _ s''=>CX outer H s E e s'') (fun e' s''=>CX outer H s E e' s'') s'
theorem xy4{sc:Scope}(h:sc.names.lookup x=some .cell):∃ c,(cellsFrom n sc.names []).lookup x=some c:=by
 have q:=PySem.W.cellsFrom_some sc.names n [] (.inl h)
 exact Option.isSome_iff_exists.mp q
variable{qual:Str}{scope:Scope}
theorem ys8{f:Addr}{cd:Value}{s1:Shared}{E:XK}(S:B8 N ps scope)(hd:A.handled=none)(e0:yg6 P w K mg base A outer s H)(hl:vs.length=ps.length)(r:L1 vs us)(x:InCallC s s.heap.objs.size (bindL (envOfC qual scope s.heap.objs.size f cd).kindOf (ps.zip us) fun _=>none) (cellsFrom (s.heap.objs.size+1) scope.names []) (bindC (envOfC qual scope s.heap.objs.size f cd).kindOf (ps.zip us) fun _=>none) s1)(ht:0<s1.toks) :
 Inv (ys7 CX P w K mg base N qual scope f cd A outer s H E) [] (E8 N vs) H s1:=by
 have hpl:ps.length<=N.length:=by have:=congrArg List.length S.pre;rw[List.length_take] at this;omega
 obtain⟨h1,tk,rfl,hk⟩:=x.done
 have noA:∀ b:Addr,b∉(ys7 CX P w K mg base N qual scope f cd A outer s H E).ex:=fun b z=>absurd (show b∈([]:List Addr) from z) (by simp)
 refine⟨⟨e0.mod,S.kind,rfl,rfl,Nat.le_refl _,fun y z c h1 h2=>?_,fun y hy=>?_,fun y c _ h=>?_,fun _=>hd,Around.frames_deeper e0.frames,.inr ⟨rfl,rfl⟩,fun b z=>absurd z (noA b),e0.bs,e0.bsz,fun b _ _=>noA b,fun b z=>absurd z (noA b),e0.funs,e0.frf⟩,
  rfl,e0.bare,Un.kept hk,⟨_,x.toInCall.ns,fun i y v h1 h2 h3=>?_⟩,fun y c h=>⟨_,x.cell y c h⟩,e0.hok.fresh (Nat.le_refl _),fun y c h=>?_,fun p hp=>absurd (show p∈([]:List (Addr×Obj)) from hp) (by simp),e0.hok.kept hk,?_,ht⟩
 ·exact name_of_addr x.apart (PySem.mem_of_lookup h1) (PySem.mem_of_lookup h2)
 ·have hy:scope.names.lookup y=some .cell\/scope.names.lookup y=some .free:=hy
  rcases hy with hy|hy
  ·exact xy4 hy
  ·exact absurd rfl (S.nofree _ (PySem.mem_of_lookup hy))
 ·exact Nat.le_of_lt (x.above y c (PySem.mem_of_lookup h))
 ·have hi:i<vs.length:=by
   unfold E8 at h2
   by_cases hi:i<vs.length
   ·exact hi
   ·rw[List.getElem?_append_right (by simpa using hi)] at h2
    rw[List.getElem?_replicate] at h2
    split at h2 <;> cases h2
  have ha:vs[i]?=some v:=by
   unfold E8 at h2
   rw[List.getElem?_append_left (by simpa using hi),List.getElem?_map] at h2
   cases e:vs[i]? with
   | none=>rw[e] at h2;cases h2
   | some a=>rw[e] at h2;cases h2;rfl
  obtain⟨u,hu,rv⟩:=r.get ha
  have hp:ps[i]?=some y:=by
   rw[<-S.pre,List.getElem?_take_of_lt (by omega)];exact h1
  have ndP:ps.Nodup:=by rw[<-S.pre];exact S.nd.sublist (List.take_sublist _ _)
  refine⟨u,rv,?_⟩
  rcases S.par y (List.mem_of_getElem? hp) with k|k
  ·exact .inl ⟨k,xo3 ndP hp hu k⟩
  ·obtain⟨c,e⟩:=xy4 (n:=s.heap.objs.size+1) k
   refine .inr ⟨.inl k,c,e,?_⟩
   have q:=x.cell y c e
   rw[xo4 ndP hp hu (by show scope.names.lookup y≠_;rw[k];decide)] at q
   exact q
 ·exact e0.hok.fresh (Nat.le_of_lt (x.above y c (PySem.mem_of_lookup h)))
 ·unfold E8
  show _=N.length
  rw[List.length_append,List.length_map,List.length_replicate]
  omega
variable{an od:Option Addr}{cdv ct doc oc pm:Value}{osl:Array (Option Value)}
theorem zy4{k:Nat}{f:Addr}{params:Arguments}{dV kV:Value}(lk:K.lookup f=some ⟨oc,od,.func (PySem.W.fnOf name qual params body scope dV kV doc pm an cdv ct),osl⟩)(hcd:PySem.W.codeIn K cdv qual=true)(S:B8 N ps scope)(len:∀ vs H Q E,sp vs H Q E->vs.length=ps.length) (hbody:∀ (A:Around) (outer:List Env) (s:Shared) (H:Hp) (vs:List V) (Q:VK) (E:XK),qk8 k (A.deeper (envOfC qual scope s.heap.objs.size f cdv))->sp vs H Q E ->
  ∃ t,PSs (ys7 CX P w K mg base N qual scope f cdv A outer s H E) body t/\t {nx:=fun _ H'=>Q .non H',rt:=Q} (E8 N vs) H) :
 L5 P w K mg base CX (k+1) f (PySem.W.fnOf name qual params body scope dV kV doc pm an cdv ct) ps sp:=by
 refine⟨len,fun A outer s H args us vs Q E hr e0 hb r hsp=>?_⟩
 have hl:=len _ _ _ _ hsp
 have KX:K.In s.heap:=e0.mod.kin.keeps fun b o e=>(e0.bs b o e).1
 have lim:s.heap.NoLimit:=e0.mod.nolimit.keeps fun b o e=>(e0.bs b o e).1
 have hkind:∀ y∈ps.zip us,scope.names.lookup y.1=some .local\/(scope.names.lookup y.1=some .cell/\((cellsFrom (s.heap.objs.size+1) scope.names []).lookup y.1).isSome=true):=fun⟨n,v⟩ hy=>by
  rcases S.par n (List.of_mem_zip hy).1 with q|q
  ·exact .inl q
  ·exact .inr ⟨q,PySem.W.cellsFrom_some _ _ _ (.inl q)⟩
 refine codeAny_call_function hr.depth (KX _ _ lk) rfl S.co S.gen rfl (PySem.W.codeRec_of KX hcd) (hb _ _ _ _ ?_)
 refine wpAny_with_toks (n:=1) e0.tk (wpAny_newFunctionEnv_cells S.kind hkind fun env he s1 x htk=>?_)
 subst he
 refine⟨lim.keeps x.toInCall.keep,codeAny_func ?_⟩
 obtain⟨t,ht,hq⟩:=hbody A outer s H vs Q E (hr.deeper _) hsp
 have I:Inv (ys7 CX P w K mg base N qual scope f cdv A outer s H E) [] (E8 N vs) H s1:=ys8 S hr.hd e0 hl r x htk
 refine wpAny_mono (ht [] s1 (E8 N vs) H _ I hq) (fun fl s' hs=>?_) fun e s' hs=>hs
 have fin:∀ {σ':St} {H':Hp} {v:V} {u:Value},Inv (ys7 CX P w K mg base N qual scope f cdv A outer s H E) [] σ' H' s'->L4 v u->Q v H'->CE outer P w H s Q u s' :=
  fun{σ' H' v u} J rv q=>⟨v,H',J.tk,J.os,J.bare,J.base,J.hok,rv,q⟩
 cases fl with
 | ret u =>
   obtain⟨v,σ',H',J,rv,q⟩:=hs
   exact fin J rv q
 | next =>
   obtain⟨σ',H',J,q⟩:=hs
   exact fin (v:=V.non) (u:=Value.none) J rfl q
 | brk =>
   obtain⟨_,_,_,q⟩:=hs
   exact False.elim q
 | cont =>
   obtain⟨_,_,_,q⟩:=hs
   exact False.elim q
variable{T:String}
section
variable{p:Pos}{id:String}{r:List V->Hp->VK->Prop}
def tCB(r:List V->Hp->VK->Prop)(t:TA):TE:=fun σ H Q=>t σ H fun vs H1=>r vs H1 Q
theorem E5(hc:qm5 X (.builtin id) r)(hg:Gl X x)(hm:X.mg x=none)(hv:bootBuiltins x=some (.builtin id))(ha:PA X (e::es) t)(hn:autoParam (x ≠ "__name__") zAd)(hdb:autoParam ((x == ("__debug__":Str))=false) zAd)(he:autoParam (starEach (e::es) X.env=(false,eval e X.env)::starEach es X.env) zAr)(hpl:autoParam ((backTo pos (starEach es X.env)).any (·.1)=false) zAr):PE X (.Call (.Name x p) (e::es) [] pos) (tCB r t):=by
 intro pins s σ H Q I h
 refine wpAny_Call_Name_kw (wa6 I hg hm hv ?_ hn hdb)
 exact PyProof.Rows.callWith_builtin1 (thn (ha pos pins s σ H _ I h) fun us s1 ⟨vs,H1,I1,r1,q1⟩=>hc pins s1 σ H1 vs us Q I1 r1 q1) he hpl
theorem X4(hc:qm5 X (.type T) r)(hg:Gl X x)(hm:X.mg x=none)(hv:bootBuiltins x=some (.type T))(ha:PA X (e::es) t)(hn:autoParam (x ≠ "__name__") zAd)(hdb:autoParam ((x == ("__debug__":Str))=false) zAd)(he:autoParam (starEach (e::es) X.env=(false,eval e X.env)::starEach es X.env) zAr)(hpl:autoParam ((backTo pos (starEach es X.env)).any (·.1)=false) zAr):PE X (.Call (.Name x p) (e::es) [] pos) (tCB r t):=by
 intro pins s σ H Q I h
 refine wpAny_Call_Name_kw (wa6 I hg hm hv ?_ hn hdb)
 exact PyProof.Rows.callWith_type1 (thn (ha pos pins s σ H _ I h) fun us s1 ⟨vs,H1,I1,r1,q1⟩=>hc pins s1 σ H1 vs us Q I1 r1 q1) he hpl
end
namespace HT
open PySem PyProof.Rows
section
open PySem.SeqAt
open PySem.AutoSeq1 (wpAny_loadPart')
open PySem.MeetsSeq PySem.MeetsSeq2 PySem.MeetsSeq3
end
section
variable{prog:Program}{w:World}{A:Around}{E:Value->Shared->Prop}{s:Shared}
theorem zi4{t b:Addr}{vs ws:List Value}{Q:Value->Shared->Prop}(ht:IsTup s.heap t vs.toArray)(hb:IsTup s.heap b ws.toArray)(hv:vs≠[])
 (h1:ws=[]->Q (.ref t) s) (h2:ws≠[]->Q (.ref s.heap.objs.size) {s with heap:=s.heap.push {cls:=.type "tuple",data:=.seq (vs++ws).toArray}})
 (hsz:vs.length+ws.length<=sizeLine):wpAny (model prog w) A (binaryOp .Add (.ref t) (.ref b)) Q E s:=by
 obtain⟨⟨cls,dd,data,sl⟩,ho,hc,n,hd⟩:=id ht
 obtain⟨⟨cls2,dd2,data2,sl2⟩,ho2,hc2,n2,hd2⟩:=id hb
 simp only at hc hd hc2 hd2
 subst hc hd hc2 hd2
 have e:vs.toArray++ws.toArray=(vs++ws).toArray:=by simp
 by_cases hw:ws=[]
 ·exact concat_meets ⟨_,ho,rfl⟩ ⟨_,ho2,rfl⟩ noFill_tuple_add seq_tuple_add PySem.F.slot_tuple_add PySem.F.entry_tuple_add (PySem.F.args_tuple_add_2 _ _)
   (tuple_addW1 t b vs.toArray ws.toArray n n2 dd dd2 sl sl2 (by simpa using hv) (by simp[hw])) ⟨ho,ho2,h1 hw⟩
 ·refine concat_meets ⟨_,ho,rfl⟩ ⟨_,ho2,rfl⟩ noFill_tuple_add seq_tuple_add PySem.F.slot_tuple_add PySem.F.entry_tuple_add (PySem.F.args_tuple_add_2 _ _)
   (tuple_addW2 t b vs.toArray ws.toArray n n2 dd dd2 sl sl2 (by simpa using hv) (by simpa using hw) (by rw[List.size_toArray,List.size_toArray];exact hsz)) ⟨ho,ho2,?_⟩
  rw[e]
  exact h2 hw
def sIx(n d:Nat):Option Int->Nat
 | none=>d
 | some v=>if v<0 then(v+(n:Int)).toNat else min v.toNat n
theorem wb1(n d k:Nat):sIx n d (some (k:Int))=min k n:=by
 show(if(k:Int)<0 then((k:Int)+(n:Int)).toNat else min (k:Int).toNat n)=min k n
 rw[if_neg (by omega),Int.toNat_natCast]
theorem yg8(n d:Nat)(hd:d<=n)(o:Option Int):sIx n d o<=n:=by
 cases o with
 | none=>exact hd
 | some v =>
   show(if v<0 then(v+(n:Int)).toNat else min v.toNat n)<=n
   by_cases hv:v<0
   ·rw[if_pos hv];omega
   ·rw[if_neg hv];exact Nat.min_le_right _ _
theorem ym8(v:Int)(n d:Nat):(if v<0 then max (v+(n:Int)) 0 else min v (n:Int))=((sIx n d (some v):Nat):Int):=by
 show(if v<0 then max (v+(n:Int)) 0 else min v (n:Int))=(((if v<0 then(v+(n:Int)).toNat else min v.toNat n):Nat):Int)
 by_cases hv:v<0
 ·simp only[if_pos hv];omega
 ·simp only[if_neg hv];omega
theorem yg9(lo hi:Option Int)(n:Nat):Builtin.Slice.sliceAdjust lo hi 1 (n:Int)=(((sIx n 0 lo:Nat):Int),((sIx n n hi:Nat):Int)):=by
 have h1:¬((1:Int)<0):=by omega
 unfold Builtin.Slice.sliceAdjust
 simp only[h1,if_false]
 refine Prod.ext ?_ ?_
 ·cases lo with
  | none=>rfl
  | some v=>exact ym8 v n 0
 ·cases hi with
  | none=>rfl
  | some v=>exact ym8 v n n
theorem yh0(i j:Nat):Builtin.Slice.slicePlaces (i:Int) (j:Int) 1=j-i:=by
 unfold Builtin.Slice.slicePlaces
 have h1:(1:Int) > 0:=by omega
 simp only[h1,if_true,Int.ediv_one]
 split <;> omega
theorem xe7{v:Value}{o:Option Int}{Q:Option Int->Shared->Prop}(p:IsPart v o)(h:Q o s):wpAny (model prog w) A (Builtin.Slice.slicePartIndex v) Q E s:=by
 cases p with
 | none=>exact slicePart_none h
 | int i t=>exact slicePart_int h
theorem qy0{sl:Addr}{vl vu:Value}{lo hi:Option Int}{n:Nat}{Q:Int×Int×Nat->Shared->Prop}(hs:s.heap.IsSliceOf sl vl vu .none)(pl:IsPart vl lo)(pu:IsPart vu hi)
 (h:Q (((sIx n 0 lo:Nat):Int),1,sIx n n hi-sIx n 0 lo) s):wpAny (model prog w) A (Builtin.Slice.sliceApplied (.ref sl) (pure (n:Int))) Q E s:=by
 obtain⟨os,hos,hcs,hds⟩:=id hs
 unfold Builtin.Slice.sliceApplied Builtin.Slice.sliceFields
 refine wpAny_bind (wpAny_bind (wpAny_field hos hds (x:=vl) rfl (wpAny_bind (wpAny_field hos hds (x:=vu) rfl (wpAny_bind (wpAny_field hos hds (x:=.none) rfl (wpAny_pure ?_)))))))
 refine wpAny_bind (slicePart_none ?_)
 show wpAny _ _ (if((1:Int) == 0)=true then _ else _) _ _ s
 rw[if_neg (by decide)]
 refine wpAny_bind (xe7 pl (wpAny_bind (xe7 pu (wpAny_bind (wpAny_pure ?_)))))
 show wpAny _ _ (match Builtin.Slice.sliceAdjust lo hi 1 (n:Int) with|(lo,hi)=>pure (lo,(1:Int),Builtin.Slice.slicePlaces lo hi 1)) _ _ s
 rw[yg9 lo hi n]
 show wpAny _ _ (pure (((sIx n 0 lo:Nat):Int),(1:Int),Builtin.Slice.slicePlaces ((sIx n 0 lo:Nat):Int) ((sIx n n hi:Nat):Int) 1)) _ _ s
 rw[yh0]
 exact wpAny_pure h
theorem yy1(xs:Array Value)(i k:Nat):((List.range k).filterMap fun(m:Nat)=>xs[((i:Int)+(m:Int)*1).toNat]?).toArray=((xs.toList.drop i).take k).toArray:=by
 have e:(fun(m:Nat)=>xs[((i:Int)+(m:Int)*1).toNat]?)=fun m=>xs[i+m]?:=by
  funext m
  have:((i:Int)+(m:Int)*1).toNat=i+m:=by omega
  rw[this]
 rw[e]
 have:=pick_run xs i k
 rw[List.filterMap_map] at this
 have e2:((fun x=>xs[x]?)∘fun x=>i+x)=fun m=>xs[i+m]?:=rfl
 rw[e2] at this
 rw[this]
theorem wp9{t sl:Addr}{items:Array Value}{vl vu:Value}{lo hi:Option Int}{Q:Value->Shared->Prop}(ht:IsTup s.heap t items)(hs:s.heap.IsSliceOf sl vl vu .none)(pl:IsPart vl lo)(pu:IsPart vu hi)
 (hw:¬(sIx items.size 0 lo=0/\sIx items.size items.size hi=items.size))
 (h:Q (.ref s.heap.objs.size) {s with heap:=s.heap.push {cls:=.type "tuple",data:=.seq ((items.toList.drop (sIx items.size 0 lo)).take (sIx items.size items.size hi-sIx items.size 0 lo)).toArray}})
 (hsz:items.size<=sizeLine):wpAny (model prog w) A (getItem (.ref t) (.ref sl)) Q E s:=by
 have htake:sizeOk (.seq ((items.toList.drop (sIx items.size 0 lo)).take (sIx items.size items.size hi-sIx items.size 0 lo)).toArray):=by
  show((items.toList.drop (sIx items.size 0 lo)).take (sIx items.size items.size hi-sIx items.size 0 lo)).toArray.size<=sizeLine
  rw[List.size_toArray,List.length_take,List.length_drop,Array.length_toList]
  omega
 have hj:sIx items.size items.size hi<=items.size:=yg8 _ _ (Nat.le_refl _) hi
 obtain⟨os,hos,hcs,hds⟩:=id hs
 have hTs:s.TypeIs (.ref sl) "slice":=⟨os,hos,hcs⟩
 unfold getItem
 try with_reducible refine wpAny_holding ?_
 first|refine wpAny_bind (wpAny_pure ?_)|skip
 refine wpAny_bind (wpAny_sequenceKey ht.typeIs (by decide) ?_)
 refine wpAny_bind (wpAny_callSpecial?_slot (name:=Str.ofString "__getitem__") ht.typeIs PyProof.Rows.slot_tuple_getitem
  (wpAny_call_entry PyProof.Rows.slot_tuple_getitem ht.typeIs entry_tuple_getitem ?_ (args_tuple_getitem _ _)))
 show wpAny _ _ (Builtin.Tuple.tupleItemsOf (.ref t) >>= _) _ _ s
 refine wpAny_bind (tupleItemsOf_ ht ?_)
 refine wpAny_bind (wpAny_typeOf hTs ?_)
 rw[if_pos (by decide)]
 refine wpAny_bind (qy0 hs pl pu ?_)
 have hno:¬((((sIx items.size 0 lo:Nat):Int) == 0 && (1:Int) == 1 && (sIx items.size items.size hi-sIx items.size 0 lo) == items.size)=true):=by
  intro q
  rw[Bool.and_eq_true,Bool.and_eq_true] at q
  have q1:((sIx items.size 0 lo:Nat):Int)=0:=eq_of_beq q.1.1
  have q2:sIx items.size items.size hi-sIx items.size 0 lo=items.size:=eq_of_beq q.2
  exact hw ⟨by omega,by omega⟩
 show wpAny _ _ (if(((sIx items.size 0 lo:Nat):Int) == 0 && (1:Int) == 1 && (sIx items.size items.size hi-sIx items.size 0 lo) == items.size)=true then _ else _) _ _ s
 rw[if_neg hno,yy1]
 first
  | exact wpAny_bind (m:=Builtin.Tuple.tupleExact _) (wpAny_newObj_type (wpAny_pure ⟨_,rfl,wpAny_pure h⟩) htake)
  | exact wpAny_bind (m:=Builtin.Tuple.tupleExact _) (wpAny_newObj_type (wpAny_bind (wpAny_pure (wpAny_pure ⟨_,rfl,wpAny_pure h⟩))) htake)
  | exact wpAny_bind (wpAny_bind (m:=Builtin.Tuple.tupleExact _) (wpAny_newObj_type (wpAny_pure (wpAny_pure ⟨_,rfl,wpAny_pure h⟩)) htake))
  | exact wpAny_bind (wpAny_bind (m:=Builtin.Tuple.tupleExact _) (wpAny_newObj_type (wpAny_pure ⟨_,rfl,wpAny_pure h⟩) htake))
end
end HT
abbrev TO:=St->Hp->(Option Int->Hp->Prop)->Prop
def PO(X:Cx)(e:Option Expr)(t:TO):Prop :=
 ∀ (pins:List (Addr×Obj)) (s:Shared) (σ:St) (H:Hp) (Q:Option Int->Hp->Prop),Inv X pins σ H s->t σ H Q ->
  wpAny (model X.prog X.w) X.A (evalPart e X.env) (fun u s'=>∃ o H',Inv X pins σ H' s'/\IsPart u o/\Q o H') X.xe s
def qh1:TO:=fun _ H Q=>Q none H
def Z4(t:TE):TO:=fun σ H Q=>t σ H fun x H1=>∃ i,x=.int i/\Q (some i) H1
variable{p2:Pos}{th:TO}{r:V->Option Int->Option Int->Hp->VK->Prop}
section
variable{lo hi:Option Expr}{tl:TO}
theorem qo8:PO X none qh1:=by
 intro pins s σ H Q I h
 rw[evalPart_none]
 exact wpAny_pure ⟨none,H,I,.none,h⟩
theorem O8(h:PE X e te):PO X (some e) (Z4 te):=by
 intro pins s σ H Q I hw
 rw[evalPart_some]
 refine thn (h pins s σ H _ I hw) fun u s1 zq=>?_
 obtain⟨x,H1,I1,r1,q1⟩:=zq
 obtain⟨i,rfl,q⟩:=q1
 obtain⟨t,rfl⟩:=r1
 exact⟨some i,H1,I1,.int i t,q⟩
def SlR(X:Cx)(r:V->Option Int->Option Int->Hp->VK->Prop):Prop :=
 ∀ (pins:List (Addr×Obj)) (s:Shared) (σ:St) (H:Hp) (x:V) (v vl vu:Value) (lo hi:Option Int) (sl:Addr) (Q:VK),Inv X pins σ H s->L4 x v->s.heap.IsSliceOf sl vl vu .none->IsPart vl lo->IsPart vu hi->r x lo hi H Q ->
  ∃ T id,typeLookup (.type T) "__getitem__"=pure (some (.builtin id))/\s.TypeIs v T/\wpAny (model X.prog X.w) X.A (getItem v (.ref sl)) (EP X pins σ Q) X.xe s
theorem SlR.or{r':V->Option Int->Option Int->Hp->VK->Prop}(h:SlR X r)(h':SlR X r'):SlR X (fun x lo hi H Q=>r x lo hi H Q\/r' x lo hi H Q):=by
 intro pins s σ H x v vl vu lo hi sl Q I rx hs pl pu q
 rcases q with q|q
 ·exact h pins s σ H x v vl vu lo hi sl Q I rx hs pl pu q
 ·exact h' pins s σ H x v vl vu lo hi sl Q I rx hs pl pu q
def tSl(r:V->Option Int->Option Int->Hp->VK->Prop)(te:TE)(tl th:TO):TE:=fun σ H Q=>te σ H fun x H1=>tl σ H1 fun l H2=>th σ H2 fun u H3=>r x l u H3 Q
theorem Q7(hr:SlR X r)(he:PE X e te)(hl:PO X lo tl)(hu:PO X hi th):PE X (.Subscript e (.Slice lo hi none p2) pos) (tSl r te tl th):=by
 intro pins s σ H Q I h
 refine Subscript_ (thn (he pins s σ H _ I h) fun v s1 zq=>?_)
 obtain⟨x,H1,I1,r1,q1⟩:=zq
 refine wpAny_Slice (thn (hl pins s1 σ H1 _ I1 q1) fun vl s2 ⟨l,H2,I2,pl,q2⟩=>thn (hu pins s2 σ H2 _ I2 q2) fun vu s3 zq=>?_)
 obtain⟨u,H3,I3,pu,q3⟩:=zq
 rw[evalPart_none]
 refine wpAny_pure ?_
 have I4:Inv X pins σ H3 {s3 with heap:=s3.heap.push {cls:=.type "slice",data:=.fields #[vl,vu,.none]}}:=I3.kept (t':=s3.toks) fun b ob q=>Heap.get?_push_of_some _ q
 obtain⟨T,id,hT,ht,hg⟩:=hr pins {s3 with heap:=s3.heap.push {cls:=.type "slice",data:=.fields #[vl,vu,.none]}} σ H3 x v vl vu l u s3.heap.objs.size Q I4 r1 (Heap.IsSliceOf.new ..) pl pu q3
 show wpAny (model X.prog X.w) X.A (subscriptTail e (.Slice lo hi none p2) v (.ref s3.heap.objs.size)) (EP X pins σ Q) X.xe {s3 with heap:=s3.heap.push {cls:=.type "slice",data:=.fields #[vl,vu,.none]}}
 exact tail_any (ops:=[.ref s3.heap.objs.size,v]) ht hT hg (by with_unfolding_all rfl)
def qn3(xs:List V)(lo hi:Option Int):List V:=(xs.drop (HT.sIx xs.length 0 lo)).take (HT.sIx xs.length xs.length hi-HT.sIx xs.length 0 lo)
theorem xa4(xs:List V)(lo hi:Option Int):(qn3 xs lo hi).length<=xs.length:=by
 unfold qn3
 rw[List.length_take,List.length_drop]
 omega
def zy5(K:Fg):V->Option Int->Option Int->Hp->VK->Prop:=fun x lo hi H Q=>∃ a xs,x=.ref a/\SqT K H a xs /\
 ¬(HT.sIx xs.length 0 lo=0/\HT.sIx xs.length xs.length hi=xs.length)/\∀ p,H p=none->Q (.ref p) (upd H p (.tup (qn3 xs lo hi)))
theorem zr9:SlR X (zy5 X.K):=by
 intro pins s σ H x v vl vu lo hi sl Q I rx hs pl pu h
 obtain⟨a,xs,rfl,hx,hw,q⟩:=h
 cases rx
 obtain⟨its,r,ht,hz⟩:=I.tuple hx
 have hlen:its.toArray.size=xs.length:=by rw[List.size_toArray];exact r.length.symm
 refine⟨"tuple",_,PyProof.Rows.slot_tuple_getitem.lookup,ht.typeIs,?_⟩
 refine HT.wp9 ht hs pl pu (by rw[hlen];exact hw) ?_ (by rw[hlen];exact hz)
 rw[hlen]
 refine⟨.ref s.heap.objs.size,_,I.laid (t':=s.toks) (o:=.tup (qn3 xs lo hi)) (fun b ob q=>Heap.get?_push_of_some _ q) (Nat.le_refl _) ?_,rfl,q _ (I.hok.fresh (Nat.le_refl _))⟩
 exact⟨Nat.le_trans (xa4 xs lo hi) hz,_,(r.drop (HT.sIx xs.length 0 lo)).take (HT.sIx xs.length xs.length hi-HT.sIx xs.length 0 lo),IsTup.new _ _⟩
def zo8(K:Fg):R2:=fun x y H Q=>∃ a b xs ys,x=.ref a/\y=.ref b/\SqT K H a xs/\SqT K H b ys/\xs≠[]/\xs.length+ys.length<=sizeLine /\
 (ys=[]->Q (.ref a) H)/\(ys≠[]->∀ p,H p=none->Q (.ref p) (upd H p (.tup (xs++ys))))
theorem L1.nil_iff(r:L1 xs us):us=[]↔xs=[]:=by
 cases r with
 | nil=>simp
 | cons _ _=>simp
theorem zi5:OpR X (binaryOp .Add) (zo8 X.K):=by
 intro pins s σ H x y v u Q I rx ry h
 obtain⟨a,b,xs,ys,rfl,rfl,ha,hb,hx,hz,q1,q2⟩:=h
 cases rx
 cases ry
 obtain⟨its,r1,p1,_⟩:=I.tuple ha
 obtain⟨its2,r2,p2,_⟩:=I.tuple hb
 refine HT.zi4 p1 p2 (fun z=>hx (r1.nil_iff.mp z)) (fun z=>⟨.ref a,H,I,rfl,q1 (r2.nil_iff.mp z)⟩) (fun z=>?_) (by rw[<-r1.length,<-r2.length];exact hz)
 refine⟨.ref s.heap.objs.size,_,I.laid (t':=s.toks) (o:=.tup (xs++ys)) (fun b ob q=>Heap.get?_push_of_some _ q) (Nat.le_refl _) ?_,rfl,q2 (fun w=>z (r2.nil_iff.mpr w)) _ (I.hok.fresh (Nat.le_refl _))⟩
 exact⟨by rw[List.length_append];exact hz,_,r1.append r2,IsTup.new _ _⟩
end
def ixN(n:Nat)(i:Int):Option Nat:=if 0<=i then(if i<n then some i.toNat else none) else if -(n:Int)<=i then some (i+n).toNat else none
def atI{α:Type}(xs:List α)(i:Int):Option α:=(ixN xs.length i).bind fun j=>xs[j]?
theorem ym9{j:Nat}(h:ixN n i=some j):seqIndex? i n=some j/\j<n/\-(n:Int)<=i/\i<n:=by
 unfold ixN at h
 by_cases h0:0<=i
 ·rw[if_pos h0] at h
  by_cases h1:i<n
  ·rw[if_pos h1] at h
   have e:i.toNat=j:=Option.some.inj h
   exact⟨by rw[seqIndex_of h0 h1,e],by omega,by omega,h1⟩
  ·rw[if_neg h1] at h;cases h
 ·rw[if_neg h0] at h
  by_cases h1:-(n:Int)<=i
  ·rw[if_pos h1] at h
   have e:(i+n).toNat=j:=Option.some.inj h
   exact⟨by rw[seqIndex_neg (by omega) h1,e],by omega,h1,by omega⟩
  ·rw[if_neg h1] at h;cases h
theorem xr6{xs:List α}{v:α}(h:atI xs i=some v):∃ j,seqIndex? i xs.length=some j/\xs[j]?=some v/\j<xs.length/\-(xs.length:Int)<=i/\i<xs.length:=by
 unfold atI at h
 cases e:ixN xs.length i with
 | none=>rw[e] at h;cases h
 | some j =>
   rw[e] at h
   obtain⟨h1,h2,h3,h4⟩:=ym9 e
   exact⟨j,h1,h,h2,h3,h4⟩
theorem U7{xs:List α}{j:Nat}{v:α}(h:xs[j]?=some v):atI xs (j:Int)=some v:=by
 have hj:j<xs.length:=(List.getElem?_eq_some_iff.mp h).1
 have e:ixN xs.length (j:Int)=some j:=by
  unfold ixN
  rw[if_pos (by omega),if_pos (by omega)];simp
 unfold atI;rw[e];exact h
theorem yy2(xs:List α)(v:α):atI (xs++[v]) (-1)=some v:=by
 have hl:(xs++[v]).length=xs.length+1:=by simp
 have e:ixN (xs++[v]).length (-1)=some xs.length:=by
  unfold ixN
  rw[hl,if_neg (by decide),if_pos (by omega)]
  congr 1
  omega
 unfold atI
 rw[e]
 show(xs++[v])[xs.length]?=some v
 simp
def zi6(b:Expr):Prop:=∀ o i,subscripted b false o i=operate [o,i] (getItem o i)
def IxR(X:Cx)(r:R2):Prop :=
 ∀ (value slice:Expr) (pins:List (Addr×Obj)) (s:Shared) (σ:St) (H:Hp) (x y:V) (v u:Value) (Q:VK),Inv X pins σ H s->L4 x v->L4 y u->r x y H Q ->
  subscripted slice false v u=operate [v,u] (getItem v u)->wpAny (model X.prog X.w) X.A (subscriptTail value slice v u) (EP X pins σ Q) X.xe s
def MtR(X:Cx)(id:String)(r:V->List V->Hp->VK->Prop):Prop :=
 ∀ (pins:List (Addr×Obj)) (s:Shared) (σ:St) (H:Hp) (x:V) (xs:List V) (v:Value) (us:List Value) (Q:VK),Inv X pins σ H s->L4 x v->L1 xs us->r x xs H Q ->
  wpAny (model X.prog X.w) X.A (call (.builtin id) (v::us)) (EP X pins σ Q) X.xe s
variable{its its':List Value}{p:Addr}{cpos:Pos}
section
variable{a b:Expr}{tb:TE}
theorem IxR.or{r r':R2}(h:IxR X r)(h':IxR X r'):IxR X (fun x y H Q=>r x y H Q\/r' x y H Q):=by
 intro value slice pins s σ H x y v u Q I rx ry q hs
 rcases q with q|q
 ·exact h value slice pins s σ H x y v u Q I rx ry q hs
 ·exact h' value slice pins s σ H x y v u Q I rx ry q hs
theorem G0{r:R2}(hr:IxR X r)(ha:PE X a ta)(hb:PE X b tb)(hs:zi6 b):PE X (.Subscript a b pos) (tOp r ta tb):=by
 intro pins s σ H Q I h
 exact Subscript_ (zr5 ha hb I h fun v u s2 x y H2 I2 rx ry q=>hr a b pins s2 σ H2 x y v u Q I2 rx ry q (hs _ _))
def zy6(K:Fg):R2:=fun x y H Q=>∃ p xs i v,x=.ref p/\y=.int i/\SqL K H p xs/\atI xs i=some v/\Q v H
def zy7(K:Fg):R2:=fun x y H Q=>∃ p xs i v,x=.ref p/\y=.int i/\SqT K H p xs/\atI xs i=some v/\Q v H
def zy8:R2:=fun x y H Q=>∃ z i c,x=.str z/\y=.int i/\z.length<=sizeLine/\atI z.cps.toList i=some c/\Q (.str ⟨#[c]⟩) H
theorem zi7:IxR X (zy6 X.K):=by
 intro value slice pins s σ H x y v u Q I rx ry h hs
 obtain⟨p,xs,i,z,rfl,rfl,hq,he,q⟩:=h
 cases rx
 obtain⟨t,rfl⟩:=ry
 obtain⟨its,r,pl,hz⟩:=I.list hq
 obtain⟨j,h1,h2,h3,h4,h5⟩:=xr6 he
 obtain⟨w,ew,rw'⟩:=r.get h2
 have hl:=r.length
 have hn:=wu8
 have fin:EP X pins σ Q w s:=⟨z,H,I,rw',q⟩
 by_cases h0:0<=i
 ·have hj:i.toNat=j:=by
   rw[seqIndex_of h0 h5] at h1
   exact Option.some.inj h1
  exact item_listR pl.isList h0 (by omega) (by rw[hj];simpa using ew) fin hs
 ·have hj:(i+(its.toArray.size:Int)).toNat=j:=by
   rw[seqIndex_neg (by omega) h4] at h1
   rw[List.size_toArray,<-hl]
   exact Option.some.inj h1
  exact subscriptTail_builtinR (x:=w) pl.isList.typeIs slot_list_getitem.lookup
   (wpAny_getItem_list_neg (Q:=fun r s'=>r=w/\EP X pins σ Q r s') pl.isList (by omega) (by rw[List.size_toArray] <;> omega) (by omega) (by rw[hj];simpa using ew) ⟨rfl,fin⟩) hs
theorem zs0:IxR X (zy7 X.K):=by
 intro value slice pins s σ H x y v u Q I rx ry h hs
 obtain⟨p,xs,i,z,rfl,rfl,hq,he,q⟩:=h
 cases rx
 obtain⟨t,rfl⟩:=ry
 obtain⟨its,r,pl,hz⟩:=I.tuple hq
 obtain⟨j,h1,h2,h3,h4,h5⟩:=xr6 he
 obtain⟨w,ew,rw'⟩:=r.get h2
 have hl:=r.length
 have hn:=wu8
 have fin:EP X pins σ Q w s:=⟨z,H,I,rw',q⟩
 exact subscriptTail_builtinR (x:=w) pl.typeIs slot_tuple_getitem.lookup
  (getItem_tuple (j:=j) (Q:=fun r s'=>r=w/\EP X pins σ Q r s') pl (by omega) (by omega) (by rw[List.size_toArray,<-hl];exact h1) (by simpa using ew) ⟨rfl,fin⟩) hs
theorem zs1:IxR X zy8:=by
 intro value slice pins s σ H x y v u Q I rx ry h hs
 obtain⟨z,i,c,rfl,rfl,hz,he,q⟩:=h
 obtain⟨t,rfl⟩:=rx
 obtain⟨t',rfl⟩:=ry
 obtain⟨j,h1,h2,h3,h4,h5⟩:=xr6 he
 have hl:z.cps.toList.length=z.length:=by simp[Str.length]
 rw[hl] at h1 h4 h5
 have hn:=wu8
 exact tail_any (typeIs_str s z t) slot_str_getitem.lookup (getItem_str (c:=c) (by
  have e1:decide (i < -(2 ^ 63:Int))=false:=decide_eq_false (by omega)
  have e2:decide (i>=2 ^ 63)=false:=decide_eq_false (by omega)
  rw[e1,e2,Bool.or_false]) (by rw[h1];simpa using h2) ⟨.str ⟨#[c]⟩,H,I.tok _,⟨_,rfl⟩,q⟩) hs
def rIx(K:Fg):R2:=fun x y H Q=>zy6 K x y H Q\/zy7 K x y H Q\/zy8 x y H Q
theorem zs2:IxR X (rIx X.K):=zi7.or (zs0.or zs1)
theorem yh1(its:List Value)(n j:Nat)(u:Value):Obj.mapSeq (·.setIfInBounds j u) {cls:=.type "list",data:=.seq its.toArray n}={cls:=.type "list",data:=.seq (its.set j u).toArray n}:=by
 simp[Obj.mapSeq]
theorem Inv.lst{pins:List (Addr×Obj)}{σ:St}{H:Hp}{s:Shared}{p:Addr}{xs:List V}(I:Inv X pins σ H s)(h:H p=some (.lst xs)) :
 ∃ (its:List Value) (n:Nat),L1 xs its/\s.heap.get? p=some {cls:=.type "list",data:=.seq its.toArray n}/\xs.length<=sizeLine:=by
 obtain⟨z,its,n,r,e⟩:=I.hok p _ h
 exact⟨its,n,r,e,z⟩
theorem Inv.lstUpd{n':Nat}{f:Obj->Obj}(I:Inv X pins σ H s)(h:H p=some (.lst xs))(ho:s.heap.get? p=some {cls:=.type "list",data:=.seq its.toArray n})(hf:f {cls:=.type "list",data:=.seq its.toArray n}={cls:=.type "list",data:=.seq its'.toArray n'})(r:L1 ys its')(hz:ys.length<=sizeLine)(t':Nat)(ht:autoParam (0<t') zAt) :
 Inv X pins σ (upd H p (.lst ys)) {s with heap:=s.heap.update p f,toks:=t'}:=by
 have e:(s.heap.update p f).get? p=some {cls:=.type "list",data:=.seq its'.toArray n'}:=by
  rw[Heap.get?_update_self f ho (by rw[hf] <;> rfl),hf]
 refine I.write (x:=p) (e:=p) (by rw[h];trivial) (.inl rfl) (fun b u hb q=>(Heap.get?_update_other _ _ (Ne.symm hb)).trans q) ⟨_,e⟩ ?_
 exact⟨hz,its',n',r,e⟩
def yy3:V->V->V->Hp->(Hp->Prop)->Prop:=fun o i v H Q=>∃ p xs k j,o=.ref p/\i=.int k/\H p=some (.lst xs)/\ixN xs.length k=some j/\Q (upd H p (.lst (xs.set j v)))
theorem yy4:zr4 X yy3:=by
 intro pins s σ H o i v ov iv u Q I ro ri rv h
 obtain⟨p,xs,k,j,rfl,rfl,hp,hj,q⟩:=h
 cases ro
 obtain⟨t,rfl⟩:=ri
 obtain⟨its,n,r,ho,hz⟩:=I.lst hp
 obtain⟨h1,h2,h3,h4⟩:=ym9 hj
 have hl:=r.length
 have hn:=wu8
 have I':Inv X pins σ (upd H p (.lst (xs.set j v))) {s with heap:=s.heap.update p (Obj.mapSeq (·.setIfInBounds j u))} :=
  I.lstUpd hp ho (yh1 its n j u) (r.set rv j) (by rw[List.length_set];exact hz) s.toks
 by_cases h0:0<=k
 ·have hk:k.toNat=j:=by
   rw[seqIndex_of h0 h4] at h1
   exact Option.some.inj h1
  exact PySem.W.ki_setAt ho h0 (by omega) (by rw[List.size_toArray,<-hl];exact h4) (by rw[hk];exact⟨_,I',q⟩)
 ·have hk:(k+(its.toArray.size:Int)).toNat=j:=by
   rw[seqIndex_neg (by omega) h3] at h1
   rw[List.size_toArray,<-hl]
   exact Option.some.inj h1
  exact PySem.W.ki_setBack ho (by omega) (by rw[List.size_toArray,<-hl];exact h3) (by omega) (by rw[hk];exact⟨_,I',q⟩)
theorem wb2(lo hi:Option Int)(n:Nat):(sliceBounds lo hi none n).1=((HT.sIx n 0 lo:Nat):Int)/\(sliceBounds lo hi none n).2.1=((HT.sIx n n hi:Nat):Int)/\(sliceBounds lo hi none n).2.2=1:=by
 refine⟨?_,?_,rfl⟩
 ·cases lo with
  | none=>simp[sliceBounds,HT.sIx]
  | some i =>
    simp only[sliceBounds,HT.sIx,Option.getD_none,show(1:Int) > 0 by decide,if_true]
    by_cases h:i<0
    ·simp only[h,if_true] <;> omega
    ·simp only[h,if_false] <;> omega
 ·cases hi with
  | none=>simp[sliceBounds,HT.sIx]
  | some i =>
    simp only[sliceBounds,HT.sIx,Option.getD_none,show(1:Int) > 0 by decide,if_true]
    by_cases h:i<0
    ·simp only[h,if_true] <;> omega
    ·simp only[h,if_false] <;> omega
theorem xl1(its:List Value)(lo hi:Option Int):slicePick its.toArray lo hi none=((its.drop (HT.sIx its.length 0 lo)).take (HT.sIx its.length its.length hi-HT.sIx its.length 0 lo)).toArray:=by
 obtain⟨h1,h2,h3⟩:=wb2 lo hi its.toArray.size
 unfold slicePick
 rw[h1,h2,h3]
 simp only[sliceRange_one,pick_run,List.size_toArray] <;> rfl
def zy9(K:Fg):V->Option Int->Option Int->Hp->VK->Prop:=fun x lo hi H Q=>∃ a xs,x=.ref a/\SqL K H a xs/\∀ p,H p=none->Q (.ref p) (upd H p (.lst (qn3 xs lo hi)))
theorem zi8:SlR X (zy9 X.K):=by
 intro pins s σ H x v vl vu lo hi sl Q I rx hs pl pu h
 obtain⟨a,xs,rfl,hx,q⟩:=h
 cases rx
 obtain⟨its,r,ht,hz⟩:=I.list hx
 have hlen:=r.length
 refine⟨"list",_,slot_list_getitem.lookup,ht.isList.typeIs,?_⟩
 refine wpAny_getItem_list_slice ht.isList hs pl pu .none (by simp) ?_ (by rw[List.size_toArray] <;> omega)
 rw[xl1,<-hlen]
 refine⟨.ref s.heap.objs.size,_,I.laid (t':=s.toks) (o:=.lst (qn3 xs lo hi)) (fun b ob q=>Heap.get?_push_of_some _ q) (Nat.le_refl _) ?_,rfl,q _ (I.hok.fresh (Nat.le_refl _))⟩
 exact⟨Nat.le_trans (xa4 xs lo hi) hz,_,0,(r.drop (HT.sIx xs.length 0 lo)).take (HT.sIx xs.length xs.length hi-HT.sIx xs.length 0 lo),Heap.get?_push_size _ rfl⟩
def qy1:V->Bool
 | .non=>true
 | .bl _=>true
 | .int _=>true
 | .str _=>true
 | _=>false
def eqV:V->V->Bool
 | .non,.non=>true
 | .bl a,.bl b=>a == b
 | .bl a,.int b=>(if a then 1 else 0) == b
 | .int a,.bl b=>a == (if b then 1 else 0)
 | .int a,.int b=>a == b
 | .str a,.str b=>a == b
 | _,_=>false
theorem zs3{x:V}{v:Value}(ry:L4 y u)(rx:L4 x v)(fy:qy1 y=true)(fx:qy1 x=true):SeqAt.EqAt A s u v (eqV y x):=by
 cases y with
 | non =>
   cases ry
   cases x with
   | non=>cases rx;exact SeqAt.EqAt.same _
   | bl b=>cases rx;exact SeqAt.EqAt.none_bool b
   | int b=>obtain⟨t,rfl⟩:=rx;exact SeqAt.EqAt.none_int b t
   | str b=>obtain⟨t,rfl⟩:=rx;exact SeqAt.EqAt.none_str b t
   | _=>exact absurd (show false=true from fx) Bool.false_ne_true
 | bl a =>
   cases ry
   cases x with
   | non=>cases rx;exact SeqAt.EqAt.bool_none a
   | bl b=>cases rx;exact SeqAt.EqAt.bool_bool a b
   | int b=>obtain⟨t,rfl⟩:=rx;exact SeqAt.EqAt.bool_int a b t
   | str b=>obtain⟨t,rfl⟩:=rx;exact SeqAt.EqAt.bool_str a b t
   | _=>exact absurd (show false=true from fx) Bool.false_ne_true
 | int a =>
   obtain⟨t',rfl⟩:=ry
   cases x with
   | non=>cases rx;exact SeqAt.EqAt.int_none a t'
   | bl b=>cases rx;exact SeqAt.EqAt.int_bool a t' b
   | int b=>obtain⟨t,rfl⟩:=rx;exact SeqAt.EqAt.int_int a t' b t
   | str b=>obtain⟨t,rfl⟩:=rx;exact SeqAt.EqAt.int_str a t' b t
   | _=>exact absurd (show false=true from fx) Bool.false_ne_true
 | str a =>
   obtain⟨t',rfl⟩:=ry
   cases x with
   | non=>cases rx;exact SeqAt.EqAt.str_none a t'
   | bl b=>cases rx;exact SeqAt.EqAt.str_bool a t' b
   | int b=>obtain⟨t,rfl⟩:=rx;exact SeqAt.EqAt.str_int a t' b t
   | str b=>obtain⟨t,rfl⟩:=rx;exact SeqAt.EqAt.str_str a t' b t
   | _=>exact absurd (show false=true from fx) Bool.false_ne_true
 | _=>exact absurd (show false=true from fy) Bool.false_ne_true
def eqU(x:V)(u:Value):Bool:=match u with
 | .none=>eqV .non x
 | .bool b=>eqV (.bl b) x
 | .int i _=>eqV (.int i) x
 | .str z _=>eqV (.str z) x
 | _=>false
theorem yy5{x:V}(r:L4 y u)(f:qy1 y=true):eqU x u=eqV y x:=by
 cases y with
 | non=>cases r;rfl
 | bl b=>cases r;rfl
 | int i=>obtain⟨t,rfl⟩:=r;rfl
 | str z=>obtain⟨t,rfl⟩:=r;rfl
 | _=>exact absurd (show false=true from f) Bool.false_ne_true
theorem wq0{x:V}:∀ {xs:List V} {us:List Value},L1 xs us->xs.all qy1=true->us.any (eqU x)=xs.any fun y=>eqV y x
 | _,_,.nil,_=>rfl
 | y::xs,u::us,.cons r t,f=>by
   rw[List.all_cons,Bool.and_eq_true] at f
   rw[List.any_cons,List.any_cons,yy5 r f.1,wq0 t f.2]
theorem wf4{A:Around}{s:Shared}{x:V}{v:Value}(rx:L4 x v)(fx:qy1 x=true):∀ {xs:List V} {us:List Value},L1 xs us->xs.all qy1=true->∀ u∈us,SeqAt.EqAt A s u v (eqU x u)
 | _,_,.nil,_=>fun u hu=>by cases hu
 | y::xs,u::us,.cons r t,f=>fun u' hu=>by
   rw[List.all_cons,Bool.and_eq_true] at f
   rcases List.mem_cons.mp hu with rfl|hu
   ·rw[yy5 r f.1];exact zs3 r rx f.1 fx
   ·exact wf4 rx fx t f.2 u' hu
def inV(x:V)(xs:List V):Bool:=xs.any fun y=>eqV y x
def rIn(K:Fg)(neg:Bool):R2:=fun x y H Q=>∃ p xs,y=.ref p/\(SqL K H p xs\/SqT K H p xs)/\qy1 x=true/\xs.all qy1=true/\Q (.bl (if neg then !inV x xs else inV x xs)) H
theorem ys9:OpR X (compareOp .In) (rIn X.K false):=by
 intro pins s σ H x y v u Q I rx ry h
 obtain⟨p,xs,rfl,hq,fx,fs,q⟩:=h
 cases ry
 rcases hq with hq|hq
 ·obtain⟨its,r,pl,hz⟩:=I.list hq
  refine SeqAt.in_listAt (eqU x) pl.isList (fun w hw=>wf4 rx fx r fs w (by simpa using hw)) ⟨.bl _,H,I,rfl,?_⟩
  rw[show its.toArray.any (eqU x)=its.any (eqU x) by simp,wq0 r fs]
  exact q
 ·obtain⟨its,r,pl,hz⟩:=I.tuple hq
  refine SeqAt.in_tupleAt (eqU x) pl (fun w hw=>wf4 rx fx r fs w (by simpa using hw)) ⟨.bl _,H,I,rfl,?_⟩
  rw[show its.toArray.any (eqU x)=its.any (eqU x) by simp,wq0 r fs]
  exact q
theorem xr7:OpR X (compareOp .NotIn) (rIn X.K true):=by
 intro pins s σ H x y v u Q I rx ry h
 obtain⟨p,xs,rfl,hq,fx,fs,q⟩:=h
 cases ry
 rcases hq with hq|hq
 ·obtain⟨its,r,pl,hz⟩:=I.list hq
  refine SeqAt.notIn_listAt (eqU x) pl.isList (fun w hw=>wf4 rx fx r fs w (by simpa using hw)) ⟨.bl _,H,I,rfl,?_⟩
  rw[show its.toArray.any (eqU x)=its.any (eqU x) by simp,wq0 r fs]
  exact q
 ·obtain⟨its,r,pl,hz⟩:=I.tuple hq
  refine SeqAt.notIn_tupleAt (eqU x) pl (fun w hw=>wf4 rx fx r fs w (by simpa using hw)) ⟨.bl _,H,I,rfl,?_⟩
  rw[show its.toArray.any (eqU x)=its.any (eqU x) by simp,wq0 r fs]
  exact q
theorem xr8:OpR X (compareOp .NotIn) (fun x y H Q=>∃ i j,x=.str i/\y=.str j/\Q (.bl (!(!(Builtin.Str.occurrences j i 0 j.length 1).isEmpty))) H):=by
 intro pins s σ H x y v u Q I rx ry h
 obtain⟨i,j,rfl,rfl,q⟩:=h
 obtain⟨t,rfl⟩:=rx
 obtain⟨t',rfl⟩:=ry
 exact notIn_str ⟨.bl _,H,I,rfl,q⟩
theorem xr9:qm5 X (.builtin "len") (fun xs H Q=>∃ p ys,xs=[.ref p]/\(SqL X.K H p ys\/SqT X.K H p ys)/\Q (.int ys.length) H):=by
 intro pins s σ H xs us Q I r h
 obtain⟨p,ys,rfl,hq,q⟩:=h
 obtain⟨u,rfl,rx⟩:=wd3 r
 cases rx
 have hn:=wu8
 rcases hq with hq|hq
 ·obtain⟨its,r',pl,hz⟩:=I.list hq
  have hlen:=r'.length
  exact Calls.call_len_list pl.isList (by simp only[List.size_toArray] <;> omega) ⟨.int ys.length,H,I.tok _,⟨s.toks+1,by rw[List.size_toArray,hlen]⟩,q⟩
 ·obtain⟨its,r',pl,hz⟩:=I.tuple hq
  have hlen:=r'.length
  exact len_tuple pl (by simp only[List.size_toArray] <;> omega) ⟨.int ys.length,H,I.tok _,⟨s.toks+1,by rw[List.size_toArray,hlen]⟩,q⟩
theorem xs0:qm5 X (.builtin "len") (fun xs H Q=>∃ z,xs=[.str z]/\z.length<=sizeLine/\Q (.int z.length) H):=by
 intro pins s σ H xs us Q I r h
 obtain⟨z,rfl,hz,q⟩:=h
 obtain⟨u,rfl,t,rfl⟩:=wd3 r
 have hn:=wu8
 exact len_str (by omega) ⟨.int z.length,H,I.tok _,⟨_,rfl⟩,q⟩
theorem qm5.or{f:Value}{r r':List V->Hp->VK->Prop}(h:qm5 X f r)(h':qm5 X f r'):qm5 X f (fun xs H Q=>r xs H Q\/r' xs H Q):=by
 intro pins s σ H xs us Q I rs q
 rcases q with q|q
 ·exact h pins s σ H xs us Q I rs q
 ·exact h' pins s σ H xs us Q I rs q
theorem xl2:qm5 X (.type "tuple") (fun xs H Q=>∃ p ys,xs=[.ref p]/\((SqL X.K H p ys/\∀ l,H l=none->Q (.ref l) (upd H l (.tup ys)))\/(SqT X.K H p ys/\Q (.ref p) H))):=by
 intro pins s σ H xs us Q I r h
 obtain⟨p,ys,rfl,h⟩:=h
 obtain⟨u,rfl,rx⟩:=wd3 r
 cases rx
 rcases h with⟨hq,q⟩|⟨hq,q⟩
 ·obtain⟨its,r',pl,hz⟩:=I.list hq
  have hlen:=r'.length
  refine call_tuple_list pl.isList (fun h' kp=>?_) (by simp only[List.size_toArray] <;> omega)
  have I1:Inv X pins σ H {s with heap:=h'}:=I.kept (t':=s.toks) kp
  have I2:Inv X pins σ (upd H h'.objs.size (.tup ys)) {s with heap:=h'.push {cls:=.type "tuple",data:=.seq its.toArray}} :=
   I1.laid (t':=s.toks) (fun b o e=>Heap.get?_push_of_some _ e) (Nat.le_refl _) (show V1 X.prog X.w _ _ _ (.tup ys) from ⟨hz,its,r',IsTup.new _ _⟩)
  exact⟨.ref h'.objs.size,_,I2,rfl,q _ (I1.hok.fresh (Nat.le_refl _))⟩
 ·obtain⟨its,r',pl,hz⟩:=I.tuple hq
  exact call_tuple_same pl ⟨.ref p,H,I,rfl,q⟩
def tyV(K:Fg)(T:String)(x:V)(H:Hp):Prop:=match x with
 | .str _=>T = "str"
 | .int _=>T = "int"
 | .ref p=>(T = "list"/\∃ xs,SqL K H p xs)\/(T = "tuple"/\∃ o,K.lookup p=some o/\o.cls=.type "tuple"/\o.dict=none) \/
  (T = "dict"/\((∃ kvs,H p=some (.dK kvs))\/∃ kvs,H p=some (.dT kvs)))\/(T = "set"/\∃ S n,H p=some (.set S n))
 | _=>False
theorem yh2{x:V}{v:Value}(I:Inv X pins σ H s)(r:L4 x v)(ty:tyV X.K T x H) :
 s.TypeIs v T/\∀ a,v=.ref a->∃ ob,s.heap.get? a=some ob/\ob.dict=none:=by
 cases x with
 | str z =>
   obtain⟨t,rfl⟩:=r
   cases (show T = "str" from ty)
   exact⟨typeIs_str s z t,fun _ e=>nomatch e⟩
 | int i =>
   obtain⟨t,rfl⟩:=r
   cases (show T = "int" from ty)
   exact⟨typeIs_int s i t,fun _ e=>nomatch e⟩
 | ref p =>
   cases r
   rcases ty with⟨rfl,xs,hq⟩|⟨rfl,o,hk,hc,hd⟩|⟨rfl,hk⟩|⟨rfl,S,n,hk⟩
   ·obtain⟨its,_,pl,_⟩:=I.list hq
    refine⟨pl.isList.typeIs,fun a e=>?_⟩
    cases e
    obtain⟨o,n,e,c,hd,_⟩:=pl
    exact⟨o,e,hd⟩
   ·refine⟨⟨o,I.kIn p o hk,hc⟩,fun a e=>?_⟩
    cases e
    exact⟨o,I.kIn _ o hk,hd⟩
   ·have z:∃ o,s.heap.get? p=some o/\o.ExactDict:=by
     rcases hk with⟨kvs,hk⟩|⟨kvs,hk⟩
     ·obtain⟨_,_,_,_,o,_,_,e,ex,_⟩:=I.hok p _ hk
      exact⟨o,e,ex⟩
     ·obtain⟨_,_,_,_,o,_,_,e,ex,_⟩:=I.hok p _ hk
      exact⟨o,e,ex⟩
    obtain⟨o,e,ex⟩:=z
    refine⟨⟨o,e,ex.1⟩,fun a e2=>?_⟩
    cases e2
    exact⟨o,e,ex.2.1⟩
   ·obtain⟨o,_,_,_,e,ex,_⟩:=I.hok p _ hk
    refine⟨⟨o,e,ex.1⟩,fun a e2=>?_⟩
    cases e2
    exact⟨o,e,ex.2.1⟩
 | _=>exact False.elim ty
def yy6(K:Fg)(T:String)(r:V->List V->Hp->VK->Prop)(to:TE):TE:=fun σ H Q=>to σ H fun x H1=>tyV K T x H1/\r x [] H1 Q
def tBM(K:Fg)(T:String)(r:V->List V->Hp->VK->Prop)(to:TE)(t:TA):TE:=fun σ H Q=>to σ H fun x H1=>tyV K T x H1/\t σ H1 fun xs H2=>r x xs H2 Q
variable{id:String}{r:V->List V->Hp->VK->Prop}
theorem yh3(pa:PlainAttrs T)(slot:Slot T name id)(hty:typeOf (.builtin id)=pure (.type "method_descriptor"))(hm:MtR X id r)(ho:PE X o to)(hbase:autoParam (attributeBase o name X.env (eval o X.env)=eval o X.env) zAr)(hline:autoParam ((apos.endLine == cpos.line)=true) zAr):PE X (.Call (.Attribute o name apos) [] [] cpos) (yy6 X.K T r to):=by
 intro pins s σ H Q I h
 refine wpAny_Call_method0_late hbase hline (thn (ho pins s σ H _ I h) fun v s1 zq=>?_)
 obtain⟨x,H1,I1,r1,ty,q1⟩:=zq
 obtain⟨h1,h2⟩:=yh2 I1 r1 ty
 exact⟨T,id,pa,slot,hty,h1,h2,Calls.callWith_builtin rfl (PySem.evalArgs_none (hm pins s1 σ H1 x [] v [] Q I1 r1 .nil q1))⟩
theorem U5(pa:PlainAttrs T)(slot:Slot T name id)(hty:typeOf (.builtin id)=pure (.type "method_descriptor"))(hm:MtR X id r)(ho:PE X o to)(ha:PA X (e::es) t)(hbase:autoParam (attributeBase o name X.env (eval o X.env)=eval o X.env) zAr) (hfew:((backTo cpos (starEach (e::es) X.env)).all (fun x=>!x.1) && (backToKw cpos (keywordEach [] X.env)).all (fun x=>x.1.isSome)
  && decide ((e::es).length+([]:List Keyword).length+(if([]:List Keyword).isEmpty then 0 else 1)<30))=true:=by rfl) (hline:autoParam ((apos.endLine == cpos.line)=true) zAr) (hs:autoParam (starEach (e::es) X.env=(false,eval e X.env)::starEach es X.env) zAr) (hplain:autoParam ((backTo cpos (starEach es X.env)).any (·.1)=false) zAr) :
 PE X (.Call (.Attribute o name apos) (e::es) [] cpos) (tBM X.K T r to t):=by
 intro pins s σ H Q I h
 refine wpAny_Call_method_late hbase hfew hline rfl (thn (ho pins s σ H _ I h) fun v s1 zq=>?_)
 obtain⟨x,H1,I1,r1,ty,q1⟩:=zq
 obtain⟨h1,h2⟩:=yh2 I1 r1 ty
 refine⟨T,id,pa,slot,hty,h1,h2,?_⟩
 have hA:=ha cpos pins s1 σ H1 _ I1 q1
 rw[hs] at hA ⊢
 refine Calls.callWith_builtin (by show(false || (backTo cpos (starEach es X.env)).any (·.1))=false;rw[hplain] <;> rfl) (Calls.evalArgs_plain ?_)
 exact thn hA fun us s2 ⟨vs,H2,I2,r2,q2⟩=>hm pins s2 σ H2 x vs v us Q I2 r1 r2 q2
end
def MtM(X:Cx)(id:String)(r:V->List V->Hp->VK->Prop):Prop :=
 ∀ (pins:List (Addr×Obj)) (s:Shared) (σ:St) (H:Hp) (x:V) (xs:List V) (v:Value) (us:List Value) (Q:VK),Inv X pins σ H s->L4 x v->L1 xs us->r x xs H Q ->
  wpAny (model X.prog X.w) X.A (call (.builtin id) (v::us)) (EP X pins σ Q) X.xe s
theorem L1.one{x:V}(r:L1 [x] us):∃ u,us=[u]/\L4 x u:=wd3 r
theorem L1.zero:∀ {us:List Value},L1 [] us->us=[]
 | _,.nil=>rfl
theorem L1.dropLast{xs:List V}{us:List Value}(h:L1 xs us):L1 xs.dropLast us.dropLast:=by
 induction h with
 | nil=>exact .nil
 | cons r t ih =>
   cases t with
   | nil=>exact .nil
   | cons q t'=>exact .cons r ih
theorem L1.rep{xs:List V}{us:List Value}(h:L1 xs us):∀ k:Nat,L1 (List.replicate k xs).flatten (List.replicate k us).flatten
 | 0=>.nil
 | k+1=>by
   rw[List.replicate_succ,List.replicate_succ,List.flatten_cons,List.flatten_cons]
   exact L1.append h (L1.rep h k)
theorem yh4(l:List α):l.eraseIdx (l.length-1)=l.dropLast:=by
 induction l with
 | nil=>rfl
 | cons a r ih =>
   cases r with
   | nil=>rfl
   | cons b r =>
     have e:(a::b::r).length-1=((b::r).length-1)+1:=by
      have h1:(a::b::r).length=r.length+2:=rfl
      have h2:(b::r).length=r.length+1:=rfl
      omega
     rw[e,List.eraseIdx_cons_succ,ih]
     all_goals rfl
theorem xo5(its:List Value):∀ (k:Nat) (acc:List Value),
 List.foldl (fun x1 x2=>x1++x2) acc.toArray (List.replicate k its.toArray)=(acc++(List.replicate k its).flatten).toArray
 | 0,acc=>by simp
 | k+1,acc=>by
   have e:acc.toArray++its.toArray=(acc++its).toArray:=by simp
   have e2:(acc++its)++(List.replicate k its).flatten=acc++(List.replicate (k+1) its).flatten:=by
    rw[List.replicate_succ,List.flatten_cons,List.append_assoc]
   rw[<-e2,<-xo5 its k (acc++its),<-e,List.replicate_succ,List.foldl_cons]
variable{l:Addr}{zs:List V}
theorem Inv.lset{f:Array Value->Array Value}(I:Inv X pins σ H s)(hH:H l=some (.lst xs))(e:s.heap.get? l=some {cls:=.type "list",data:=.seq its.toArray n})(hf:f its.toArray=its'.toArray)(hv:L1 ys its')(hz:ys.length<=sizeLine)(ht:autoParam (0<t') zAt) :
 Inv X pins σ (upd H l (.lst ys)) {s with heap:=s.heap.update l (Obj.mapSeq f),toks:=t'}:=by
 have q:=PySem.IsL.update e f
 rw[hf] at q
 refine I.write (x:=l) (e:=l) (by rw[hH];exact trivial) (.inl rfl) (fun b' u hb hu=>(Heap.get?_update_other s.heap (Obj.mapSeq f) (Ne.symm hb)).trans hu) ⟨_,q⟩ ?_
 exact⟨hz,its',_,hv,q⟩
theorem Inv.lnew(I:Inv X pins σ H s)(hv:L1 ys its)(hz:ys.length<=sizeLine)(ht:autoParam (0<t') zAt) :
 Inv X pins σ (upd H s.heap.objs.size (.lst ys)) {s with heap:=s.heap.push {cls:=.type "list",data:=.seq its.toArray},toks:=t'} :=
 I.laid (fun _ _ q=>Heap.get?_push_of_some _ q) (Nat.le_refl _) ⟨hz,its,0,hv,Heap.get?_push_size _ rfl⟩
theorem Inv.fresh(I:Inv X pins σ H s):H s.heap.objs.size=none:=I.hok.fresh (Nat.le_refl _)
theorem Inv.lstM(I:Inv X pins σ H s)(hH:H l=some (.lst xs)):xs.length<=sizeLine/\∃ (its:List Value) (n:Nat),L1 xs its/\xs.length=its.length/\s.heap.get? l=some {cls:=.type "list",data:=.seq its.toArray n}:=by
 obtain⟨z,its,n,r,e⟩:=I.hok l _ hH
 exact⟨z,its,n,r,r.length,e⟩
theorem xy5(h:n<=sizeLine):Builtin.List.listTooLong n=false:=by
 unfold Builtin.List.listTooLong
 exact decide_eq_false (by omega)
def N2:V->List V->Hp->VK->Prop:=fun x vs H Q=>∃ l xs y,x=.ref l/\vs=[y]/\H l=some (.lst xs)/\xs.length<sizeLine/\Q .non (upd H l (.lst (xs++[y])))
theorem M3:MtM X "list.append" N2:=by
 intro pins s σ H x vs v us Q I rx rv h
 obtain⟨l,xs,y,rfl,rfl,hH,hz,q⟩:=h
 cases rx
 obtain⟨u,rfl,ru⟩:=rv.one
 obtain⟨z,its,n,r,hl,e⟩:=I.lstM hH
 refine call_meets F.slot_list_append ⟨_,e,rfl⟩ F.entry_list_append (F.args_list_append_2 _ _) (PySem.list_append l its.toArray n u (by rw[List.size_toArray];omega)) ⟨e,?_⟩
 refine⟨.non,_,I.lset (its':=its++[u]) hH e (by simp) (r.append (.cons ru .nil)) ?_,rfl,q⟩
 rw[List.length_append,List.length_singleton]
 omega
def xd2:V->List V->Hp->VK->Prop:=fun x vs H Q=>∃ l b xs zs,x=.ref l/\vs=[.ref b]/\H l=some (.lst xs)/\H b=some (.lst zs)/\xs.length+zs.length<=sizeLine/\Q .non (upd H l (.lst (xs++zs)))
theorem xo6:MtM X "list.extend" xd2:=by
 intro pins s σ H x vs v us Q I rx rv h
 obtain⟨l,b,xs,zs,rfl,rfl,hH,hB,hz,q⟩:=h
 cases rx
 obtain⟨u,rfl,ru⟩:=rv.one
 cases ru
 obtain⟨z,its,n,r,hl,e⟩:=I.lstM hH
 obtain⟨z2,its2,n2,r2,hl2,e2⟩:=I.lstM hB
 have hsz:its.toArray.size+its2.toArray.size<=sizeLine:=by rw[List.size_toArray,List.size_toArray];omega
 have hlong:¬(!its.toArray.isEmpty && Builtin.List.listTooLong (its.toArray.size+its2.toArray.size))=true:=by
  rw[xy5 hsz,Bool.and_false]
  exact Bool.false_ne_true
 refine call_meets F.slot_list_extend ⟨_,e,rfl⟩ F.entry_list_extend (F.args_list_extend_2 _ _)
  (AutoSeq1.list_extend_list_list_0 l its.toArray n b its2.toArray n2 hlong (by rw[List.size_toArray];omega) (by omega)) ⟨e,e2,?_⟩
 refine⟨.non,_,I.lset (its':=its++its2) hH e (by simp) (r.append r2) ?_,rfl,q⟩
 rw[List.length_append]
 omega
def yy7:V->List V->Hp->VK->Prop:=fun x vs H Q=>∃ l xs y,x=.ref l/\vs=[]/\H l=some (.lst xs)/\xs[xs.length-1]?=some y/\Q y (upd H l (.lst xs.dropLast))
theorem yh5:MtM X "list.pop" yy7:=by
 intro pins s σ H x vs v us Q I rx rv h
 obtain⟨l,xs,y,rfl,rfl,hH,hy,q⟩:=h
 cases rx
 have hus:=rv.zero
 subst hus
 obtain⟨z,its,n,r,hl,e⟩:=I.lstM hH
 obtain⟨u,hu,ru⟩:=r.get hy
 have hy':its.toArray[its.toArray.size-1]?=some u:=by
  show its.toArray[its.length-1]?=some u
  rw[<-Array.getElem?_toList,<-hl]
  exact hu
 refine call_meets F.slot_list_pop ⟨_,e,rfl⟩ F.entry_list_pop (F.args_list_pop_1 _) (MeetsSeq.list_pop_last l its.toArray n u hy' (by rw[List.size_toArray];omega)) ⟨e,?_⟩
 refine⟨y,_,I.lset (its':=its.dropLast) hH e ?_ r.dropLast ?_,ru,q⟩
 ·show its.toArray.eraseIdxIfInBounds (its.toArray.size-1)=its.dropLast.toArray
  rw[List.size_toArray,List.eraseIdxIfInBounds_toArray,yh4]
 ·rw[List.length_dropLast]
  omega
def zz0:R2:=fun x y H Q=>∃ l b xs zs,x=.ref l/\y=.ref b/\H l=some (.lst xs)/\H b=some (.lst zs)/\xs.length+zs.length<=sizeLine/\∀ p,H p=none->Q (.ref p) (upd H p (.lst (xs++zs)))
theorem zs4:OpR X (binaryOp .Add) zz0:=by
 intro pins s σ H x y v u Q I rx ry h
 obtain⟨l,b,xs,zs,rfl,rfl,hH,hB,hz,q⟩:=h
 cases rx
 cases ry
 obtain⟨z,its,n,r,hl,e⟩:=I.lstM hH
 obtain⟨z2,its2,n2,r2,hl2,e2⟩:=I.lstM hB
 refine PySem.P.add_list e e2 ?_ (by rw[List.size_toArray,List.size_toArray];omega)
 have ea:its.toArray++its2.toArray=(its++its2).toArray:=by simp
 rw[ea]
 exact⟨.ref _,_,I.lnew (t':=s.toks) (r.append r2) (by rw[List.length_append];omega),rfl,q _ I.fresh⟩
def zz1:R2:=fun x y H Q=>∃ l k xs,x=.ref l/\y=.int k/\H l=some (.lst xs)/\-(2 ^ 63)<=k/\k<2 ^ 63/\xs.length*k.toNat<=sizeLine /\
 ∀ p,H p=none->Q (.ref p) (upd H p (.lst (List.replicate k.toNat xs).flatten))
theorem zi9(xs:List α)(k:Nat):(List.replicate k xs).flatten.length=k*xs.length:=by
 induction k with
 | zero=>simp
 | succ k ih=>rw[List.replicate_succ,List.flatten_cons,List.length_append,ih,Nat.succ_mul,Nat.add_comm]
theorem zs5:OpR X (binaryOp .Mult) zz1:=by
 intro pins s σ H x y v u Q I rx ry h
 obtain⟨l,k,xs,rfl,rfl,hH,h1,h2,hz,q⟩:=h
 cases rx
 obtain⟨t,rfl⟩:=ry
 obtain⟨z,its,n,r,hl,e⟩:=I.lstM hH
 have hlen:its.toArray.size*k.toNat<=sizeLine:=by rw[List.size_toArray,<-hl];exact hz
 have hcap:¬its.toArray.size*k.toNat > (2 ^ 63-1) / 8:=by
  have:(sizeLine:Nat)<=(2 ^ 63-1) / 8:=by decide
  omega
 have hfit:¬(!Builtin.List.listFitsIndex k)=true:=by
  rw[fitsIndex_both h1 h2]
  exact Bool.false_ne_true
 have hlong:¬Builtin.List.listTooLong (its.toArray.size*k.toNat)=true:=by
  rw[xy5 hlen]
  exact Bool.false_ne_true
 have hnew:List.foldl (fun x1 x2=>x1++x2) #[] (List.replicate (if its.toArray.isEmpty=true then 0 else k.toNat) its.toArray)=(List.replicate k.toNat its).flatten.toArray:=by
  have f0:∀ m:Nat,List.foldl (fun x1 x2=>x1++x2) #[] (List.replicate m its.toArray)=(List.replicate m its).flatten.toArray:=fun m=>by
   have:=xo5 its m []
   rw[List.nil_append] at this
   exact this
  rw[f0]
  cases its with
  | nil=>simp
  | cons a r'=>rw[if_neg (by simp)]
 refine wpAny_binaryOp_repeat_ref (T := "list") (U := "int") (by decide) ⟨_,e,rfl⟩ (fun s'=>typeIs_int s' k t) noFill_list_mul F.fills_int_mul F.slot_int_rmul repeat_list F.slot_int_index.lookup
  (call_meets F.slot_int_rmul (typeIs_int s k t) F.entry_int_rmul (F.args_int_rmul_2 _ _) (int___rmul___int_list k t l its.toArray n)
   ⟨e,rfl,⟨_,e,rfl⟩,call_meets F.slot_list_mul ⟨_,e,rfl⟩ F.entry_list_mul (F.args_list_mul_2 _ _) (AutoListH.list___mul___list_int_3 l its.toArray n k t hfit hcap hlong) ⟨e,?_⟩⟩)
 rw[hnew]
 exact⟨.ref _,_,I.lnew (t':=s.toks) (r.rep k.toNat) (by rw[zi9,Nat.mul_comm];exact hz),rfl,q _ I.fresh⟩
variable{κ:Type}
section
variable[DecidableEq κ]
def wv0(kvs:List (κ×V))(k:κ):Option V:=(kvs.find? fun kv=>decide (kv.1=k)).map (·.2)
def wq1(kvs:List (κ×V))(k:κ)(v:V):List (κ×V) :=
 if(kvs.any fun kv=>decide (kv.1=k))=true then kvs.map (fun kv=>if kv.1=k then(kv.1,v) else kv) else kvs++[(k,v)]
theorem zz2{k:κ}:wv0 ([]:List (κ×V)) k=none:=rfl
theorem xe8{p:κ×V}{r:List (κ×V)}{k:κ}(e:p.1=k):wv0 (p::r) k=some p.2:=by simp[wv0,List.find?_cons,e]
theorem xe9{p:κ×V}{r:List (κ×V)}{k:κ}(e:¬p.1=k):wv0 (p::r) k=wv0 r k:=by simp[wv0,List.find?_cons,e]
theorem xy6(k:κ):∀ kvs:List (κ×V),(kvs.any fun kv=>decide (kv.1=k))=(wv0 kvs k).isSome
 | []=>rfl
 | p::r=>by
   rw[List.any_cons]
   by_cases e:p.1=k
   ·simp only[xe8 e,decide_eq_true e,Bool.true_or,Option.isSome_some]
   ·rw[xe9 e,decide_eq_false e,Bool.false_or];exact xy6 k r
theorem wf5(kvs:List (κ×V))(k:κ)(v:V):(wq1 kvs k v).length<=kvs.length+1:=by
 unfold wq1
 split
 ·rw[List.length_map];omega
 ·rw[List.length_append,List.length_cons,List.length_nil];omega
theorem wk7.isSome_eq{o:Option V}{u:Option Value}(r:wk7 o u):o.isSome=u.isSome:=by
 cases o with
 | none=>cases u with
   | none=>rfl
   | some _=>exact(show False from r).elim
 | some _=>cases u with
   | none=>exact(show False from r).elim
   | some _=>rfl
theorem KV.val{kvs:List (κ×V)}{vs:List (κ×Value)}(r:KV kvs vs)(k:κ):wk7 (wv0 kvs k) (valueAt vs k):=by
 unfold KV at r
 induction r with
 | nil=>exact True.intro
 | @cons p q ps qs h t ih =>
   obtain⟨h1,h2⟩:=h
   by_cases e:p.1=k
   ·have e':q.1=k:=h1.symm.trans e
    have b:valueAt (q::qs) k=some q.2:=by simp[valueAt,List.find?_cons,e']
    rw[xe8 e,b];exact h2
   ·have e':¬q.1=k:=fun z=>e (h1.trans z)
    have b:valueAt (q::qs) k=valueAt qs k:=by simp[valueAt,List.find?_cons,e']
    rw[xe9 e,b];exact ih
theorem KV.any{kvs:List (κ×V)}{vs:List (κ×Value)}(r:KV kvs vs)(k:κ):(kvs.any fun kv=>decide (kv.1=k))=vs.any fun kv=>decide (kv.1=k):=by
 unfold KV at r
 induction r with
 | nil=>rfl
 | cons h t ih=>rw[List.any_cons,List.any_cons,ih,h.1]
theorem KV.repl{kvs:List (κ×V)}{vs:List (κ×Value)}(r:KV kvs vs)(k:κ)(ry:L4 y u) :
 KV (kvs.map fun kv=>if kv.1=k then(kv.1,y) else kv) (vs.map fun kv=>if kv.1=k then(kv.1,u) else kv):=by
 unfold KV at r ⊢
 induction r with
 | nil=>exact .nil
 | @cons p q ps qs h t ih =>
   rw[List.map_cons,List.map_cons]
   refine .cons ?_ ih
   obtain⟨h1,h2⟩:=h
   by_cases e:p.1=k
   ·rw[if_pos e,if_pos (h1.symm.trans e)];exact⟨h1,ry⟩
   ·rw[if_neg e,if_neg (fun z=>e (h1.trans z))];exact⟨h1,h2⟩
theorem KV.put{kvs:List (κ×V)}{vs:List (κ×Value)}(r:KV kvs vs)(k:κ)(ry:L4 y u):KV (wq1 kvs k y) (stored vs k u):=by
 unfold wq1 stored
 rw[r.any k]
 by_cases e:(vs.any fun kv=>decide (kv.1=k))=true
 ·rw[if_pos e,if_pos e];exact r.repl k ry
 ·rw[if_neg e,if_neg e];exact Paired.snoc r ⟨rfl,ry⟩
theorem KV.length{kvs:List (κ×V)}{vs:List (κ×Value)}(r:KV kvs vs):kvs.length=vs.length:=Paired.length r
end
theorem xo7{k:Key}(r:L4 (kV k) u):(W4 P w).is k u=true:=by
 cases k with
 | inl i=>obtain⟨t,e⟩:=(show ∃ t,u=Value.int i t from r);subst e;exact xx3 P w i t
 | inr x=>obtain⟨t,e⟩:=(show ∃ t,u=Value.str x t from r);subst e;exact xx4 P w x t
theorem xo8{P:Program}{w:World}:∀ {ks:List Key} {us:List Value},L1 (ks.map kV) us->ItemsAre (W4 P w) ks us
 | [],_,r=>by rw[List.map_nil] at r;cases r;exact .nil
 | k::ks,_,r=>by
   rw[List.map_cons] at r
   cases r with
   | cons h t=>exact .cons (xo7 h) (xo8 t)
abbrev KT(H:Hp):List (List Key×V)->List (List Key×Addr×Value)->Prop:=Paired fun p q=>p.1=q.1/\H q.2.1=some (.tup (p.1.map kV))/\L4 p.2 q.2.2
variable{kvs:List (List Key×V)}
theorem KT.val{xs:List (List Key×Addr×Value)}(r:KT H kvs xs)(k:List Key):wk7 (wv0 kvs k) ((atKey xs k).map (·.2)):=by
 induction r with
 | nil=>exact True.intro
 | @cons p q ps qs h t ih =>
   obtain⟨h1,_,h2⟩:=h
   by_cases e:p.1=k
   ·have e':q.1=k:=h1.symm.trans e
    have b:atKey (q::qs) k=some q.2:=by simp[atKey,List.find?_cons,e']
    rw[xe8 e,b];exact h2
   ·have e':¬q.1=k:=fun z=>e (h1.trans z)
    have b:atKey (q::qs) k=atKey qs k:=by simp[atKey,List.find?_cons,e']
    rw[xe9 e,b];exact ih
theorem KT.repl{xs:List (List Key×Addr×Value)}(r:KT H kvs xs)(k:List Key)(ry:L4 y u) :
 KT H (kvs.map fun kv=>if kv.1=k then(kv.1,y) else kv) (xs.map (putAt k u)):=by
 induction r with
 | nil=>exact .nil
 | @cons p q ps qs h t ih =>
   rw[List.map_cons,List.map_cons]
   refine .cons ?_ ih
   obtain⟨h1,h2,h3⟩:=h
   unfold putAt
   by_cases e:p.1=k
   ·rw[if_pos e,if_pos (h1.symm.trans e)];exact⟨h1,h2,ry⟩
   ·rw[if_neg e,if_neg (fun z=>e (h1.trans z))];exact⟨h1,h2,h3⟩
theorem KT.put{xs:List (List Key×Addr×Value)}(r:KT H kvs xs)(k:List Key)(hb:H b=some (.tup (k.map kV)))(ry:L4 y u) :
 KT H (wq1 kvs k y) (storedH xs k b u):=by
 have e:(kvs.any fun kv=>decide (kv.1=k))=(atKey xs k).isSome:=by
  rw[xy6,(r.val k).isSome_eq,Option.isSome_map]
 unfold wq1 storedH
 rw[e]
 by_cases q:(atKey xs k).isSome=true
 ·rw[if_pos q,if_pos q];exact r.repl k ry
 ·rw[if_neg q,if_neg q];exact Paired.snoc r ⟨rfl,hb,ry⟩
theorem KT.keeps{xs:List (List Key×Addr×Value)}(r:KT H kvs xs)(ht:∀ b ys,H b=some (.tup ys)->H' b=some (.tup ys)):KT H' kvs xs :=
 Paired.mapP r fun _ _ z=>⟨z.1,ht _ _ z.2.1,z.2.2⟩
theorem zo9{u:HO}(ok:HOk P w H h)(e:Rd H a u):V1 P w H h a u:=e.ok ok
theorem xo9{kvs:List (Key×V)}(ok:HOk P w H h)(e:Rd H a (.dK kvs)):kvs.length<=sizeLine/\(a == sysModules)=false/\∃ vs,KV kvs vs/\h.DictOf (W4 P w) a vs :=
 show V1 P w H h a (.dK kvs) from zo9 ok e
theorem zp0{kvs:List (Key×V)}(ok:HOk P w H h)(e:H a=some (.dK kvs)):kvs.length<=sizeLine/\(a == sysModules)=false/\∃ vs,KV kvs vs/\h.DictOf (W4 P w) a vs:=xo9 ok (.inl e)
theorem xf0{ks:List Key}(ok:HOk P w H h)(e:H a=some (.tup (ks.map kV))):(tupleKind (W4 P w)).is h ks a:=by
 obtain⟨_,its,r,o,h1,h2,n,h3⟩:=(show V1 P w H h a (.tup (ks.map kV)) from ok a _ e)
 exact⟨o,its.toArray,n,h1,h2,h3,by simpa using xo8 r⟩
theorem xy7(ok:HOk P w H h)(e:Rd H a (.dT kvs)):kvs.length<=sizeLine/\(a == sysModules)=false /\
 ∃ xs,KT H kvs xs/\h.DictOfH (tupleKind (W4 P w)) a xs:=by
 obtain⟨z,y,xs,r,o,es,ep,h1,h2,h3,h4,h5⟩:=(show V1 P w H h a (.dT kvs) from zo9 ok e)
 refine⟨z,y,xs,r,o,es,ep,h1,h2,h3,h4,fun x hx=>?_,h5⟩
 have all:∀ {l:List (List Key×V)} {m:List (List Key×Addr×Value)},KT H l m->∀ x∈m,(tupleKind (W4 P w)).is h x.1 x.2.1:=by
  intro l m q
  induction q with
  | nil=>intro x hx;exact nomatch hx
  | @cons p q ps qs hq t ih =>
    intro x hx
    rcases List.mem_cons.mp hx with e|hx
    ·subst e
     exact xf0 ok (by rw[<-hq.1];exact hq.2.1)
    ·exact ih x hx
 exact all r x hx
theorem zz3(ok:HOk P w H h)(e:H a=some (.dT kvs)):kvs.length<=sizeLine/\(a == sysModules)=false /\
 ∃ xs,KT H kvs xs/\h.DictOfH (tupleKind (W4 P w)) a xs:=xy7 ok (.inl e)
def xl3(H:Hp)(a:Addr)(y:V)(r:Option V):Prop :=
 (∃ kvs k,Rd H a (.dK kvs)/\y=kV k/\r=wv0 kvs k)\/∃ kvs k b,Rd H a (.dT kvs)/\y=.ref b/\H b=some (.tup (k.map kV))/\r=wv0 kvs k
def zz4(H:Hp)(a:Addr)(y v:V)(H':Hp):Prop :=
 (∃ kvs k,H a=some (.dK kvs)/\y=kV k/\kvs.length<sizeLine/\H'=upd H a (.dK (wq1 kvs k v))) \/
 ∃ kvs k b,H a=some (.dT kvs)/\y=.ref b/\H b=some (.tup (k.map kV))/\kvs.length<sizeLine/\H'=upd H a (.dT (wq1 kvs k v))
theorem xl3.k{kvs:List (Key×V)}{k:Key}(e:H a=some (.dK kvs)):xl3 H a (kV k) (wv0 kvs k):=.inl ⟨kvs,k,.inl e,rfl,rfl⟩
section
variable{r:Value}{o:Option V}
theorem Inv.big(I:Inv X pins σ H s):sysModules<s.heap.objs.size:=by
 have h:mainGlobals<s.heap.objs.size:=(I.mod.glob.keeps I.bk).lt
 exact Nat.lt_trans (by decide) h
theorem yt0(hu:A.units+1<cLine)(I:Inv X pins σ H s)(g:xl3 H a y (some v))(ry:L4 y u)(h:∀ w' s',Inv X pins σ H s'->L4 v w'->Q w' s') :
 wpAny (model X.prog X.w) A (getItem (.ref a) u) Q E s:=by
 rcases g with⟨kvs,k,e,ey,l⟩|⟨kvs,k,b,e,ey,eb,l⟩
 ·subst ey
  obtain⟨z,hd,vs,rel,dd⟩:=xo9 I.hok e
  obtain⟨w',hw,rw'⟩:=wk7.some_of (v:=v) (o:=valueAt vs k) (by rw[l];exact rel.val k)
  exact wpAny_getItem_of (xo7 ry) dd.mapOf hw (h w' _ (I.tok _) rw')
 ·subst ey
  cases (show u=Value.ref b from ry)
  obtain⟨z,hd,xs,rel,dd⟩:=xy7 I.hok e
  obtain⟨w',hw,rw'⟩:=wk7.some_of (v:=v) (o:=(atKey xs k).map (·.2)) (by rw[l];exact rel.val k)
  obtain⟨p,hp,hp2⟩:=Option.map_eq_some_iff.mp hw
  refine wpAny_getItem_heap (tupleKind_room_in1 hu) (xf0 I.hok eb) dd hp ?_
  rw[hp2]
  exact h w' _ (I.tok _) rw'
theorem Ad0(hu:A.units+1<cLine)(I:Inv X pins σ H s)(g:xl3 H a y o)(ry:L4 y u)(h:∀ s',Inv X pins σ H s'->Q (.bool o.isSome) s') :
 wpAny (model X.prog X.w) A (compareOp .In u (.ref a)) Q E s:=by
 rcases g with⟨kvs,k,e,ey,l⟩|⟨kvs,k,b,e,ey,eb,l⟩
 ·subst ey
  obtain⟨z,hd,vs,rel,dd⟩:=xo9 I.hok e
  refine wpAny_in_of (xo7 ry) hd dd.mapOf ?_
  rw[<-(rel.val k).isSome_eq,<-l]
  exact h _ (I.tok _)
 ·subst ey
  cases (show u=Value.ref b from ry)
  obtain⟨z,hd,xs,rel,dd⟩:=xy7 I.hok e
  refine wpAny_in_heap (tupleKind_room_in1 hu) (xf0 I.hok eb) hd dd ?_
  have q:=(rel.val k).isSome_eq
  rw[Option.isSome_map] at q
  rw[<-q,<-l]
  exact h _ (I.tok _)
theorem zj0(hu:A.units+1<cLine)(I:Inv X pins σ H s)(g:xl3 H a y o)(ry:L4 y u)(h:∀ s',Inv X pins σ H s'->Q (.bool (!o.isSome)) s') :
 wpAny (model X.prog X.w) A (compareOp .NotIn u (.ref a)) Q E s:=by
 rcases g with⟨kvs,k,e,ey,l⟩|⟨kvs,k,b,e,ey,eb,l⟩
 ·subst ey
  obtain⟨z,hd,vs,rel,dd⟩:=xo9 I.hok e
  refine wpAny_notIn_of (xo7 ry) hd dd.mapOf ?_
  rw[<-(rel.val k).isSome_eq,<-l]
  exact h _ (I.tok _)
 ·subst ey
  cases (show u=Value.ref b from ry)
  obtain⟨z,hd,xs,rel,dd⟩:=xy7 I.hok e
  refine wpAny_notIn_heap (tupleKind_room_in1 hu) (xf0 I.hok eb) hd dd ?_
  have q:=(rel.val k).isSome_eq
  rw[Option.isSome_map] at q
  rw[<-q,<-l]
  exact h _ (I.tok _)
theorem xs1{ob:HO}(I:Inv X pins σ H s)(mu:Mut (H a))(hs:Heap.SameBut a s.heap h')(he:∃ q,h'.get? a=some q)(new:V1 X.prog X.w (upd H a ob) h' a ob)(ht:autoParam (0<t') zAt) :
 Inv X pins σ (upd H a ob) {s with heap:=h',toks:=t'} :=
 I.write (x:=a) (e:=a) mu (.inl rfl) (fun b q hb z=>(hs.2 b hb).trans z) he new
theorem yy8{kvs:List (Key×V)}{vs:List (Key×Value)}(z:kvs.length<=sizeLine)(hd:(a == sysModules)=false)(rel:KV kvs vs)(dd:h'.DictOf (W4 P w) a vs) :
 V1 P w H' h' a (.dK kvs):=⟨z,hd,vs,rel,dd⟩
theorem yt1{Q:Unit->Shared->Prop}(hu:A.units+1<cLine)(I:Inv X pins σ H s)(g:zz4 H a y v H')(ry:L4 y u)(rv:L4 v r)(h:∀ s',Inv X pins σ H' s'->Q () s') :
 wpAny (model X.prog X.w) A (setItem (.ref a) u r) Q E s:=by
 rcases g with⟨kvs,k,e,ey,l,eH⟩|⟨kvs,k,b,e,ey,eb,l,eH⟩
 ·subst ey eH
  obtain⟨z,hd,vs,rel,dd⟩:=zp0 I.hok e
  have hz:vs.length<=sizeLine:=by rw[<-rel.length];exact z
  have hl:(wq1 kvs k v).length<=sizeLine:=by have:=wf5 kvs k v;omega
  refine wpAny_setItem_pairs (hsz:=hz) (xo7 ry) dd fun h' dd' hs=>h _ ?_
  have he:∃ q,h'.get? a=some q:=let ⟨q,_,_,hq,_⟩:=dd';⟨q,hq⟩
  exact xs1 I (by rw[e];exact True.intro) hs he (yy8 hl hd (rel.put k rv) dd')
 ·subst ey eH
  cases (show u=Value.ref b from ry)
  obtain⟨z,hd,xs,rel,dd⟩:=zz3 I.hok e
  have hz:xs.length<=sizeLine:=by rw[<-Paired.length rel];exact z
  have hl:(wq1 kvs k v).length<=sizeLine:=by have:=wf5 kvs k v;omega
  refine wpAny_setItem_heap (hsz:=hz) (tupleKind_room_in1 hu) (xf0 I.hok eb) dd fun h' dd' hs=>h _ ?_
  obtain⟨q,es,ep,hq,h2,h3,h4,_,h5⟩:=dd'
  refine xs1 I (by rw[e];exact True.intro) hs ⟨q,hq⟩ ⟨hl,hd,_,(rel.put k eb rv).keeps fun c ys ec=>?_,q,es,ep,hq,h2,h3,h4,h5⟩
  rw[B7 (zx6 ec e (fun z=>nomatch z))]
  exact ec
end
section
variable{kvs:List (Key×V)}{k:Key}
theorem zz5(I:Inv X pins σ H s)(e:Rd H a (.dK kvs))(h:∀ t s',Inv X pins σ H s'->Q (.int kvs.length t) s'):wpAny (model X.prog X.w) A (call (.builtin "len") [.ref a]) Q E s:=by
 obtain⟨z,hd,vs,rel,dd⟩:=xo9 I.hok e
 refine call_len_dict hd dd (by rw[<-rel.length];rw[sizeLine_eq] at z;omega) ?_
 rw[<-rel.length]
 exact h _ _ (I.tok _)
end
def zz6(i:Expr):Prop:=∀ ov iv,subscripted i false ov iv=operate [ov,iv] (getItem ov iv)
theorem zj1{slice:Expr}{id:String}(hl:typeLookup (.type T) "__getitem__"=pure (some (.builtin id)))(hs:zz6 slice)(h:wpAny (model prog w) A (eval value env) (fun o s₁=>wpAny (model prog w) A (eval slice env) (fun i s₂=>s₂.TypeIs o T/\wpAny (model prog w) A (getItem o i) Q E s₂) E s₁) E s) :
 wpAny (model prog w) A (eval (.Subscript value slice pos) env) Q E s:=by
 refine Subscript_ (wpAny_mono h (fun o s₁ h₁=>wpAny_mono h₁ (fun i s₂ h₂=>?_) fun _ _ x=>x) fun _ _ x=>x)
 obtain⟨hT,h₂⟩:=h₂
 unfold subscriptTail
 refine wpAny_bind ?_
 rw[getitemInPython_of_ne hT.not_modules]
 refine wpAny_bind (wpAny_specialOf hT hl ?_)
 have fin:wpAny (model prog w) A (subscripted slice false o i) (fun r s₃=>wpAny (model prog w) A (letTemporaryGo value o r >>= fun _=>pure r) Q E s₃) E s₂:=by
  rw[hs o i]
  exact wpAny_operating (wpAny_mono h₂ (fun r s₃ h₃=>wpAny_bind (wpAny_letTemporaryGo (wpAny_pure h₃))) fun _ _ x=>x)
 first
  | exact wpAny_pure (wpAny_bind fin)
  | exact wpAny_bind (wpAny_pure (wpAny_bind fin))
  | exact wpAny_bind fin
theorem xy8{o:Option V}(I:Inv X pins σ H s)(g:xl3 H a y o):s.TypeIs (.ref a) "dict":=by
 rcases g with⟨kvs,k,e,_,_⟩|⟨kvs,k,b,e,_,_,_⟩
 ·obtain⟨_,_,vs,_,dd⟩:=xo9 I.hok e
  exact dd.typeIs
 ·obtain⟨_,_,xs,_,dd⟩:=xy7 I.hok e
  exact dd.typeIs
def yy9(td ty:TE):TE:=fun σ H Q=>td σ H fun x H1=>ty σ H1 fun y H2=>∃ a v,x=.ref a/\xl3 H2 a y (some v)/\Q v H2
variable{td ty:TE}
section
variable{i:Expr}
theorem zj2(hu:X.A.units+1<cLine)(ho:PE X o td)(hi:PE X i ty)(hs:zz6 i):PE X (.Subscript o i pos) (yy9 td ty):=by
 intro pins s σ H Q I h
 refine zj1 PySem.F.slot_dict_getitem.lookup hs (thn (ho pins s σ H _ I h) fun u s1 ⟨x,H1,I1,rx,q1⟩=>thn (hi pins s1 σ H1 _ I1 q1) fun iv s2 zq=>?_)
 obtain⟨y,H2,I2,ry,a,v,ex,g,q2⟩:=zq
 subst ex
 obtain rfl:u=Value.ref a:=rx
 exact⟨xy8 I2 g,yt0 hu I2 g ry fun w' s3 I3 rw'=>⟨v,H2,I3,rw',q2⟩⟩
end
theorem yz0(h:Heap)(hb:sysModules<h.objs.size):V1 P w H (h.push {cls:=.type "dict",data:=.dict #[]}) h.objs.size (.dK []) :=
 ⟨Nat.zero_le _,beq_eq_false_iff_ne.mpr (Ne.symm (Nat.ne_of_lt hb)),[],.nil,Heap.DictOf.new h⟩
def wv1:List (TE×TE)->St->Hp->(List (V×V)->Hp->Prop)->Prop
 | [],_,H,Q=>Q [] H
 | (tk,tv)::r,σ,H,Q=>tk σ H fun x H1=>tv σ H1 fun y H2=>wv1 r σ H2 fun ps H3=>Q ((x,y)::ps) H3
abbrev VV:List (V×V)->List (Value×Value)->Prop:=Paired fun p q=>L4 p.1 q.1/\L4 p.2 q.2
def PPs(X:Cx)(pos:Pos)(keys:List (Option Expr))(values:List Expr)(trs:List (TE×TE)):Prop :=
 ∀ (pins:List (Addr×Obj)) (s:Shared) (σ:St) (H:Hp) (Q:List (V×V)->Hp->Prop),Inv X pins σ H s->wv1 trs σ H Q ->
  wpAny (model X.prog X.w) X.A (evalPairs (pairTrees keys values X.env pos)) (fun vs s'=>∃ ps H',Inv X pins σ H' s'/\VV ps vs/\Q ps H') X.xe s
theorem zj3:PPs X pos [] [] []:=fun pins s σ H Q I h=>pairTrees_nil_walk ⟨[],H,I,.nil,h⟩
variable{trs:List (TE×TE)}
theorem xy9{k v:Expr}{ks:List (Option Expr)}{vs:List Expr}{tk:TE}(hk:PE X k tk)(hv:PE X v tv)(hr:PPs X pos ks vs trs) :
 PPs X pos (some k::ks) (v::vs) ((tk,tv)::trs):=fun pins s σ H Q I h =>
 pairTrees_cons_walk (thn (hk pins s σ H _ I h) fun u s1 ⟨x,H1,I1,rx,q1⟩=>thn (hv pins s1 σ H1 _ I1 q1) fun w2 s2 ⟨y,H2,I2,ry,q2⟩ =>
  thn (hr pins s2 σ H2 _ I2 q2) fun ws s3 ⟨ps,H3,I3,rel,q3⟩=>⟨(x,y)::ps,H3,I3,.cons ⟨rx,ry⟩ rel,q3⟩)
def qw6(kvs more:List (Key×V)):List (Key×V):=more.foldl (fun acc kv=>wq1 acc kv.1 kv.2) kvs
theorem KV.merge:∀ {more:List (Key×V)} {rs:List (Key×Value)} {kvs:List (Key×V)} {vs:List (Key×Value)},KV more rs->KV kvs vs->KV (qw6 kvs more) (merged vs rs):=by
 intro more rs kvs vs r
 unfold KV at r
 induction r generalizing kvs vs with
 | nil=>intro q;exact q
 | @cons p q ps qs h t ih =>
   intro r0
   have e:KV (wq1 kvs p.1 p.2) (stored vs q.1 q.2):=by
    have:=r0.put p.1 h.2
    rw[<-h.1];exact this
   exact ih e
theorem wl5:∀ (more kvs:List (Key×V)),(qw6 kvs more).length<=kvs.length+more.length
 | [],kvs=>by show kvs.length<=kvs.length+0;omega
 | p::r,kvs=>by
   have h1:=wl5 r (wq1 kvs p.1 p.2)
   have h2:=wf5 kvs p.1 p.2
   show(qw6 (wq1 kvs p.1 p.2) r).length<=_
   rw[List.length_cons];omega
theorem xf1{P:Program}{w:World}:∀ {kvs:List (Key×V)} {ws:List (Value×Value)},VV (kvs.map fun kv=>(kV kv.1,kv.2)) ws->∃ rs,Carries (W4 P w) ws rs/\KV kvs rs
 | [],_,r=>by rw[List.map_nil] at r;cases r;exact⟨[],True.intro,.nil⟩
 | p :: kvs,_,r=>by
   rw[List.map_cons] at r
   cases r with
   | @cons a b as bs h t =>
     obtain⟨rs,c,q⟩:=xf1 (P:=P) (w:=w) t
     obtain⟨b1,b2⟩:=b
     exact⟨(p.1,b2)::rs,⟨xo7 h.1,rfl,c⟩,.cons ⟨rfl,h.2⟩ q⟩
def yz1(trs:List (TE×TE)):TE:=fun σ H Q=>∀ p,H p=none->wv1 trs σ (upd H p (.dK [])) fun ps H2=>H2 p=some (.dK [])/\∃ kvs:List (Key×V),ps=kvs.map (fun kv=>(kV kv.1,kv.2))/\kvs.length<=15/\Q (.ref p) (upd H2 p (.dK (qw6 [] kvs)))
theorem zj4{keys:List (Option Expr)}{values:List Expr}(h:PPs X pos keys values trs)(hall:keys.all (·.isSome)=true)(hl:keys.length=values.length)(h0:keys≠[])(h15:keys.length<=15):PE X (.Dict keys values pos) (yz1 trs):=by
 intro pins s σ H Q I q
 have hn:=I.hok.fresh (Nat.le_refl s.heap.objs.size)
 have I1:=I.laid (a:=s.heap.objs.size) (o:=.dK []) (h':=s.heap.push {cls:=.type "dict",data:=.dict #[]}) (t':=s.toks) (fun _ _ q=>Heap.get?_push_of_some _ q) (Nat.le_refl _) (yz0 s.heap I.big)
 refine wpAny_Dict_walk (knd:=W4 X.prog X.w) hall hl h0 h15 (thn (h pins _ σ _ _ I1 (q _ hn)) fun ws s2 zq=>?_)
 obtain⟨ps,H2,I2,rel,e,kvs,ep,lk,q2⟩:=zq
 subst ep
 obtain⟨rs,c,rk⟩:=xf1 (P:=X.prog) (w:=X.w) rel
 obtain⟨z,hd,vs0,r0,dd⟩:=zp0 I2.hok e
 cases r0
 refine⟨rs,c,dd,fun h' dd' hs=>⟨.ref s.heap.objs.size,_,?_,rfl,q2⟩⟩
 have hz:(qw6 [] kvs).length<=sizeLine:=by
  have h1:=wl5 kvs []
  rw[List.length_nil] at h1
  rw[sizeLine_eq];omega
 have he:∃ q,h'.get? s.heap.objs.size=some q:=let ⟨q,_,_,hq,_⟩:=dd';⟨q,hq⟩
 exact xs1 I2 (by rw[e];exact True.intro) hs he (yy8 hz hd (rk.merge .nil) dd') (Nat.lt_of_lt_of_le I2.tk (Nat.le_add_right _ _))
namespace Att
open PySem PySem.W PySem.Calls PyProof.Rows
theorem xb5{P:Params}{h:Heap}:∀ (ns:List Int) (vs:List Value),WellAll P h vs (ns.map WData.int)->IntsAre vs ns:=by
 intro ns
 induction ns with
 | nil =>
   intro vs w
   rw[List.map_nil] at w
   cases w
   exact .nil
 | cons n ns ih =>
   intro vs w
   rw[List.map_cons] at w
   cases w with
   | cons a b =>
     cases a
     exact .cons _ _ (ih _ b)
theorem script_of{l:OpenLaw}{n:Nat}(hn:l.most=some n){P:Params}{h:Heap}{args:List WData}{vals:List Value}
 (hpre:l.row.toRowW.claim.pre args=true) (hwl:WellAll P h vals args) :
 ∃ a vs ns,vals=[Value.ref a]/\args=[WData.list (ns.map WData.int)]/\h.get? a=some {cls:=.type "list",data:=.seq vs.toArray}/\IntsAre vs ns/\ns.length<=n:=by
 have hsh:WShape.hasAll [] args [.list .int]=true:=(pre_splitW hpre).1
 have hc:l.pre.holds [] {args:=args}=true:=(pre_splitW hpre).2
 obtain⟨d,r,rfl,h1,h2⟩:=hasAllW_cons hsh
 obtain rfl:=hasAllW_nil h2
 obtain⟨xs,rfl,h3⟩:=hasW_list h1
 obtain⟨ns,rfl⟩:=items_int h3
 have hlen:ns.length<=n:=by
  unfold OpenLaw.pre at hc
  have h4:(WTm.not (.lt (.lit (.int (n:Int))) (.len (.arg 0)))).holds [] {args:=[.list (ns.map .int)]}=true:=by
   have h4:=(holds_andW hc).1
   rw[hn] at h4
   exact h4
  have h5:=condW_of h4 (w_not (w_lt w_lit (w_len_list (w_arg rfl))))
  rw[List.length_map] at h5
  refine Nat.le_of_not_lt fun q=>?_
  have q':(n:Int)<((ns.length:Nat):Int):=by omega
  first
   | (rw[decide_eq_true q'] at h5;exact absurd h5 (by decide))
   | (simp at h5;omega)
 cases hwl with
 | cons w1 w2 =>
   cases w2
   cases w1 with
   | list ho hall=>exact⟨_,_,ns,rfl,rfl,ho,xb5 ns _ hall,hlen⟩
theorem post_true(l:OpenLaw)(args:List WData):l.row.toRowW.claim.post args (.bool true) args=true :=
 postW_of (r:=l.row.toRowW) (X:=(true == true))
  (show WShape.has [] (.bool true) .bool=true by first|rfl|decide|simp[WShape.has,WShape.arms,WShape.armsAll])
  (show(WTm.eq .res (.lit (.bool true))).value [] {args:=args,res:=some (.bool true),after:=args}=some (.bool (true == true)) from w_eq_bool (w_res rfl) w_lit) rfl
end Att
theorem xp0:∀ {vs:List Value} {ns:List Int},IntsAre vs ns->L1 (ns.map V.int) vs
 | _,_,.nil=>.nil
 | _,_,.cons n t h=>.cons ⟨t,rfl⟩ (xp0 h)
def zs6(H:Hp):Prop:=∀ b,H b=none\/∃ o xs,H b=some (.frz o (.lst xs))
theorem yz2 {mb:Str->Option Value} {k:Nat} {fa:Addr} {s₁:Shared} {vs:List Value} {ns:List Int} (KX:K.In s₁.heap) (hns:s₁.heap.Ns mainGlobals mg) (hb:s₁.heap.Ns builtinsNs mb) (hbb:∀ x:Str,x ≠ "__name__"->mb x=bootBuiltins x) (hlim:s₁.heap.NoLimit) (hg:s₁.gens=#[]) (htk:0<s₁.toks) (ha:s₁.heap.get? a=some {cls:=.type "list",data:=.seq vs.toArray}) (hi:IntsAre vs ns) (hl:ns.length<=sizeLine) (hr:qk8 k callerA) (F:∀ base:Heap,K.In base->base.Ns mainGlobals mg->L5 P w K mg base CX k fa fd [x] sp) (hbind:∀ (s:Shared) (u:Value),BindsTo s fd ⟨[u],[]⟩ [(x,u)]) (hsp:∀ H:Hp,zs6 H->SqL K H a (ns.map V.int)->sp [.ref a] H (fun v _=>v=.bl true) fun _ _ _=>False) (hCX:∀ H e s',CX [] H s₁ (fun _ _ _=>False) e s'->False) :
 codeAny (model P w) callerA (.call (.ref fa) ⟨[.ref a],[]⟩) (fun r s'=>r=.ok (.ret (.bool true))/\OldK s₁.heap s'.heap/\s'.os=s₁.os/\AllBare s'.gens) s₁:=by
 have rv:=xp0 hi
 have lenV:=hi.length
 have core:∀ H:Hp,zs6 H->SqL K H a (ns.map V.int)->HOk P w H s₁.heap->(∀ b,H b≠none->b=a)->(H a≠none->K.lookup a=none) ->
  codeAny (model P w) callerA (.call (.ref fa) ⟨[.ref a],[]⟩) (fun r s'=>r=.ok (.ret (.bool true))/\OldK s₁.heap s'.heap/\s'.os=s₁.os/\AllBare s'.gens) s₁:=by
  intro H hO hS hok hA hK
  have base_of:∀ {b:Addr} {o:Obj},s₁.heap.get? b=some o->H b=none->(xq9 s₁.heap H).get? b=some o:=fun e n=>yw5 e n
  have noA:∀ {b:Addr} {o:Obj} {es:Array DictEntry} {ep:Nat},s₁.heap.get? b=some o->o.data=.dict es ep->H b=none:=fun{b o es ep} e d=>by
   cases q:H b with
   | none=>rfl
   | some u =>
     have e':b=a:=hA b (by rw[q];simp)
     subst e'
     rw[ha] at e;cases e
     have d':Data.seq vs.toArray _=Data.dict es ep:=d
     cases d'
  have nsK:∀ {b:Addr} {m:Str->Option Value},s₁.heap.Ns b m->(xq9 s₁.heap H).Ns b m:=fun{b m} ⟨o,es,ep,e,d,r⟩=>⟨o,es,ep,base_of e (noA e d),d,r⟩
  have hKb:K.In (xq9 s₁.heap H):=fun b o e=>base_of (KX b o e) (by
   cases q:H b with
   | none=>rfl
   | some u =>
     have e':b=a:=hA b (by rw[q];simp)
     subst e'
     rw[hK (by rw[q];simp)] at e;cases e)
  have hM:Mod K mg (xq9 s₁.heap H):=⟨hKb,nsK hns,⟨mb,nsK hb,hbb⟩,let ⟨mc,h1,h2⟩:=hlim;⟨mc,nsK h1,h2⟩⟩
  have e0:yg6 P w K mg (xq9 s₁.heap H) callerA [] s₁ H:=⟨rfl,hM,fun b o e=>zh6 e,Nat.le_of_eq (yr6 _ _),trivial,fun b hb=>absurd (show b∈([]:List Addr) from hb) (by simp),hok,.of_eq hg,htk⟩
  refine codeAny_mono ((F _ hKb (nsK hns)).run callerA [] s₁ H ⟨[.ref a],[]⟩ [.ref a] [.ref a] _ _ hr e0 (hbind s₁ (.ref a)) (.cons rfl .nil) (hsp H hO hS)) fun r s' h=>?_
  cases r with
  | error e=>exact(hCX H e s' h).elim
  | ok fl =>
    cases fl with
    | next=>exact False.elim h
    | brk=>exact False.elim h
    | cont=>exact False.elim h
    | ret u =>
      obtain⟨v,H',_,os,bare,un,hok',r',q⟩:=h
      have q':v=.bl true:=q
      subst q'
      obtain rfl:u=Value.bool true:=r'
      refine⟨rfl,OldK.of_keep fun b o e=>?_,os,bare⟩
      cases q:H b with
      | none=>exact un.keep b o e q (by intro z;exact absurd (show b∈([]:List Addr) from z) (by simp)) (by simp)
      | some u =>
        rcases hO b with z|⟨ob,xs,z⟩
        ·rw[q] at z;cases z
        ·have z2:=un.frzs b ob _ z
         obtain⟨e1,_⟩:=hok b _ z
         obtain⟨e2,_⟩:=hok' b _ z2
         rw[e] at e1;cases e1
         exact e2
 cases hk:K.lookup a with
 | some o =>
   have e:=KX a o hk
   rw[ha] at e
   cases e
   refine core (fun _=>none) (fun _=>.inl rfl) (.inr ⟨_,vs.toArray,_,hk,rfl,rfl,rfl,by rw[List.size_toArray,lenV];exact hl,by simpa using rv⟩) (fun b u z=>by have z':(none:Option HO)=some u:=z;cases z') (fun b z=>absurd rfl z) fun z=>absurd rfl z
 | none =>
   refine core (fun b=>if b=a then some (.frz {cls:=.type "list",data:=.seq vs.toArray} (.lst (ns.map V.int))) else none) (fun b=>?_) (.inl (.inr ⟨{cls:=.type "list",data:=.seq vs.toArray},if_pos rfl⟩)) (fun b u z=>?_) (fun b z=>?_) fun _=>hk
   ·by_cases hb:b=a
    ·exact .inr ⟨_,_,if_pos hb⟩
    ·exact .inl (if_neg hb)
   ·by_cases hb:b=a
    ·have z':=(if_pos hb).symm.trans z
     cases z'
     subst hb
     exact⟨ha,by rw[List.length_map];exact hl,vs,_,rv,ha⟩
    ·have z':=(if_neg hb).symm.trans z
     cases z'
   ·by_cases hb:b=a
    ·exact hb
    ·exact absurd (if_neg hb) z
theorem xf2:∀ ns:List Int,PySem.W.ofPys (ns.map PyData.int)=ns.map PySem.W.WData.int
 | []=>by simp[PySem.W.ofPys]
 | n::ns=>by simp only[List.map_cons,PySem.W.ofPys,PySem.W.ofPy];rw[xf2 ns]
variable{as:List Addr}{q:Program}
theorem zj5{l:PySem.W.OpenLaw}{k:Nat}{loose:List Str}{XP:(Str->Option Value)->Heap->Prop}{z t:Nat}{d:DefRec}{K:Params->Fg}{CX:World->CXT}{sp:World->Sp}(hn:l.most=some n)(hn2:n<=sizeLine)(hdf:d.params.defaults=[])(hr:qk8 k callerA)(hk:∀ P,as=(K P).map (·.1))(h0:0<t) (F:∀ (w:World) (mg:Str->Option Value) (fa:Addr) (h:Heap),(K w.params).In h->h.Ns mainGlobals mg->mg d.name=some (.ref fa) ->
  ∃ fd:FuncData,(∀ (s:Shared) (u:Value),BindsTo s fd ⟨[u],[]⟩ [(x,u)]) /\
   ∀ base:Heap,(K w.params).In base->base.Ns mainGlobals mg->L5 l.prog w (K w.params) mg base (CX w) k fa fd [x] (sp w)) (hsp:∀ (w:World) (H:Hp) (a:Addr) (ns:List Int),ns.length<=n->zs6 H->SqL (K w.params) H a (ns.map V.int)->sp w [.ref a] H (fun v _=>v=.bl true) fun _ _ _=>False) (hCX:∀ (w:World) (H:Hp) (s:Shared) (e:Value) (s':Shared),CX w [] H s (fun _ _ _=>False) e s'->False) :
 PySem.W.WalkX q loose XP (PySem.W.X.obsZ as) (PySem.W.X.valZ K z t) l.row.toRowW d [] (fun f vs=>PySem.call f vs):=by
 intro w s₀ s₁ mg mb G y fa o pm cd doc dV kV ho hd hcd hD hmg hg args vals aa L hpre hlay hrd hwl hlo
 obtain rfl:dV=.none:=PySem.W.Dflts.none hD hdf
 obtain rfl:kV=.none:=PySem.W.Dflts.noKw hD
 obtain⟨a,vs,ns,rfl,rfl,hobj,hints,hlen⟩:=Att.script_of hn hpre hwl
 obtain⟨_,KI,_,htk⟩:=PySem.W.X.z_facts hk y
 have KX:=PySem.W.InK.keeps w _ _ KI L.keeps
 have tk:0<s₁.toks:=Nat.lt_of_lt_of_le h0 (PySem.W.X.script_toks (ns:=ns) (a:=a) (by rw[PySem.W.ofPy,xf2];exact L) htk)
 obtain⟨fd,hb,hF⟩:=F w mg fa _ KX G.T.g hmg
 refine PySem.W.enter_call (codeAny_mono (yz2 KX G.T.g G.T.b G.T.builtins G.T.nolimit hg tk hobj hints (Nat.le_trans hlen hn2) hr hF hb (fun H hO hS=>hsp w H a ns hlen hO hS) fun H e s'=>hCX w H s₁ e s') fun r s' hq=>?_)
 obtain⟨rfl,h2,h3,h4⟩:=hq
 exact⟨.inl ⟨.bool true,.bool true,[],rfl,fun _=>rfl,.bool true,Att.post_true l _,fun _=>⟨List.Pairwise.nil,fun _ hm=>(nomatch hm)⟩⟩,h2,h3,h4⟩
def wq2(s:Stmt):Arguments:=match s with
 | .FunctionDef _ a _ _ _ _ _ _ _ _=>a
 | _=>{posonlyargs:=[],args:=[],vararg:=none,kwonlyargs:=[],kw_defaults:=[],kwarg:=none,defaults:=[]}
def wi8(s:Stmt):List Stmt:=match s with
 | .FunctionDef _ _ b _ _ _ _ _ _ _=>b
 | _=>[]
def B1(s:Stmt):Scope:=match s with
 | .FunctionDef _ _ _ _ _ _ sc _ _ _=>sc
 | _=>{kind:=.function,names:=[],isGenerator:=false,isCoroutine:=false}
abbrev CX0:CXT:=fun _ _ _ _ _ _=>False
abbrev E0:XK:=fun _ _ _=>False
theorem B5:wf3 CX0 X E0:=fun _ _ _ _ _ _ _ h=>h.elim
structure Fun(K:Fg)(x qual:Str)(st:Stmt)(f:Addr)(fd:FuncData):Prop where
 ex:∃ (oc:Value) (od:Option Addr) (kV doc pm:Value) (an:Option Addr) (cdv ct:Value) (osl:Array (Option Value)),
  fd=PySem.W.fnOf x qual (wq2 st) (wi8 st) (B1 st) .none kV doc pm an cdv ct/\K.lookup f=some ⟨oc,od,.func fd,osl⟩/\PySem.W.codeIn K cdv qual=true
 kp:PySem.W.keepIn K (.ref f)=true
theorem Fun.ok{f:Addr}{k:Nat}(F:Fun K x qual st f fd)(S:B8 N ps (B1 st))(len:∀ vs H Q E,sp vs H Q E->vs.length=ps.length) (hbody:∀ (cdv:Value) (A:Around) (outer:List Env) (s:Shared) (H:Hp) (vs:List V) (Q:VK) (E:XK),qk8 k (A.deeper (envOfC qual (B1 st) s.heap.objs.size f cdv))->sp vs H Q E ->
  ∃ t,PSs (ys7 CX0 P w K mg base N qual (B1 st) f cdv A outer s H E).nox (wi8 st) t/\t {nx:=fun _ H'=>Q .non H',rt:=Q} (E8 N vs) H):L5 P w K mg base CX0 (k+1) f fd ps sp:=by
 obtain⟨oc,od,kV,doc,pm,an,cdv,ct,osl,rfl,lk,hcd⟩:=F.ex
 refine zy4 lk hcd S len fun A outer s H vs Q E hr hsp=>?_
 obtain⟨t,h,q⟩:=hbody cdv A outer s H vs Q E hr hsp
 exact⟨t,h.nox,q⟩
theorem Fun.binds{f:Addr}(F:Fun K x qual st f fd)(h:∀ (kV doc pm:Value) (an:Option Addr) (cdv ct:Value) (us:List Value),us.length=ps.length->bindArgs (PySem.W.fnOf x qual (wq2 st) (wi8 st) (B1 st) .none kV doc pm an cdv ct) ⟨us,[]⟩=pure (ps.zip us)):U4 K fd ps []:=by
 obtain⟨oc,od,kV,doc,pm,an,cdv,ct,osl,rfl,lk,hcd⟩:=F.ex
 exact .all (h kV doc pm an cdv ct)
theorem zs7{f:Addr}{kV:Value}(l:K.lookup f=some ⟨oc,od,.func (PySem.W.fnOf x qual (wq2 st) (wi8 st) (B1 st) .none kV doc pm an cdv ct),osl⟩)(c:PySem.W.codeIn K cdv qual=true)(k:PySem.W.keepIn K (.ref f)=true):Fun K x qual st f (PySem.W.fnOf x qual (wq2 st) (wi8 st) (B1 st) .none kV doc pm an cdv ct):=⟨⟨oc,od,kV,doc,pm,an,cdv,ct,osl,rfl,l,c⟩,k⟩
theorem E3{k:Nat}(hr:qk8 k A):A.units+1<cLine:=Nat.lt_of_le_of_lt (Nat.add_le_add_left (by decide:1<=64) _) hr.units
theorem pv(i:Nat)(hN:autoParam (X.N[i]?=some x) zAr)(hv:Vis X.env.scope x:=by first|exact Or.inl rfl|exact Or.inr (Or.inl rfl)|exact Or.inr (Or.inr rfl))(hd:autoParam ((x == ("__debug__":Str))=false) zAd)(hcd:autoParam ((x == ("__classdict__":Str))=false) zAd):PE X (.Name x pos) (A3 i):=zr2 hN hv hd hcd
variable{B:Prop}
theorem Z2{A:Prop}(h:B):if false=true then A else B:=by
 rw[if_neg Bool.false_ne_true]
 exact h
theorem qt4{A:Prop}(h:A):if true=true then A else B:=by
 rw[if_pos rfl]
 exact h
def A7(H H':Hp):Prop:=∀ b o,H b=some o->H' b=some o
theorem A7.refl(H:Hp):A7 H H:=fun _ _ h=>h
theorem A7.free(e:A7 H H')(h:H' l=Option.none):H l=Option.none:=by
 cases q:H l with
 | none=>rfl
 | some o =>
   rw[e l o q] at h
   cases h
theorem A7.seq(e:A7 H H')(h:SqL K H a xs):SqL K H' a xs:=by
 rcases h with(h|⟨o,h⟩)|h
 ·exact .inl (.inl (e _ _ h))
 ·exact .inl (.inr ⟨o,e _ _ h⟩)
 ·exact .inr h
theorem yt2:qm5 X (.builtin "len") (fun xs H Q=>∃ a kvs,xs=[V.ref a]/\H a=some (.dK kvs)/\Q (.int kvs.length) H):=by
 intro pins s σ H xs us Q I r h
 obtain⟨a,kvs,rfl,ha,q⟩:=h
 obtain⟨u,rfl,ru⟩:=wd3 r
 cases ru
 exact zz5 I (.inl ha) fun t s' I'=>⟨.int kvs.length,H,I',⟨t,rfl⟩,q⟩
theorem noE{t:Sem α}{Q:α->Shared->Prop}(h:wpAny M A t Q (fun _ _=>False) s):wpAny M A t Q E s :=
 wpAny_mono h (fun _ _ q=>q) fun _ _ z=>False.elim z
theorem wn5{env:Env}:∀ (names:List (Str×NameKind)) (acc:List (Str×Addr)),(∀ y∈names,y.2=.free->∃ c,env.cells.lookup y.1=some c)->(∀ x c,acc.lookup x=some c->env.cells.lookup x=some c) ->
 ∃ cl,(forIn names acc fun(x:Str×NameKind) (r:List (Str×Addr)) =>
  (if(x.2 == .free)=true then(do let a<-cellOf env x.1;pure (ForInStep.yield ((x.1,a)::r))) else pure (ForInStep.yield r):Sem (ForInStep (List (Str×Addr)))))=(pure cl:Sem (List (Str×Addr))) /\
  (∀ x c,cl.lookup x=some c->env.cells.lookup x=some c)/\(∀ x,(∃ c,acc.lookup x=some c)->∃ c,cl.lookup x=some c)/\∀ y∈names,y.2=.free->∃ c,cl.lookup y.1=some c
 | [],acc,_,h2=>⟨acc,by rw[List.forIn_nil],h2,fun _ h=>h,fun _ h=>by cases h⟩
 | (n,k)::r,acc,h1,h2=>by
   by_cases hk:k=.free
   ·subst hk
    obtain⟨c,hc⟩:=h1 (n,.free) List.mem_cons_self rfl
    obtain⟨cl,e,q1,q2,q3⟩:=wn5 r ((n,c)::acc) (fun y hy=>h1 y (List.mem_cons_of_mem _ hy)) (fun x d hd=>by
     rw[List.lookup_cons] at hd
     cases hx:x == n with
     | true=>rw[hx] at hd;cases hd;rw[beq_iff_eq.mp hx];exact hc
     | false=>rw[hx] at hd;exact h2 x d hd)
    refine⟨cl,?_,q1,fun x hx=>q2 x ?_,fun y hy hf=>?_⟩
    ·rw[List.forIn_cons]
     have e0:cellOf env n=pure c:=by unfold cellOf;rw[hc]
     simp only[beq_self_eq_true,if_true,e0]
     exact e
    ·rw[List.lookup_cons]
     cases x == n with
     | true=>exact⟨c,rfl⟩
     | false=>exact hx
    ·rcases List.mem_cons.mp hy with rfl|hy
     ·exact q2 n ⟨c,by rw[List.lookup_cons];simp⟩
     ·exact q3 y hy hf
   ·obtain⟨cl,e,q1,q2,q3⟩:=wn5 r acc (fun y hy=>h1 y (List.mem_cons_of_mem _ hy)) h2
    refine⟨cl,?_,q1,q2,fun y hy hf=>?_⟩
    ·rw[List.forIn_cons]
     have hb:(k == NameKind.free)=false:=by simpa using hk
     simp only[hb,Bool.false_eq_true,if_false]
     exact e
    ·rcases List.mem_cons.mp hy with rfl|hy
     ·exact absurd hf hk
     ·exact q3 y hy hf
theorem wl6(h:∀ y∈scope.names,y.2=.free->∃ c,env.cells.lookup y.1=some c) :
 ∃ cl,closureFor scope env=pure cl/\(∀ x c,cl.lookup x=some c->env.cells.lookup x=some c)/\∀ y∈scope.names,y.2=.free->∃ c,cl.lookup y.1=some c:=by
 obtain⟨cl,e,q1,_,q3⟩:=wn5 (env:=env) scope.names [] h (fun x c hc=>by simp at hc)
 refine⟨cl,?_,q1,q3⟩
 unfold closureFor
 simp only[]
 rw[show(forIn scope.names ([]:List (Str×Addr)) fun(x:Str×NameKind) (r:List (Str×Addr)) =>
  (match x with|(name,kind)=>if(kind == .free)=true then(do let a<-cellOf env name;pure (ForInStep.yield ((name,a)::r))) else pure (ForInStep.yield r):Sem (ForInStep (List (Str×Addr)))))=(pure cl:Sem (List (Str×Addr))) from e]
 rfl
theorem qo4{env:Env}:∀ {names:List (Str×NameKind)} {x:Str},names.lookup x=some .free ->
 (names.map fun(n,k)=>if(k == NameKind.free && env.scope.kind == .function && env.kindOf n == some .cell) then(n,NameKind.cell) else(n,k)).lookup x=some .cell \/
 (names.map fun(n,k)=>if(k == NameKind.free && env.scope.kind == .function && env.kindOf n == some .cell) then(n,NameKind.cell) else(n,k)).lookup x=some .free
 | [],_,h=>by simp at h
 | (n,k)::r,x,h=>by
   have ih:=@qo4 env r x
   show List.lookup x ((if(k == NameKind.free && env.scope.kind == .function && env.kindOf n == some .cell)=true then(n,NameKind.cell) else(n,k))::_)=_\/List.lookup x ((if(k == NameKind.free && env.scope.kind == .function && env.kindOf n == some .cell)=true then(n,NameKind.cell) else(n,k))::_)=_
   cases hx:x == n with
   | true =>
     simp only[List.lookup_cons,hx] at h
     cases h
     by_cases hc:(NameKind.free == NameKind.free && env.scope.kind == .function && env.kindOf n == some .cell)=true
     ·rw[if_pos hc];exact .inl (by simp only[List.lookup_cons,hx])
     ·rw[if_neg hc];exact .inr (by simp only[List.lookup_cons,hx])
   | false =>
     simp only[List.lookup_cons,hx] at h
     by_cases hc:(k == NameKind.free && env.scope.kind == .function && env.kindOf n == some .cell)=true
     ·rw[if_pos hc];simp only[List.lookup_cons,hx];exact ih h
     ·rw[if_neg hc];simp only[List.lookup_cons,hx];exact ih h
theorem qd2{env:Env}:∀ {names:List (Str×NameKind)} {x:Str} {k:NameKind},
 (names.map fun(n,k)=>if(k == NameKind.free && env.scope.kind == .function && env.kindOf n == some .cell) then(n,NameKind.cell) else(n,k)).lookup x=some k ->
 names.lookup x=some k\/(k=.cell/\names.lookup x=some .free)
 | [],_,_,h=>by simp at h
 | (n, j)::r,x,k,h=>by
   have ih:=@qd2 env r x k
   have h:List.lookup x ((if(j == NameKind.free && env.scope.kind == .function && env.kindOf n == some .cell)=true then(n,NameKind.cell) else(n,j))::_)=some k:=h
   by_cases hc:(j == NameKind.free && env.scope.kind == .function && env.kindOf n == some .cell)=true
   ·rw [if_pos hc] at h
    cases hx:x == n with
    | true =>
      simp only[List.lookup_cons,hx] at h ⊢
      cases h
      have:j=.free:=by
       cases j <;> simp at hc ⊢
      exact .inr ⟨rfl,by rw[this]⟩
    | false=>simp only[List.lookup_cons,hx] at h ⊢;exact ih h
   ·rw[if_neg hc] at h
    cases hx:x == n with
    | true=>simp only[List.lookup_cons,hx] at h ⊢;exact .inl h
    | false=>simp only[List.lookup_cons,hx] at h ⊢;exact ih h
variable{elt:Expr}{ifs:List Expr}
theorem wf6{R:Result->Shared->Prop}{target:Expr}{it acc:Value}(I:Nat->Shared->Prop) (turn:∀ n s,I n s->wpAny (model prog w) A (pyNext it) (fun r s₁=>match r with
  | none=>R (.ok .next) s₁
  | some v=>wpAny (model prog w) A (letOwnedTupleGo target it v) (fun _ s₁'=>wpAny (model prog w) A (assign target env v) (fun _ s₂ =>
   wpAny (model prog w) A (forIn ifs true fun c r=>if r=true then do let ok<-isTrue c env (eval c env);pure (ForInStep.yield ok) else pure (ForInStep.yield r)) (fun ok s₃ =>
    if ok=true then wpAny (model prog w) A (eval elt env) (fun x s₄ =>
     wpAny (model prog w) A (call (.builtin "list.append") [acc,x]) (fun _ s₅=>∃ m,m<n/\I m s₅) (notedBy (model prog w) A env fun e s'=>R (.error e) s') s₄) (notedBy (model prog w) A env fun e s'=>R (.error e) s') s₃
    else ∃ m,m<n/\I m s₃) (notedBy (model prog w) A env fun e s'=>R (.error e) s') s₂) (notedBy (model prog w) A env fun e s'=>R (.error e) s') s₁') (notedBy (model prog w) A env fun e s'=>R (.error e) s') s₁)
  (notedBy (model prog w) A env fun e s'=>R (.error e) s') s) (n:Nat) (h:I n s) :
 codeAny (model prog w) A (.compLoop (.ListComp elt [⟨target,iter,ifs,0⟩] scope pos) 0 it acc env) R s:=by
 refine codeAny_loop rfl I (fun n s hI=>?_) n h
 show wpAny _ A ((compTurn (.ListComp elt [⟨target,iter,ifs,0⟩] scope pos) 0 it acc env).onRaise (fun x=>do noteFrame x env;theTreesLotGoes x)) _ _ s
 refine wpAny_noted ?_
 rw[compTurn_list]
 refine wpAny_bind (wpAny_standAt (wpAny_bind (wpAny_mono (turn n s hI) (fun r s₁ h₁=>?_) fun _ _ h'=>h')))
 cases r with
 | none=>exact wpAny_pure h₁
 | some v =>
   refine wpAny_bind (wpAny_mono h₁ (fun _ s₁' h₁'=>?_) fun _ _ h'=>h')
   refine wpAny_bind (wpAny_mono h₁' (fun _ s₂ h₂=>wpAny_bind (wpAny_mono h₂ (fun ok s₃ h₃=>?_) fun _ _ h'=>h')) fun _ _ h'=>h')
   cases ok with
   | false=>exact wpAny_pure ⟨rfl,h₃⟩
   | true =>
     exact wpAny_bind (wpAny_bind (wpAny_mono h₃ (fun x s₄ h₄=>wpAny_bind (wpAny_mono h₄ (fun _ s₅ h₅=>wpAny_pure (wpAny_pure ⟨rfl,h₅⟩)) fun _ _ h'=>h')) fun _ _ h'=>h'))
def blk(X:Cx)(N:List Str)(scope:Scope)(cl:List (Str×Addr))(C:Addr)(s₂:Shared)(H₂:Hp)(fp:List Addr)(pn:List (Addr×Obj)):Cx :=
 {X with N:=N,s₀:=s₂,H₀:=H₂,env:=compEnvC scope cl C X.env,outer:=X.stack,stack:=X.stack,ex:=fp,fn:=fun _=>false,pn:=pn,xe:=fun _ _=>False}
def wf7(fr:List (Option Nat))(σ:St):St:=fr.map fun o=>match o with|some i=>(σ[i]?).join|none=>none
variable{fr:List (Option Nat)}
theorem xz0{j:Nat}(h:(wf7 fr σ)[j]?=some (some v)):∃ i,fr[j]?=some (some i)/\σ[i]?=some (some v):=by
 unfold wf7 at h
 rw[List.getElem?_map] at h
 cases e:fr[j]? with
 | none=>rw[e] at h;cases h
 | some o =>
   rw[e] at h
   cases o with
   | none=>cases h
   | some i =>
     refine⟨i,rfl,?_⟩
     have h':(σ[i]?).join=some v:=Option.some.inj h
     cases e2:σ[i]? with
     | none=>rw[e2] at h';cases h'
     | some x=>rw[e2] at h';cases x with
       | none=>cases h'
       | some y=>cases h';rfl
def yz3(fr:List (Option Nat))(g:TG):Prop:=∀ (x:V) (σ:St) (H:Hp) (Q:St->Hp->Prop),g x σ H Q->g x σ H fun σ2 H2=>Q σ2 H2/\∀ (j i:Nat),fr[j]?=some (some i)->σ2[j]?=σ[j]?
def yn0(fr:List (Option Nat))(g:TGs):Prop:=∀ (xs:List V) (σ:St) (H:Hp) (Q:St->Hp->Prop),g xs σ H Q->g xs σ H fun σ2 H2=>Q σ2 H2/\∀ (j i:Nat),fr[j]?=some (some i)->σ2[j]?=σ[j]?
theorem wi9{i:Nat}(h:autoParam (fr[i]?=some none) zAr):yz3 fr (B2 i):=fun x σ H Q q=>⟨q,fun j k hj=>by
 have:i≠j:=by rintro rfl;rw[h] at hj;cases hj
 rw[List.getElem?_set_ne this]⟩
theorem zs8:yn0 fr yf3:=fun xs σ H Q ⟨e,q⟩=>⟨e,q,fun _ _ _=>rfl⟩
theorem yn1{i:Nat}{u:TGs}(h:fr[i]?=some none)(hu:yn0 fr u):yn0 fr (qr0 (B2 i) u):=fun xs σ H Q ⟨v,r,e,q⟩=>by
 refine⟨v,r,e,?_⟩
 have q:u r (σ.set i (some v)) H Q:=q
 have e2:=hu _ _ _ _ q
 have k:∀ j k,fr[j]?=some (some k)->(σ.set i (some v))[j]?=σ[j]?:=fun j k hj=>by
  have:i≠j:=by rintro rfl;rw[h] at hj;cases hj
  rw[List.getElem?_set_ne this]
 have e3:(fun(σ2:St) (H2:Hp)=>Q σ2 H2/\∀ (j k:Nat),fr[j]?=some (some k)->σ2[j]?=σ[j]?)=(fun(σ2:St) (H2:Hp)=>Q σ2 H2/\∀ (j k:Nat),fr[j]?=some (some k)->σ2[j]?=(σ.set i (some v))[j]?):=by
  funext σ2 H2
  refine propext ⟨fun⟨a,b⟩=>⟨a,fun j m hj=>(b j m hj).trans (k j m hj).symm⟩,fun⟨a,b⟩=>⟨a,fun j m hj=>(b j m hj).trans (k j m hj)⟩⟩
 show u r (σ.set i (some v)) H _
 rw[e3]
 exact e2
theorem zs9{u:TGs}(hu:yn0 fr u):yz3 fr (yf4 K n u):=fun x σ H Q ⟨a,xs,e1,e2,e3,q⟩=>⟨a,xs,e1,e2,e3,hu _ _ _ _ q⟩
def PTs(X:Cx)(ifs:List Expr)(t:TT):Prop :=
 ∀ (pins:List (Addr×Obj)) (s:Shared) (σ:St) (H:Hp) (Q:Bool->Hp->Prop),Inv X pins σ H s->t σ H Q ->
  wpAny (model X.prog X.w) X.A (forIn ifs true fun c r=>if r=true then do let ok<-isTrue c X.env (eval c X.env);pure (ForInStep.yield ok) else pure (ForInStep.yield r)) (TP X pins σ Q) X.xe s
def tTT:TT:=fun _ H Q=>Q true H
theorem xd3:PTs X [] tTT:=fun _ _ _ H _ I h=>wpAny_tests_nil ⟨H,I,h⟩
theorem xs2{t:TT}(h:PT X c t):PTs X [c] t:=fun pins s σ H Q I hq=>wpAny_tests_one (h pins s σ H Q I hq)
structure wj0(X:Cx)(scope:Scope)(N:List Str)(fr:List (Option Nat)):Prop where
 kind:scope.kind=.function
 nocell:∀ y∈scope.names,y.2≠.cell
 names:∀ y∈scope.names,y.2=.local->scope.names.lookup y.1=some .local
 free:∀ y∈scope.names,y.2=.free->X.env.scope.names.lookup y.1=some .cell\/X.env.scope.names.lookup y.1=some .free
 len:N.length=fr.length
 at_:∀ (j i:Nat) (x:Str),fr[j]?=some (some i)->N[j]?=some x->X.N[i]?=some x/\scope.names.lookup x=some .free
def yn2(osc:Scope)(ON:List Str)(scope:Scope)(N:List Str)(fr:List (Option Nat)):Bool :=
 decide (scope.kind=.function) && scope.names.all (fun y=>decide (y.2≠.cell)) && scope.names.all (fun y=>decide (y.2≠.local) || decide (scope.names.lookup y.1=some .local)) &&
 scope.names.all (fun y=>decide (y.2≠.free) || decide (osc.names.lookup y.1=some .cell) || decide (osc.names.lookup y.1=some .free)) && decide (N.length=fr.length) &&
 (fr.zip N).all (fun p=>match p.1 with|some i=>decide (ON[i]?=some p.2) && decide (scope.names.lookup p.2=some .free)|none=>true)
theorem qf9{osc:Scope}{ON:List Str}(h:yn2 osc ON scope N fr=true)(e1:X.env.scope=osc)(e2:X.N=ON):wj0 X scope N fr:=by
 subst e1 e2
 unfold yn2 at h
 simp only[Bool.and_eq_true,List.all_eq_true,Bool.or_eq_true,decide_eq_true_eq] at h
 obtain⟨⟨⟨⟨⟨h1,h2⟩,h3⟩,h4⟩,h5⟩,h6⟩:=h
 refine⟨h1,h2,fun y hy e=>(h3 y hy).resolve_left fun z=>z e,fun y hy e=>?_,h5,fun j i x e1 e2=>?_⟩
 ·rcases h4 y hy with(z|z)|z
  ·exact absurd e z
  ·exact .inl z
  ·exact .inr z
 ·have hm:(some i,x)∈fr.zip N:=by
   apply List.mem_of_getElem? (i:=j)
   rw[List.getElem?_zip_eq_some]
   exact⟨e1,e2⟩
  have:=h6 _ hm
  simpa using this
def wl7 (fr:List (Option Nat)) (wi:TI) (g:TG) (tt:TT) (te:TE):TE:=fun σ H Q=>wi σ H fun J H1 =>
 ∃ W:Nat->Nat->List V->Hp->Prop,(∃ m,W 0 m [] H1)/\∀ i m ys H,W i m ys H->ys.length<=sizeLine /\
  ((J.stop i H/\∀ p,H p=none->Q (.ref p) (upd H p (.lst ys))) \/
   (J.go i H/\∃ NN:List V->Hp->Prop,(∀ ys' H',NN ys' H'->∃ m',m'<m/\W (i+1) m' ys' H')/\∀ x H',J.yld i H x H'->g x (wf7 fr σ) H' fun σ2 H2=>tt σ2 H2 fun b H3 =>
    if b=true then te σ2 H3 fun y H4=>NN (ys++[y]) H4 else NN ys H3))
structure zt0(X:Cx)(pins:List (Addr×Obj))(σ:St)(Q:VK)(C D:Addr)(s':Shared):Prop where
 ex:∃ (ys:List V) (H:Hp),H D=none/\(∃ m,s'.heap.Ns C m)/\D≠C/\C≠X.env.locals/\(∀ x c,X.env.cells.lookup x=some c->c≠C)/\(∀ p∈X.pn++pins,p.1≠C)/\X.s₀.heap.objs.size<=C/\C∉X.fs /\
  (upd H D (.lst ys)) C=none /\
  (∀ h',Heap.SameBut C s'.heap h'->Inv X pins σ (upd H D (.lst ys)) {s' with heap:=h'})/\Q (.ref D) (upd H D (.lst ys))
variable{J:It}{tt:TT}
theorem xf3 {tg:Expr} {cl:List (Str×Addr)} (hcalm:X.calm=true) (S:wj0 X scope N fr) (hclS:∀ x c,cl.lookup x=some c->X.env.cells.lookup x=some c) (hclH:∀ y∈scope.names,y.2=.free->∃ c,cl.lookup y.1=some c) (hg:∀ C s₂ H₂ fp pn,PG (blk X N scope cl C s₂ H₂ fp pn) tg g) (hgo:yz3 fr g) (ht:∀ C s₂ H₂ fp pn,PTs (blk X N scope cl C s₂ H₂ fp pn) ifs tt) (he:∀ C s₂ H₂ fp pn,PE (blk X N scope cl C s₂ H₂ fp pn) elt te) {s2:Shared} {Q:VK} {fp:List Addr} {tn:Nat->Heap->Prop} (I2:Inv X pins σ H2 s2) (T:xe2 X.prog X.w X.K tg J fp it tn) (st2:tn 0 s2.heap) (f2:∀ b∈fp,xl0 X pins H2 b) (W:Nat->Nat->List V->Hp->Prop) (w0:∃ m,W 0 m [] H2) (turn:∀ i m ys H,W i m ys H->ys.length<=sizeLine /\
 ((J.stop i H/\∀ p,H p=none->Q (.ref p) (upd H p (.lst ys))) \/
  (J.go i H/\∃ NN:List V->Hp->Prop,(∀ ys' H',NN ys' H'->∃ m',m'<m/\W (i+1) m' ys' H')/\∀ x H',J.yld i H x H'->g x (wf7 fr σ) H' fun σ2 H2=>tt σ2 H2 fun b H3 =>
   if b=true then te σ2 H3 fun y H4=>NN (ys++[y]) H4 else NN ys H3))) {RR:Value->Addr->Result->Shared->Prop} (hRR:∀ C D s',zt0 X pins σ Q C D s'->RR (.ref D) C (.ok .next) s') :
 wpAny (model X.prog X.w) X.A (newList []) (fun acc s₃=>wpAny (model X.prog X.w) X.A (newFunctionEnv scope X.env.globals cl [] X.env.qual none .none (some X.env)) (fun cenv s₄ =>
  codeAny (model X.prog X.w) X.A (.compStart (.ListComp elt [⟨tg,iter,ifs,0⟩] scope pos) 0 (.ref it) acc {cenv with scope:=relabel scope X.env}) (RR acc cenv.locals) s₄) E s₃) E s2:=by
 obtain⟨m0,w0⟩:=w0
 refine wpAny_newObj_type (wpAny_newFunctionEnv S.nocell (by intro y hy;simp at hy) (fun h₁ hns₁ hsb₁=>?_) S.kind)
 dsimp only at hns₁ hsb₁ ⊢
 generalize hHH:s2.heap.push {cls:=.type "list",dict:=none,data:=.seq ([]:List Value).toArray}=HH at hns₁ hsb₁ ⊢
 have hC:HH.objs.size=s2.heap.objs.size+1:=by rw[<-hHH,Heap.size_push]
 generalize hDD:s2.heap.objs.size=D at *
 generalize hCC:HH.objs.size=C at *
 have hDlt:Nat.lt D C:=by show D<C;rw[hC];exact Nat.lt_succ_self _
 have hDC:D≠C:=Nat.ne_of_lt hDlt
 have neD:∀ {b:Addr},Nat.lt b D->b≠D:=fun h=>Nat.ne_of_lt h
 have neC:∀ {b:Addr},Nat.lt b D->b≠C:=fun h=>Nat.ne_of_lt (Nat.lt_trans h hDlt)
 have below:∀ (b:Addr) (o:Obj),s2.heap.get? b=some o->Nat.lt b D:=fun b o e=>by rw[<-hDD];exact Heap.lt_size e
 have old:∀ b o,s2.heap.get? b=some o->h₁.get? b=some o:=fun b o e=>hsb₁.extBut b o (neC (below b o e)) (Heap.get?_push_of_some _ (hHH▸Heap.get?_push_of_some _ e))
 have hacc:h₁.get? D=some {cls:=.type "list",data:=.seq ([]:List Value).toArray}:=hsb₁.extBut _ _ hDC (Heap.get?_push_of_some _ (by rw[<-hHH,<-hDD];exact Heap.get?_push_size _ rfl))
 have Lt:Nat.lt X.env.locals D:=by rw[<-hDD];exact I2.lt
 have cellLt:∀ x c,X.env.cells.lookup x=some c->Nat.lt c D:=fun x c e=>by
  obtain⟨v,q⟩:=I2.cell x c e
  rw[<-hDD];exact q.lt
 have pinLt:∀ p∈X.pn++pins,Nat.lt p.1 D:=fun p hp=>below p.1 p.2 (I2.pin p hp).1
 have freshH:∀ b:Addr,Nat.le D b->H2 b=none:=fun b hb=>I2.hok.fresh (by rw[hDD];exact hb)
 let X':Cx:=blk X N scope cl C s2 H2 fp (X.pn++pins)
 have okX:X'.Ok:=by
  refine⟨I2.ok.mod,S.kind,I2.ok.glob,I2.ok.blt,by show s2.heap.objs.size<=C;rw[hDD];exact Nat.le_of_lt hDlt,fun x y c e1 e2=>I2.ok.inj x y c (hclS _ _ e1) (hclS _ _ e2),fun x hx=>?_,fun x c hf _=>(by cases hf),I2.ok.hd,I2.ok.frames,.inl rfl,fun b hb=>⟨?_,fun x c e=>(f2 b hb).2.2.2.2.1 x c (hclS _ _ e)⟩,I2.bs,Nat.le_trans I2.ok.bsz I2.sz,fun b o e hb=>?_,fun b hb hm=>?_,I2.stack,I2.stkFree⟩
  ·have hx:(relabel scope X.env).names.lookup x=some .cell\/(relabel scope X.env).names.lookup x=some .free:=hx
   have hf:scope.names.lookup x=some .free:=by
    rcases hx with hx|hx
    ·rcases qd2 hx with h|⟨_,h⟩
     ·exact absurd rfl (S.nocell _ (PySem.mem_of_lookup h))
     ·exact h
    ·rcases qd2 hx with h|⟨h,_⟩
     ·exact h
     ·cases h
   exact hclH _ (PySem.mem_of_lookup hf) rfl
  ·obtain⟨o,e,_⟩:=T.obj 0 _ st2 b hb
   exact neC (below b o e)
  ·obtain⟨_,_,_,h,_⟩:=f2 b hb
   rcases h with h|h
   ·exact I2.ok.noex b o e h
   ·have:=Heap.lt_size (I2.ok.bs b o e).1
    exact absurd (Nat.lt_of_lt_of_le this h) (Nat.lt_irrefl _)
  ·rcases List.mem_cons.mp (I2.stkSub b hm) with h|h
   ·exact(f2 b hb).2.1 h
   ·exact(f2 b hb).2.2.1 h
 have I4:∀ tk,0<tk->Inv X' [(D,{cls:=.type "list",data:=.seq ([]:List Value).toArray})] (wf7 fr σ) H2 {s2 with heap:=h₁,toks:=tk}:=fun tk htk=>by
  refine⟨okX,rfl,I2.bare,Un.kept old,⟨_,hns₁,fun j x v e1 e2 e3=>?_⟩,fun x c e=>?_,freshH C (Nat.le_of_lt hDlt),fun x c e=>I2.freeC x c (hclS _ _ e),fun p hp=>?_,I2.hok.kept old,?_,htk⟩
  ·obtain⟨i,q1,q2⟩:=xz0 e2
   obtain⟨a1,a2⟩:=S.at_ j i x q1 e1
   obtain⟨m,hn,hl⟩:=I2.loc
   have vis:Vis X.env.scope x:=by
    rcases S.free _ (PySem.mem_of_lookup a2) rfl with h|h
    ·exact .inr (.inl h)
    ·exact .inr (.inr h)
   obtain⟨u,r,l⟩:=hl i x v a1 q2 vis
   refine⟨u,r,.inr ⟨?_,?_⟩⟩
   ·exact qo4 (env:=X.env) a2
   ·rcases l with⟨hk,_⟩|⟨_,c,hc,hcell⟩
    ·have hk:X.env.scope.names.lookup x=some .local:=hk
     rcases S.free _ (PySem.mem_of_lookup a2) rfl with h|h
     ·have h:X.env.scope.names.lookup x=some .cell:=h
      rw[hk] at h;cases h
     ·have h:X.env.scope.names.lookup x=some .free:=h
      rw[hk] at h;cases h
    ·obtain⟨c',hc'⟩:=hclH _ (PySem.mem_of_lookup a2) rfl
     have:c=c':=by
      have:=hclS _ _ hc'
      rw[hc] at this
      exact Option.some.inj this
     subst this
     obtain⟨o,ho,hd⟩:=hcell
     exact⟨c,hc',o,old c o ho,hd⟩
  ·obtain⟨v,o,ho,hd⟩:=I2.cell x c (hclS _ _ e)
   exact⟨v,o,old c o ho,hd⟩
  ·rcases List.mem_append.mp hp with hp|hp
   ·obtain⟨e,n,ne,nf,d⟩:=I2.pin p hp
    refine⟨old _ _ e,n,?_,fun hm=>?_,d⟩
    ·exact neC (pinLt p hp)
    ·rcases List.mem_cons.mp (I2.stkSub _ hm) with h|h
     ·exact ne h
     ·exact nf h
   ·have hp:p=(D,{cls:=.type "list",data:=.seq ([]:List Value).toArray}):=by simpa using hp
    subst hp
    refine⟨hacc,freshH D (Nat.le_refl _),hDC,fun hm=>?_,fun v z=>by cases z⟩
    rcases List.mem_cons.mp (I2.stkSub _ hm) with h|h
    ·exact neD Lt h.symm
    ·exact I2.nofs (by rw[hDD];exact Nat.le_refl _) h
  ·show(wf7 fr σ).length=N.length
   unfold wf7
   rw[List.length_map,S.len]
 have fpLt:∀ b∈fp,Nat.lt b D:=fun b hb=>by
  obtain⟨o,e,_⟩:=T.obj 0 _ st2 b hb
  exact below b o e
 have fpk:∀ {H:Hp} {oD:Obj},(∀ b∈fp,H b=none)->∀ b∈fp,xl0 X' [(D,oD)] H b:=fun{H oD} hn b hb=>by
  refine⟨hn b hb,?_,fun hm=>?_,.inl hb,fun x c e=>(f2 b hb).2.2.2.2.1 x c (hclS _ _ e),fun p hp=>?_⟩
  ·exact neC (fpLt b hb)
  ·rcases List.mem_cons.mp (I2.stkSub b hm) with h|h
   ·exact(f2 b hb).2.1 h
   ·exact(f2 b hb).2.2.1 h
  ·rcases List.mem_append.mp hp with hp|hp
   ·exact(f2 b hb).2.2.2.2.2 p hp
   ·have hp:p=(D,oD):=by simpa using hp
    subst hp
    exact(neD (fpLt b hb)).symm
 have loop:∀ s₃:Shared,s₃={s2 with heap:=h₁,toks:=s2.toks+([]:List (Str×Value)).length} ->
  codeAny (model X.prog X.w) X.A (.compLoop (.ListComp elt [⟨tg,iter,ifs,0⟩] scope pos) 0 (.ref it) (.ref D) (compEnvC scope cl C X.env)) (RR (.ref D) C) s₃:=by
  rintro s₃ rfl
  refine wf6 (fun n s'=>∃ i ys its k H',Inv X' [(D,({cls:=.type "list",data:=.seq its k}:Obj))] (wf7 fr σ) H' s'/\tn i s'.heap/\(∀ b∈fp,H' b=none)/\L1 ys its.toList/\W i n ys H') ?_ m0
   ⟨0,[],#[],_,H2,I4 _ (by first|exact I2.tk|exact Nat.succ_pos _),T.keep 0 _ _ st2 (fun b _ o e=>old b o e),fun b hb=>(f2 b hb).1,.nil,w0⟩
  rintro n s3 ⟨i,ys,its,k,H3,I3,st3,fr3,vy,w3⟩
  obtain⟨hsz,h⟩:=turn i n ys H3 w3
  rcases h with⟨stop,qn⟩|⟨go,NN,hNN,step⟩
  ·refine noE (thn (T.done X' rfl rfl rfl hcalm i [(D,_)] s3 (wf7 fr σ) H3 _ I3 (fpk fr3) st3 stop) fun r s4 zq=>?_)
   obtain⟨hr,I4⟩:=zq
   subst hr
   refine hRR C D s4 ⟨ys,H3,?_⟩
   obtain⟨pD,nD,_,_,_⟩:=I4.pin (D,_) (List.mem_append_right _ (List.mem_singleton.mpr rfl))
   have pD:s4.heap.get? D=some {cls:=.type "list",data:=.seq its k}:=pD
   have nD:H3 D=none:=nD
   have nC:H3 C=none:=I4.free
   obtain⟨mC,hnC,_⟩:=I4.loc
   refine⟨nD,⟨mC,hnC⟩,hDC,(neC Lt).symm,fun x c e z=>?_,fun p hp z=>?_,?_,fun hm=>?_,?_,fun h' hsb=>?_,qn D nD⟩
   ·exact neC (cellLt x c e) z
   ·exact neC (pinLt p hp) z
   ·have:=I2.sz;rw[hDD] at this;exact Nat.le_trans this (Nat.le_of_lt hDlt)
   ·exact I2.nofs (by rw[hDD];exact Nat.le_of_lt hDlt) hm
   ·rw[B7 (Ne.symm hDC)];exact nC
   ·have un:Un (frs X.stack) fp H2 (upd H3 D (.lst ys)) s2.heap h':=by
     have u:=I4.base
     have neC:∀ (b:Addr) (o:Obj),s2.heap.get? b=some o->b≠C:=fun b o e=>neC (below b o e)
     have neD:∀ (b:Addr) (o:Obj),s2.heap.get? b=some o->b≠D:=fun b o e=>neD (below b o e)
     have trkNe:∀ b (o:HO),H3 b=some o->b≠D:=fun b o e z=>by rw[z,nD] at e;cases e
     refine⟨fun b o e n hb hx=>hsb.extBut b o (neC b o e) (u.keep b o e n hb hx),fun b o e n hb hx=>?_,fun b o e n hx=>by rw[B7 (neD b o e)];exact u.free b o e n hx,fun b o e hx=>?_,fun b xs e=>?_,fun b o xs e=>?_,fun b ps e=>?_⟩
     ·obtain⟨sl,q⟩:=u.slot b o e n hb hx
      exact⟨sl,hsb.extBut b _ (neC b o e) q⟩
     ·obtain⟨o',q⟩:=u.there b o e hx
      exact⟨o',hsb.extBut b _ (neC b o e) q⟩
     ·have q:=u.tups b xs e
      rw[B7 (trkNe b _ q)];exact q
     ·have q:=u.frzs b o xs e
      rw[B7 (trkNe b _ q)];exact q
     ·obtain⟨more,q⟩:=u.tbls b ps e
      exact⟨more,by rw[B7 (trkNe b _ q)];exact q⟩
    have hok:HOk X.prog X.w (upd H3 D (.lst ys)) h':=fun b u e=>by
     by_cases hb:b=D
     ·rw[hb,A6] at e
      cases e
      rw[hb]
      exact⟨hsz,its.toList,k,vy,by simpa using hsb.extBut D _ hDC pD⟩
     ·rw[B7 hb] at e
      refine(I4.hok b u e).stay (fun c v hc q=>hsb.extBut c v ?_ q) (fun c q=>?_) fun c xs q=>?_
      ·rcases hc with rfl|hc
       ·rintro rfl;rw[nC] at e;cases e
       ·rintro rfl;rw[nC] at hc;cases hc
      ·rw[B7 (W5 q nD)];exact q
      ·rw[B7 (W5 q nD)];exact q
    obtain⟨hh,gg,dd,tt',os'⟩:=s4
    obtain rfl:os'=s2.os:=I4.os
    refine(show Inv X pins σ (upd H3 D (.lst ys)) {s2 with heap:=h',gens:=gg,drawn:=dd,toks:=tt'} from I2.call (h':=h') (g':=gg) (d':=dd) (t':=tt') (ch:=fp) un hok I4.bare fun b hb=>?_)
    obtain⟨_,f1,_,f3,f4,f5⟩:=f2 b hb
    exact⟨f3,f1,f4,f5⟩
  ·refine noE (thn (T.item X' rfl rfl rfl hcalm i [(D,_)] s3 (wf7 fr σ) H3 _ I3 (fpk fr3) st3 go) fun r s4 zq=>?_)
   obtain⟨u,hr,h4⟩:=zq
   subst hr
   refine noE (thn h4 fun _ s5 zq=>?_)
   obtain⟨x,H5,I5,r5,y5,st5,fr5⟩:=zq
   have I5':=I5.pinned (fpk fr5) (T.obj _ _ st5)
   refine noE (thn (hg C s2 H2 fp (X.pn++pins) _ s5 (wf7 fr σ) H5 x u _ I5' r5 (hgo _ _ _ _ (step x H5 y5))) fun _ s6 zq=>?_)
   obtain⟨σ6,H6,I6,q6,k6⟩:=zq
   refine noE (thn (ht C s2 H2 fp (X.pn++pins) _ s6 σ6 H6 _ I6 q6) fun b s7 zq=>?_)
   obtain⟨H7,I7,q7⟩:=zq
   have back:∀ {s8:Shared} {H8:Hp},Inv X' ([(D,({cls:=.type "list",data:=.seq its k}:Obj))]++xe3 fp s5.heap) σ6 H8 s8->Inv X' [(D,({cls:=.type "list",data:=.seq its k}:Obj))] (wf7 fr σ) H8 s8/\tn (i+1) s8.heap/\∀ b∈fp,H8 b=none:=fun{s8 H8} I8=>by
    refine⟨(I8.unpinned).weak ?_ fun j v e=>?_,T.keep _ _ _ st5 fun b hb o e=>(I8.pin (b,o) (List.mem_append_right _ (List.mem_append_right _ (wa9 hb e)))).1,fun b hb=>?_⟩
    ·rw[I8.len];show(wf7 fr σ).length=N.length;unfold wf7;rw[List.length_map,S.len]
    ·obtain⟨i',q1,_⟩:=xz0 e
     rw[k6 j i' q1];exact e
    ·obtain⟨o,e,d⟩:=T.obj _ _ st5 b hb
     exact(I8.pin (b,o) (List.mem_append_right _ (List.mem_append_right _ (wa9 hb e)))).2.1
   cases b with
   | false =>
     rw[if_neg Bool.false_ne_true] at q7 ⊢
     obtain⟨m',hm,w7⟩:=hNN _ _ q7
     obtain⟨J1,J2,J3⟩:=back I7
     exact⟨m',hm,i+1,ys,its,k,H7,J1,J2,J3,vy,w7⟩
   | true =>
     rw[if_pos rfl] at q7 ⊢
     refine noE (thn (he C s2 H2 fp (X.pn++pins) _ s7 σ6 H7 _ I7 q7) fun y s8 zq=>?_)
     obtain⟨yv,H8,I8,r8,n8⟩:=zq
     obtain⟨m',hm,w8⟩:=hNN _ _ n8
     obtain⟨J1,J2,J3⟩:=back I8
     obtain⟨pD,nD,_,_,_⟩:=J1.pin (D,_) (List.mem_append_right _ (List.mem_singleton.mpr rfl))
     have pD:s8.heap.get? D=some {cls:=.type "list",data:=.seq its k}:=pD
     have nD:H8 D=none:=nD
     have hz':its.size<=sizeLine:=by
      have e1:its.size=ys.length:=by rw[vy.length];simp
      rw[e1];exact hsz
     refine wpAny_list_append_plain (hsz:=hz') ⟨k,pD⟩ fun h' ⟨k',hl'⟩ hsb=>?_
     ·refine⟨m',hm,i+1,ys++[yv],its.push y,k',H8,?_,T.keep _ _ _ J2 fun b hb o e=>?_,J3,?_,w8⟩
      ·have K0:Inv X' [] (wf7 fr σ) H8 s8:=J1.pins_of fun p hp=>by cases hp
       have K1:Inv X' [] (wf7 fr σ) H8 {s8 with heap:=h'}:=by
        refine K0.turned (it:=D) (t':=s8.toks) (fun b o hb e=>hsb.extBut b o hb e) nD hDC (.inr (by show s2.heap.objs.size<=D;rw[hDD];exact Nat.le_refl _)) (fun x c e z=>?_) fun p hp z=>?_
        ·exact neD (cellLt x c (hclS _ _ e)) z
        ·have hp:p∈X.pn++pins:=by
          rcases List.mem_append.mp hp with hp|hp
          ·exact hp
          ·cases hp
         exact neD (pinLt p hp) z
       refine K1.pins_of fun p hp=>?_
       have hp:p=(D,({cls:=.type "list",data:=.seq (its.push y) k'}:Obj)):=by simpa using hp
       subst hp
       refine⟨hl',nD,hDC,fun hm=>?_,fun v z=>by cases z⟩
       rcases List.mem_cons.mp (I2.stkSub _ hm) with h|h
       ·exact neD Lt h.symm
       ·exact I2.nofs (by rw[hDD];exact Nat.le_refl _) h
      ·exact hsb.extBut b o (neD (fpLt b hb)) e
      ·rw[Array.toList_push]
       exact L1.append vy (.cons r8 .nil)
 exact codeAny_compStart_list (loop _ rfl) (T.self _ 0 _ _ _ (T.keep 0 _ _ st2 fun b _ o e=>old b o e) (loop _ rfl))
theorem wq3{tg:Expr}(hcalm:X.calm=true)(S:wj0 X scope N fr)(hi:PI X tg iter wi)(hg:∀ cl C s₂ H₂ fp pn,PG (blk X N scope cl C s₂ H₂ fp pn) tg g)(hgo:yz3 fr g)(ht:∀ cl C s₂ H₂ fp pn,PTs (blk X N scope cl C s₂ H₂ fp pn) ifs tt)(he:∀ cl C s₂ H₂ fp pn,PE (blk X N scope cl C s₂ H₂ fp pn) elt te)(hs:autoParam (∀ x,foldedSetIterable iter X.env x=pure x) zAi):PE X (.ListComp elt [⟨tg,iter,ifs,0⟩] scope pos) (wl7 fr wi g tt te):=by
 intro pins s σ H Q I h
 obtain⟨cl,hclos,hclS,hclH⟩:=wl6 (env:=X.env) (scope:=scope) fun y hy hf=>I.ok.has y.1 (S.free y hy hf)
 rw[eval_ListComp]
 refine wpAny_comprehension_free (use:=none) rfl hs hclos S.kind S.names (thn (hi pins s σ H _ I h) fun v s1 h1=>thn h1 fun itv s2 h2=>?_)
 obtain⟨it,fp,tn,J,H2,e,I2,T,st2,f2,W,w0,turn⟩:=h2
 subst e
 refine xf3 (RR:=fun acc C=>compPost (model X.prog X.w) X.A X.xe none (EP X pins σ Q) acc C) hcalm S hclS hclH (hg cl) hgo (ht cl) (he cl) I2 T st2 f2 W w0 turn fun C D s' B=>?_
 obtain⟨ys,H',nD,hC,_,_,_,_,_,_,_,hI,q⟩:=B.ex
 obtain⟨m,hn⟩:=hC
 exact⟨m,hn,fun h' hs'=>⟨.ref D,_,hI h' hs',rfl,q⟩⟩
theorem yn3{tg:Expr}{spos py:Pos}{i:Nat}{y:Str}(hN:X.N.Nodup)(hy:X.N[i]?=some y)(hly:X.env.scope.names.lookup y=some .local)(hcalm:X.calm=true)(S:wj0 X scope N fr)(hi:PI X tg iter wi)(hg:∀ cl C s₂ H₂ fp pn,PG (blk X N scope cl C s₂ H₂ fp pn) tg g)(hgo:yz3 fr g)(ht:∀ cl C s₂ H₂ fp pn,PTs (blk X N scope cl C s₂ H₂ fp pn) ifs tt)(he:∀ cl C s₂ H₂ fp pn,PE (blk X N scope cl C s₂ H₂ fp pn) elt te)(hsw:autoParam (swapsWith (.ListComp elt [⟨tg,iter,ifs,0⟩] scope pos) (some (.Name y py)) spos.line X.env=pure true) zAr)(hs:autoParam (∀ x,foldedSetIterable iter X.env x=pure x) zAi):PS X (.Assign [.Name y py] (.ListComp elt [⟨tg,iter,ifs,0⟩] scope pos) spos) (E9 (wl7 fr wi g tt te) (B2 i)):=by
 intro pins s σ H D I h
 obtain⟨cl,hclos,hclS,hclH⟩:=wl6 (env:=X.env) (scope:=scope) fun y hy hf=>I.ok.has y.1 (S.free y hy hf)
 rw[exec_Assign_Name_used _ _ _ _ hsw]
 refine wpAny_bind (wpAny_standAt (wpAny_bind ?_))
 show wpAny _ X.A (do let _<-comprehension (.ListComp elt [⟨tg,iter,ifs,0⟩] scope pos) scope X.env _ (newList []) false (eval iter X.env) (some (assign (.Name y py) X.env))) _ _ s
 refine wpAny_bind (wpAny_mono (wpAny_comprehension_free (use:=some (assign (.Name y py) X.env)) (Q:=fun _ s'=>SP X pins D .next s') rfl hs hclos S.kind S.names
  (thn (hi pins s σ H _ I h) fun v s1 h1=>thn h1 fun itv s2 h2=>?_)) (fun _ s' hq=>wpAny_pure (wpAny_pure hq)) fun _ _ e=>e)
 obtain⟨it,fp,tn,J,H2,e,I2,T,st2,f2,W,w0,turn⟩:=h2
 subst e
 refine xf3 (Q:=fun x H1=>B2 i x σ H1 D.nx) (RR:=fun acc C=>compPost (model X.prog X.w) X.A X.xe (some (assign (.Name y py) X.env)) (fun _ s'=>SP X pins D .next s') acc C) hcalm S hclS hclH (hg cl) hgo (ht cl) (he cl) I2 T st2 f2 W w0 turn fun C D' s' B=>?_
 obtain⟨ys,H',nD,hC,hDC,hCL,hCc,hCp,hCs,hCf,hCn,hI,q⟩:=B.ex
 obtain⟨m,hn⟩:=hC
 have I1:Inv X pins σ (upd H' D' (.lst ys)) s':=by
  have:=hI s'.heap (.refl ..)
  obtain⟨hh,gg,dd,tt',os'⟩:=s'
  exact this
 show wpAny _ X.A (assign (.Name y py) X.env (.ref D')) _ _ _
 refine wpAny_assign_Name (xn7 I1 hN hy (.inl hly) (v:=.ref D') rfl (fun s2 I3 zq=>?_) (.inr hly))
 obtain⟨a,sb,ha⟩:=zq
 have hCa:C≠a:=by
  rcases ha with rfl|ha
  ·exact hCL
  ·exact fun z=>hCc y a ha z.symm
 refine⟨m,hn.sameBut sb hCa,fun h3 hs3=>?_⟩
 exact⟨_,_,I3.turned (it:=C) (t':=s2.toks) (fun b o hb e=>hs3.extBut b o hb e) hCn hCL (.inr hCs) hCc hCp,q⟩
mutual
def Dv(K:Fg)(H:Hp):PyData->V->Prop
 | .none,v=>v=.non
 | .bool b,v=>v=.bl b
 | .int i,v=>v=.int i
 | .str x,v=>v=.str x
 | .list ds,v=>∃ a vs,v=.ref a/\SqL K H a vs/\Dvs K H ds vs
 | .tuple ds,v=>∃ a vs,v=.ref a/\SqT K H a vs/\Dvs K H ds vs
 | .dict _,_=>False
def Dvs(K:Fg)(H:Hp):List PyData->List V->Prop
 | [],vs=>vs=[]
 | d::ds,vs=>∃ v r,vs=v::r/\Dv K H d v/\Dvs K H ds r
end
theorem Dvs.length:∀ {ds:List PyData} {vs:List V},Dvs K H ds vs->vs.length=ds.length
 | [],_,h=>by rw[Dvs] at h;subst h;rfl
 | d::ds,_,h=>by
   rw[Dvs] at h
   obtain⟨v,r,rfl,_,h⟩:=h
   rw[List.length_cons,List.length_cons,Dvs.length h]
theorem Dvs.get:∀ {ds:List PyData} {vs:List V} {i:Nat} {d:PyData},Dvs K H ds vs->ds[i]?=some d->∃ v,vs[i]?=some v/\Dv K H d v
 | [],_,_,_,_,e=>by simp at e
 | d::ds,_,0,_,h,e=>by
   rw[Dvs] at h
   obtain⟨v,r,rfl,h,_⟩:=h
   cases e
   exact⟨v,rfl,h⟩
 | d::ds,_,i+1,_,h,e=>by
   rw[Dvs] at h
   obtain⟨v,r,rfl,_,h⟩:=h
   exact Dvs.get (i:=i) h (by simpa using e)
theorem Dvs.get':∀ {ds:List PyData} {vs:List V} {i:Nat} {v:V},Dvs K H ds vs->vs[i]?=some v->∃ d,ds[i]?=some d/\Dv K H d v
 | [],_,_,_,h,e=>by rw[Dvs] at h;subst h;simp at e
 | d::ds,_,0,_,h,e=>by
   rw[Dvs] at h
   obtain⟨v,r,rfl,h,_⟩:=h
   cases e
   exact⟨d,rfl,h⟩
 | d::ds,_,i+1,_,h,e=>by
   rw[Dvs] at h
   obtain⟨v,r,rfl,_,h⟩:=h
   exact Dvs.get' (i:=i) h (by simpa using e)
theorem Dvs.append:∀ {ds es:List PyData} {vs ws:List V},Dvs K H ds vs->Dvs K H es ws->Dvs K H (ds++es) (vs++ws)
 | [],_,_,_,h,g=>by rw[Dvs] at h;subst h;exact g
 | d::ds,es,_,_,h,g=>by
   rw[Dvs] at h
   obtain⟨v,r,rfl,h1,h⟩:=h
   show Dvs K H (d::(ds++es)) _
   rw[Dvs]
   exact⟨v,r++_,rfl,h1,Dvs.append h g⟩
theorem J7:Dvs K H [] []:=by rw[Dvs]
variable{d:PyData}{ds:List PyData}
theorem B4(h:Dv K H d v)(t:Dvs K H ds vs):Dvs K H (d::ds) (v::vs):=by rw[Dvs];exact⟨v,vs,rfl,h,t⟩
theorem qo9:Dvs K H (d::ds) (v::vs)↔Dv K H d v/\Dvs K H ds vs:=by
 rw[Dvs]
 constructor
 ·rintro⟨v',r,e,h⟩;cases e;exact h
 ·intro h;exact⟨v,vs,rfl,h⟩
theorem wq4:Dv K H .none v↔v=.non:=by rw[Dv]
theorem wq5{b:Bool}:Dv K H (.bool b) v↔v=.bl b:=by rw[Dv]
theorem O1:Dv K H (.int i) v↔v=.int i:=by rw[Dv]
theorem E6:Dv K H (.str x) v↔v=.str x:=by rw[Dv]
theorem qu1:Dv K H (.list ds) v↔∃ a vs,v=.ref a/\SqL K H a vs/\Dvs K H ds vs:=by rw[Dv]
theorem C7:Dv K H (.tuple ds) v↔∃ a vs,v=.ref a/\SqT K H a vs/\Dvs K H ds vs:=by rw[Dv]
def sDa(xs:List Str):List PyData:=xs.map .str
def C1(xs:List Str):List V:=xs.map .str
theorem qe4:∀ {xs:List Str} {vs:List V},Dvs K H (sDa xs) vs↔vs=C1 xs
 | [],_=>by show Dvs K H [] _↔_=[];rw[Dvs]
 | x::xs,vs=>by
   show Dvs K H (.str x::sDa xs) vs↔vs=V.str x::C1 xs
   rw[Dvs]
   constructor
   ·rintro⟨v,r,rfl,h1,h2⟩
    rw[E6.mp h1,qe4.mp h2]
   ·rintro rfl
    exact⟨_,_,rfl,E6.mpr rfl,qe4.mpr rfl⟩
def T5(H H':Hp):Prop:=(∀ b xs,H b=some (.tup xs)->H' b=some (.tup xs))/\∀ b o xs,H b=some (.frz o (.tup xs))->H' b=some (.frz o (.tup xs))
theorem A7.tupK(h:A7 H H'):T5 H H':=⟨fun b xs e=>h b _ e,fun b o xs e=>h b _ e⟩
theorem T5.refl(H:Hp):T5 H H:=⟨fun _ _ e=>e,fun _ _ _ e=>e⟩
theorem T5.trans(a:T5 H H1)(b:T5 H1 H2):T5 H H2:=⟨fun c xs e=>b.1 c xs (a.1 c xs e),fun c o xs e=>b.2 c o xs (a.2 c o xs e)⟩
theorem T5.sqT(e:T5 H H')(h:SqT K H a xs):SqT K H' a xs:=by
 rcases h with(h|⟨o,h⟩)|h
 ·exact .inl (.inl (e.1 _ _ h))
 ·exact .inl (.inr ⟨o,e.2 _ _ _ h⟩)
 ·exact .inr h
theorem A7.sqT(e:A7 H H')(h:SqT K H a xs):SqT K H' a xs:=e.tupK.sqT h
theorem A7.sqL(e:A7 H H')(h:SqL K H a xs):SqL K H' a xs:=e.seq h
theorem A7.new(h:H p=none)(o:HO):A7 H (upd H p o):=fun b u q=>by rw[B7 (W5 q h)];exact q
def But(ps:List Addr)(H H':Hp):Prop:=∀ b o,H b=some o->b∉ps->H' b=some o
theorem But.refl(ps:List Addr)(H:Hp):But ps H H:=fun _ _ e _=>e
mutual
/-- data without lists -/
def fix:PyData->Bool
 | .none=>true | .bool _=>true | .int _=>true | .str _=>true
 | .list _=>false
 | .tuple ds=>Q0 ds
 | .dict _=>false
def Q0:List PyData->Bool
 | []=>true
 | d::ds=>fix d && Q0 ds
end
mutual
theorem Dv.tupK{K:Fg}{H H':Hp}(k:T5 H H'):∀ (d:PyData) (v:V),fix d=true->Dv K H d v->Dv K H' d v
 | .none,_,_,h=>wq4.mpr (wq4.mp h)
 | .bool _,_,_,h=>wq5.mpr (wq5.mp h)
 | .int _,_,_,h=>O1.mpr (O1.mp h)
 | .str _,_,_,h=>E6.mpr (E6.mp h)
 | .list _,_,f,_=>by rw[fix] at f;cases f
 | .tuple ds,v,f,h=>by
   rw[fix] at f
   obtain⟨a,vs,rfl,hq,h⟩:=C7.mp h
   exact C7.mpr ⟨a,vs,rfl,k.sqT hq,Dvs.tupK k ds vs f h⟩
 | .dict _,_,f,_=>by rw[fix] at f;cases f
theorem Dvs.tupK{K:Fg}{H H':Hp}(k:T5 H H'):∀ (ds:List PyData) (vs:List V),Q0 ds=true->Dvs K H ds vs->Dvs K H' ds vs
 | [],_,_,h=>by rw[Dvs] at h ⊢;exact h
 | d::ds,vs,f,h=>by
   rw[Q0,Bool.and_eq_true] at f
   rw[Dvs] at h ⊢
   obtain⟨v,r,e,h1,h2⟩:=h
   exact⟨v,r,e,Dv.tupK k d v f.1 h1,Dvs.tupK k ds r f.2 h2⟩
end
mutual
theorem Dv.same{K:Fg}{H H':Hp}(k:A7 H H'):∀ (d:PyData) (v:V),Dv K H d v->Dv K H' d v
 | .none,_,h=>wq4.mpr (wq4.mp h)
 | .bool _,_,h=>wq5.mpr (wq5.mp h)
 | .int _,_,h=>O1.mpr (O1.mp h)
 | .str _,_,h=>E6.mpr (E6.mp h)
 | .list ds,v,h=>by
   obtain⟨a,vs,rfl,hq,h⟩:=qu1.mp h
   exact qu1.mpr ⟨a,vs,rfl,k.sqL hq,Dvs.same k ds vs h⟩
 | .tuple ds,v,h=>by
   obtain⟨a,vs,rfl,hq,h⟩:=C7.mp h
   exact C7.mpr ⟨a,vs,rfl,k.sqT hq,Dvs.same k ds vs h⟩
 | .dict _,_,h=>by rw[Dv] at h;exact h.elim
theorem Dvs.same{K:Fg}{H H':Hp}(k:A7 H H'):∀ (ds:List PyData) (vs:List V),Dvs K H ds vs->Dvs K H' ds vs
 | [],_,h=>by rw[Dvs] at h ⊢;exact h
 | d::ds,vs,h=>by
   rw[Dvs] at h ⊢
   obtain⟨v,r,e,h1,h2⟩:=h
   exact⟨v,r,e,Dv.same k d v h1,Dvs.same k ds r h2⟩
end
mutual
theorem Dv.reads{X:Cx}{pins:List (Addr×Obj)}{σ:St}{H:Hp}{s:Shared}(I:Inv X pins σ H s):∀ (d:PyData) (v:V) (u:Value),Dv X.K H d v->L4 v u->∃ as,Reads s.heap u d as
 | .none,_,_,h,r=>by rw[wq4.mp h] at r;cases r;exact⟨_,.none⟩
 | .bool b,_,_,h,r=>by rw[wq5.mp h] at r;cases r;exact⟨_,.bool b⟩
 | .int i,_,_,h,r=>by rw[O1.mp h] at r;obtain⟨t,rfl⟩:=r;exact⟨_,.int i t⟩
 | .str x,_,_,h,r=>by rw[E6.mp h] at r;obtain⟨t,rfl⟩:=r;exact⟨_,.str x t⟩
 | .list ds,_,_,h,r=>by
   obtain⟨a,vs,rfl,hq,h⟩:=qu1.mp h
   cases r
   obtain⟨its,rv,pl,_⟩:=I.list hq
   obtain⟨o,e,c,n,d⟩:=pl.isList
   obtain⟨as,ra⟩:=Dvs.reads I ds vs its h rv
   exact⟨_,.list e c d (by simpa using ra)⟩
 | .tuple ds,_,_,h,r=>by
   obtain⟨a,vs,rfl,hq,h⟩:=C7.mp h
   cases r
   obtain⟨its,rv,pl,_⟩:=I.tuple hq
   obtain⟨o,e,c,n,d⟩:=pl
   obtain⟨as,ra⟩:=Dvs.reads I ds vs its h rv
   exact⟨_,.tuple e c d (by simpa using ra)⟩
 | .dict _,_,_,h,_=>by rw[Dv] at h;exact h.elim
theorem Dvs.reads{X:Cx}{pins:List (Addr×Obj)}{σ:St}{H:Hp}{s:Shared}(I:Inv X pins σ H s):∀ (ds:List PyData) (vs:List V) (us:List Value),Dvs X.K H ds vs->L1 vs us->∃ as,ReadsAll s.heap us ds as
 | [],_,_,h,r=>by rw[Dvs] at h;subst h;cases r;exact⟨_,.nil⟩
 | d :: ds,_,_,h,r=>by
   rw[Dvs] at h
   obtain⟨v,r',rfl,h1,h2⟩:=h
   cases r with
   | cons r1 r2 =>
     obtain⟨as,a1⟩:=Dv.reads I d v _ h1 r1
     obtain⟨bs,a2⟩:=Dvs.reads I ds r' _ h2 r2
     exact⟨_,.cons a1 a2⟩
end
open PySem.SeqAt
mutual
def nd:PyData->Bool
 | .none=>true | .bool _=>true | .int _=>true | .str _=>true
 | .list ds=>nds ds
 | .tuple ds=>nds ds
 | .dict _=>false
def nds:List PyData->Bool
 | []=>true
 | d::ds=>nd d && nds ds
end
mutual
theorem Dv.nd{K:Fg}{H:Hp}:∀ (d:PyData) (v:V),Dv K H d v->nd d=true
 | .none,_,_=>by rw[L2.nd]
 | .bool _,_,_=>by rw[L2.nd]
 | .int _,_,_=>by rw[L2.nd]
 | .str _,_,_=>by rw[L2.nd]
 | .list ds,_,h=>by
   obtain⟨a,vs,_,_,h⟩:=qu1.mp h
   rw[L2.nd];exact Dvs.nd ds vs h
 | .tuple ds,_,h=>by
   obtain⟨a,vs,_,_,h⟩:=C7.mp h
   rw[L2.nd];exact Dvs.nd ds vs h
 | .dict _,_,h=>by rw[Dv] at h;exact h.elim
theorem Dvs.nd{K:Fg}{H:Hp}:∀ (ds:List PyData) (vs:List V),Dvs K H ds vs->nds ds=true
 | [],_,_=>by rw[nds]
 | d::ds,vs,h=>by
   rw[Dvs] at h
   obtain⟨v,r,_,h1,h2⟩:=h
   rw[nds,Dv.nd d v h1,Dvs.nd ds r h2];rfl
end
mutual
theorem xf4{h:Heap}:∀ (d d':PyData) (v:Value) (as as':List Addr),nd d=true->Reads h v d as->Reads h v d' as'->d=d'
 | .none,_,_,_,_,_,r,q=>by cases r;cases q;rfl
 | .bool _,_,_,_,_,_,r,q=>by cases r;cases q;rfl
 | .int _,_,_,_,_,_,r,q=>by cases r;cases q;rfl
 | .str _,_,_,_,_,_,r,q=>by cases r;cases q;rfl
 | .dict _,_,_,_,_,n,_,_=>by rw[L2.nd] at n;cases n
 | .list xs,d',_,_,_,n,r,q=>by
   rw[L2.nd] at n
   cases r with
   | list a1 a2 a3 a4 =>
     cases q with
     | list b1 b2 b3 b4=>rw[a1] at b1;cases b1;rw[a3] at b3;cases b3;rw[wv2 xs _ _ _ _ n a4 b4]
     | tuple b1 b2 b3 b4=>rw[a1] at b1;cases b1;rw[a2] at b2;exact absurd b2 (by simp)
     | dict b1 b2=>rw[a1] at b1;cases b1;rw[a2] at b2;exact absurd b2 (by simp)
 | .tuple xs,d',_,_,_,n,r,q=>by
   rw[L2.nd] at n
   cases r with
   | tuple a1 a2 a3 a4 =>
     cases q with
     | tuple b1 b2 b3 b4=>rw[a1] at b1;cases b1;rw[a3] at b3;cases b3;rw[wv2 xs _ _ _ _ n a4 b4]
     | list b1 b2 b3 b4=>rw[a1] at b1;cases b1;rw[a2] at b2;exact absurd b2 (by simp)
     | dict b1 b2=>rw[a1] at b1;cases b1;rw[a2] at b2;exact absurd b2 (by simp)
theorem wv2{h:Heap}:∀ (xs ys:List PyData) (vs:List Value) (as as':List Addr),nds xs=true->ReadsAll h vs xs as->ReadsAll h vs ys as'->xs=ys
 | [],_,_,_,_,_,r,q=>by cases r;cases q;rfl
 | x :: xs,_,_,_,_,n,r,q=>by
   rw[nds,Bool.and_eq_true] at n
   cases r with
   | cons r1 r2 =>
     cases q with
     | cons q1 q2=>rw[xf4 x _ _ _ _ n.1 r1 q1,wv2 xs _ _ _ _ n.2 r2 q2]
end
mutual
theorem wq6:∀ d:PyData,nd d=true->PyData.eqv d d=true
 | .none,_=>rfl
 | .bool b,_=>by simp[PyData.eqv]
 | .int i,_=>by simp[PyData.eqv]
 | .str x,_=>by simp[PyData.eqv]
 | .list xs,h=>by rw[PyData.eqv];rw[L2.nd] at h;exact wv3 xs h
 | .tuple xs,h=>by rw[PyData.eqv];rw[L2.nd] at h;exact wv3 xs h
 | .dict _,h=>by rw[L2.nd] at h;cases h
theorem wv3:∀ xs:List PyData,nds xs=true->PyData.eqvAll xs xs=true
 | [],_=>rfl
 | x::xs,h=>by
   rw[nds,Bool.and_eq_true] at h
   rw[PyData.eqvAll,wq6 x h.1,wv3 xs h.2];rfl
end
theorem M4{h:Heap}:∀ {xs:List PyData} {vs:List Value} {as:List Addr},ReadsAll h vs xs as->vs.length=xs.length
 | [],_,_,r=>by cases r;rfl
 | _::xs,_,_,r=>by
   cases r with
   | cons _ r'=>rw[List.length_cons,List.length_cons,M4 r']
mutual
theorem yz4:∀ (da db:PyData) (A:Around) (s:Shared) (a b:Value) (as bs:List Addr),Reads s.heap a da as->Reads s.heap b db bs->nd da=true->nd db=true->A.units+min da.depth db.depth<cLine->EqAt A s a b (PyData.eqv da db)
 | .none,db,A,s,_,_,_,_,ra,rb,_,hb,hu=>by
   cases ra
   cases rb with
   | none=>exact EqAt.same _
   | bool y=>exact EqAt.none_bool y
   | int y u=>exact EqAt.none_int y u
   | str y u=>exact EqAt.none_str y u
   | list k1 k2 k3 k4=>exact EqAt.none_list ⟨_,k1,k2,_,k3⟩ (room_here hu)
   | tuple k1 k2 k3 k4=>exact EqAt.none_tuple ⟨_,k1,k2,_,k3⟩ (room_here hu)
   | dict=>rw[L2.nd] at hb;cases hb
 | .bool x,db,A,s,_,_,_,_,ra,rb,_,hb,hu=>by
   cases ra
   cases rb with
   | none=>exact EqAt.bool_none x
   | bool y=>exact EqAt.bool_bool x y
   | int y u=>exact EqAt.bool_int x y u
   | str y u=>exact EqAt.bool_str x y u
   | list k1 k2 k3 k4=>exact EqAt.bool_list x ⟨_,k1,k2,_,k3⟩ (room_here hu)
   | tuple k1 k2 k3 k4=>exact EqAt.bool_tuple x ⟨_,k1,k2,_,k3⟩ (room_here hu)
   | dict=>rw[L2.nd] at hb;cases hb
 | .int x,db,A,s,_,_,_,_,ra,rb,_,hb,hu=>by
   cases ra
   cases rb with
   | none=>exact EqAt.int_none x _
   | bool y=>exact EqAt.int_bool x _ y
   | int y u=>exact EqAt.int_int x _ y u
   | str y u=>exact EqAt.int_str x _ y u
   | list k1 k2 k3 k4=>exact EqAt.int_list x _ ⟨_,k1,k2,_,k3⟩ (room_here hu)
   | tuple k1 k2 k3 k4=>exact EqAt.int_tuple x _ ⟨_,k1,k2,_,k3⟩ (room_here hu)
   | dict=>rw[L2.nd] at hb;cases hb
 | .str x,db,A,s,_,_,_,_,ra,rb,_,hb,hu=>by
   cases ra
   cases rb with
   | none=>exact EqAt.str_none x _
   | bool y=>exact EqAt.str_bool x _ y
   | int y u=>exact EqAt.str_int x _ y u
   | str y u=>exact EqAt.str_str x _ y u
   | list k1 k2 k3 k4=>exact EqAt.str_list x _ ⟨_,k1,k2,_,k3⟩ (room_here hu)
   | tuple k1 k2 k3 k4=>exact EqAt.str_tuple x _ ⟨_,k1,k2,_,k3⟩ (room_here hu)
   | dict=>rw[L2.nd] at hb;cases hb
 | .list xs,db,A,s,_,_,_,_,ra,rb,ha,hb,hu=>by
   have ra0:=ra
   have rb0:=rb
   cases ra with
   | @list l o1 vs1 n1 xs as h1 h2 h3 h4 =>
     cases rb with
     | none=>exact EqAt.list_none ⟨_,h1,h2,_,h3⟩ (room_here hu)
     | bool y=>exact EqAt.list_bool y ⟨_,h1,h2,_,h3⟩ (room_here hu)
     | int y u=>exact EqAt.list_int y u ⟨_,h1,h2,_,h3⟩ (room_here hu)
     | str y u=>exact EqAt.list_str y u ⟨_,h1,h2,_,h3⟩ (room_here hu)
     | tuple k1 k2 k3 k4=>exact EqAt.list_tuple ⟨_,h1,h2,_,h3⟩ ⟨_,k1,k2,_,k3⟩ (room_here hu)
     | @list b o vs2 n2 ys bs k1 k2 k3 k4 =>
       by_cases e:l=b
       ·subst e
        rw[xf4 _ _ _ _ _ ha ra0 rb0,wq6 _ hb]
        exact EqAt.same _
       ·refine EqAt.of_refs e ?_
        have l1:=M4 h4
        have l2:=M4 k4
        rw[L2.nd] at ha hb
        by_cases hz:xs.length=ys.length
        ·have:=RcAt.lists (A:=A) (s:=s) (e:=pairEq xs ys) ⟨_,h1,h2,_,h3⟩ ⟨_,k1,k2,_,k3⟩ (by simp at l1 l2;omega) (room_here hu) (fun j h1 h2=>by have q:=qg0 xs ys A.in1 s _ _ _ _ h4 k4 ha hb (room_in (by rw[PyData.depth,PyData.depth] at hu;exact hu)) j (by simpa using h1) (by simpa using h2);rw[Array.getElem_toList,Array.getElem_toList] at q;exact q)
         rw[show PyData.eqv (.list xs) (.list ys)=PyData.eqvAll xs ys by rw[PyData.eqv],<-eqvAll_same_length hz]
         have e1:vs1.size=xs.length:=by simpa using l1
         rw[e1] at this
         exact this
        ·rw[show PyData.eqv (.list xs) (.list ys)=PyData.eqvAll xs ys by rw[PyData.eqv],eqvAll_other_length hz]
         exact RcAt.lists_lengths ⟨_,h1,h2,_,h3⟩ ⟨_,k1,k2,_,k3⟩ (by simp at l1 l2;simp;omega) (room_here hu)
     | dict=>rw[L2.nd] at hb;cases hb
 | .tuple xs,db,A,s,_,_,_,_,ra,rb,ha,hb,hu=>by
   have ra0:=ra
   have rb0:=rb
   cases ra with
   | @tuple l o1 vs1 n1 xs as h1 h2 h3 h4 =>
     cases rb with
     | none=>exact EqAt.tuple_none ⟨_,h1,h2,_,h3⟩ (room_here hu)
     | bool y=>exact EqAt.tuple_bool y ⟨_,h1,h2,_,h3⟩ (room_here hu)
     | int y u=>exact EqAt.tuple_int y u ⟨_,h1,h2,_,h3⟩ (room_here hu)
     | str y u=>exact EqAt.tuple_str y u ⟨_,h1,h2,_,h3⟩ (room_here hu)
     | list k1 k2 k3 k4=>exact EqAt.tuple_list ⟨_,h1,h2,_,h3⟩ ⟨_,k1,k2,_,k3⟩ (room_here hu)
     | @tuple b o vs2 n2 ys bs k1 k2 k3 k4 =>
       by_cases e:l=b
       ·subst e
        rw[xf4 _ _ _ _ _ ha ra0 rb0,wq6 _ hb]
        exact EqAt.same _
       ·refine EqAt.of_refs e ?_
        have l1:=M4 h4
        have l2:=M4 k4
        rw[L2.nd] at ha hb
        have:=RcAt.tuples (A:=A) (s:=s) (e:=pairEq xs ys) ⟨_,h1,h2,_,h3⟩ ⟨_,k1,k2,_,k3⟩ (room_here hu) (fun j h1 h2=>by have q:=qg0 xs ys A.in1 s _ _ _ _ h4 k4 ha hb (room_in (by rw[PyData.depth,PyData.depth] at hu;exact hu)) j (by simpa using h1) (by simpa using h2);rw[Array.getElem_toList,Array.getElem_toList] at q;exact q)
        rw[show PyData.eqv (.tuple xs) (.tuple ys)=PyData.eqvAll xs ys by rw[PyData.eqv],<-eqvAll_eq xs ys]
        have e1:vs1.size=xs.length:=by simpa using l1
        have e2:vs2.size=ys.length:=by simpa using l2
        rw[e1,e2] at this
        exact this
     | dict=>rw[L2.nd] at hb;cases hb
 | .dict _,_,_,_,_,_,_,_,_,_,ha,_,_=>by rw[L2.nd] at ha;cases ha
theorem qg0:∀ (xs ys:List PyData) (A:Around) (s:Shared) (us ws:List Value) (as bs:List Addr),ReadsAll s.heap us xs as->ReadsAll s.heap ws ys bs->nds xs=true->nds ys=true->A.units+min (PyData.depthAll xs) (PyData.depthAll ys)<cLine ->
 ∀ j (h1:j<us.length) (h2:j<ws.length),EqAt A s us[j] ws[j] (pairEq xs ys j)
 | [],_,_,_,_,_,_,_,r,_,_,_,_=>by cases r;intro j h1;simp at h1
 | x :: xs,ys,A,s,_,ws,_,_,r,q,ha,hb,hu=>by
   cases r with
   | @cons u us d ds as1 as2 r1 r2 =>
     cases q with
     | nil=>intro j h1 h2;simp at h2
     | @cons w ws y ys bs1 bs2 q1 q2 =>
       rw[nds,Bool.and_eq_true] at ha hb
       rw[PyData.depthAll,PyData.depthAll] at hu
       intro j h1 h2
       cases j with
       | zero=>exact yz4 x y A s u w _ _ r1 q1 ha.1 hb.1 (room_head hu)
       | succ j =>
         exact qg0 xs ys A s us ws _ _ r2 q2 ha.2 hb.2 (room_tail hu) j (by simpa using h1) (by simpa using h2)
end
variable{db:PyData}
theorem zt1{da:PyData}{a b:Value}{bs:List Addr}(ra:Reads s.heap a da as)(rb:Reads s.heap b db bs)(ha:nd da=true)(hb:nd db=true)(hu:A.units+min da.depth db.depth<cLine):RcAt A s a b (PyData.eqv da db):=by
 cases ra with
 | none =>
   cases rb with
   | none=>exact RcAt.none_none
   | bool y=>exact RcAt.none_bool y
   | int y u=>exact RcAt.none_int y u
   | str y u=>exact RcAt.none_str y u
   | @list l2 o2 ws n2 ys bs k1 k2 k3 k4=>exact RcAt.none_list ⟨_,k1,k2,_,k3⟩ (room_here hu)
   | @tuple l2 o2 ws n2 ys bs k1 k2 k3 k4=>exact RcAt.none_tuple ⟨_,k1,k2,_,k3⟩ (room_here hu)
   | dict=>rw[L2.nd] at hb;cases hb
 | bool x =>
   cases rb with
   | none=>exact RcAt.bool_none x
   | bool y=>exact RcAt.bool_bool x y
   | int y u=>exact RcAt.bool_int x y u
   | str y u=>exact RcAt.bool_str x y u
   | @list l2 o2 ws n2 ys bs k1 k2 k3 k4=>exact RcAt.bool_list x ⟨_,k1,k2,_,k3⟩ (room_here hu)
   | @tuple l2 o2 ws n2 ys bs k1 k2 k3 k4=>exact RcAt.bool_tuple x ⟨_,k1,k2,_,k3⟩ (room_here hu)
   | dict=>rw[L2.nd] at hb;cases hb
 | int x t =>
   cases rb with
   | none=>exact RcAt.int_none x t
   | bool y=>exact RcAt.int_bool x t y
   | int y u=>exact RcAt.int_int x t y u
   | str y u=>exact RcAt.int_str x t y u
   | @list l2 o2 ws n2 ys bs k1 k2 k3 k4=>exact RcAt.int_list x t ⟨_,k1,k2,_,k3⟩ (room_here hu)
   | @tuple l2 o2 ws n2 ys bs k1 k2 k3 k4=>exact RcAt.int_tuple x t ⟨_,k1,k2,_,k3⟩ (room_here hu)
   | dict=>rw[L2.nd] at hb;cases hb
 | str x t =>
   cases rb with
   | none=>exact RcAt.str_none x t
   | bool y=>exact RcAt.str_bool x t y
   | int y u=>exact RcAt.str_int x t y u
   | str y u=>exact RcAt.str_str x t y u
   | @list l2 o2 ws n2 ys bs k1 k2 k3 k4=>exact RcAt.str_list x t ⟨_,k1,k2,_,k3⟩ (room_here hu)
   | @tuple l2 o2 ws n2 ys bs k1 k2 k3 k4=>exact RcAt.str_tuple x t ⟨_,k1,k2,_,k3⟩ (room_here hu)
   | dict=>rw[L2.nd] at hb;cases hb
 | @list l o vs n xs as h1 h2 h3 h4 =>
   cases rb with
   | none=>exact RcAt.list_none ⟨_,h1,h2,_,h3⟩ (room_here hu)
   | bool y=>exact RcAt.list_bool y ⟨_,h1,h2,_,h3⟩ (room_here hu)
   | int y u=>exact RcAt.list_int y u ⟨_,h1,h2,_,h3⟩ (room_here hu)
   | str y u=>exact RcAt.list_str y u ⟨_,h1,h2,_,h3⟩ (room_here hu)
   | @list l2 o2 ws n2 ys bs k1 k2 k3 k4 =>
     have l1:vs.size=xs.length:=by simpa using M4 h4
     have l2:ws.size=ys.length:=by simpa using M4 k4
     rw[L2.nd] at ha hb
     rw[PyData.depth,PyData.depth] at hu
     have hi:∀ j (h1:j<vs.size) (h2:j<ws.size),EqAt A.in1 s vs[j] ws[j] (pairEq xs ys j):=fun j h1 h2=>by
      have q:=qg0 xs ys A.in1 s _ _ _ _ h4 k4 ha hb (room_in hu) j (by simpa using h1) (by simpa using h2)
      rw[Array.getElem_toList,Array.getElem_toList] at q
      exact q
     have hu':A.units<cLine:=room_here hu
     rw[show PyData.eqv (.list xs) (.list ys)=PyData.eqvAll xs ys by rw[PyData.eqv]]
     by_cases hz:xs.length=ys.length
     ·have q:=RcAt.lists (A:=A) (s:=s) (e:=pairEq xs ys) ⟨_,h1,h2,_,h3⟩ ⟨_,k1,k2,_,k3⟩ (by omega) hu' hi
      rw[l1,eqvAll_same_length hz] at q
      exact q
     ·rw[eqvAll_other_length hz]
      exact RcAt.lists_lengths ⟨_,h1,h2,_,h3⟩ ⟨_,k1,k2,_,k3⟩ (by simp;omega) hu'
   | @tuple l2 o2 ws n2 ys bs k1 k2 k3 k4=>exact RcAt.list_tuple ⟨_,h1,h2,_,h3⟩ ⟨_,k1,k2,_,k3⟩ (room_here hu)
   | dict=>rw[L2.nd] at hb;cases hb
 | @tuple l o vs n xs as h1 h2 h3 h4 =>
   cases rb with
   | none=>exact RcAt.tuple_none ⟨_,h1,h2,_,h3⟩ (room_here hu)
   | bool y=>exact RcAt.tuple_bool y ⟨_,h1,h2,_,h3⟩ (room_here hu)
   | int y u=>exact RcAt.tuple_int y u ⟨_,h1,h2,_,h3⟩ (room_here hu)
   | str y u=>exact RcAt.tuple_str y u ⟨_,h1,h2,_,h3⟩ (room_here hu)
   | @list l2 o2 ws n2 ys bs k1 k2 k3 k4=>exact RcAt.tuple_list ⟨_,h1,h2,_,h3⟩ ⟨_,k1,k2,_,k3⟩ (room_here hu)
   | @tuple l2 o2 ws n2 ys bs k1 k2 k3 k4 =>
     have l1:vs.size=xs.length:=by simpa using M4 h4
     have l2:ws.size=ys.length:=by simpa using M4 k4
     rw[L2.nd] at ha hb
     rw[PyData.depth,PyData.depth] at hu
     have hi:∀ j (h1:j<vs.size) (h2:j<ws.size),EqAt A.in1 s vs[j] ws[j] (pairEq xs ys j):=fun j h1 h2=>by
      have q:=qg0 xs ys A.in1 s _ _ _ _ h4 k4 ha hb (room_in hu) j (by simpa using h1) (by simpa using h2)
      rw[Array.getElem_toList,Array.getElem_toList] at q
      exact q
     have hu':A.units<cLine:=room_here hu
     rw[show PyData.eqv (.tuple xs) (.tuple ys)=PyData.eqvAll xs ys by rw[PyData.eqv]]
     have q:=RcAt.tuples (A:=A) (s:=s) (e:=pairEq xs ys) ⟨_,h1,h2,_,h3⟩ ⟨_,k1,k2,_,k3⟩ hu' hi
     rw[l1,l2,eqvAll_eq xs ys] at q
     exact q
   | dict=>rw[L2.nd] at hb;cases hb
 | dict=>rw[L2.nd] at ha;cases ha
theorem yz5{da:PyData}{a b:Value}{bs:List Addr}(ra:Reads s.heap a da as)(rb:Reads s.heap b db bs)(ha:nd da=true)(hb:nd db=true)(hu:A.units+min da.depth db.depth<cLine):RcNeAt A s a b (!PyData.eqv da db):=by
 cases ra with
 | none =>
   cases rb with
   | none=>exact RcNeAt.none_none
   | bool y=>exact RcNeAt.none_bool y
   | int y u=>exact RcNeAt.none_int y u
   | str y u=>exact RcNeAt.none_str y u
   | @list l2 o2 ws n2 ys bs k1 k2 k3 k4=>exact RcNeAt.none_list ⟨_,k1,k2,_,k3⟩ (room_here hu)
   | @tuple l2 o2 ws n2 ys bs k1 k2 k3 k4=>exact RcNeAt.none_tuple ⟨_,k1,k2,_,k3⟩ (room_here hu)
   | dict=>rw[L2.nd] at hb;cases hb
 | bool x =>
   cases rb with
   | none=>exact RcNeAt.bool_none x
   | bool y=>exact RcNeAt.bool_bool x y
   | int y u=>exact RcNeAt.bool_int x y u
   | str y u=>exact RcNeAt.bool_str x y u
   | @list l2 o2 ws n2 ys bs k1 k2 k3 k4=>exact RcNeAt.bool_list x ⟨_,k1,k2,_,k3⟩ (room_here hu)
   | @tuple l2 o2 ws n2 ys bs k1 k2 k3 k4=>exact RcNeAt.bool_tuple x ⟨_,k1,k2,_,k3⟩ (room_here hu)
   | dict=>rw[L2.nd] at hb;cases hb
 | int x t =>
   cases rb with
   | none=>exact RcNeAt.int_none x t
   | bool y=>exact RcNeAt.int_bool x t y
   | int y u=>exact RcNeAt.int_int x t y u
   | str y u=>exact RcNeAt.int_str x t y u
   | @list l2 o2 ws n2 ys bs k1 k2 k3 k4=>exact RcNeAt.int_list x t ⟨_,k1,k2,_,k3⟩ (room_here hu)
   | @tuple l2 o2 ws n2 ys bs k1 k2 k3 k4=>exact RcNeAt.int_tuple x t ⟨_,k1,k2,_,k3⟩ (room_here hu)
   | dict=>rw[L2.nd] at hb;cases hb
 | str x t =>
   cases rb with
   | none=>exact RcNeAt.str_none x t
   | bool y=>exact RcNeAt.str_bool x t y
   | int y u=>exact RcNeAt.str_int x t y u
   | str y u=>exact RcNeAt.str_str x t y u
   | @list l2 o2 ws n2 ys bs k1 k2 k3 k4=>exact RcNeAt.str_list x t ⟨_,k1,k2,_,k3⟩ (room_here hu)
   | @tuple l2 o2 ws n2 ys bs k1 k2 k3 k4=>exact RcNeAt.str_tuple x t ⟨_,k1,k2,_,k3⟩ (room_here hu)
   | dict=>rw[L2.nd] at hb;cases hb
 | @list l o vs n xs as h1 h2 h3 h4 =>
   cases rb with
   | none=>exact RcNeAt.list_none ⟨_,h1,h2,_,h3⟩ (room_here hu)
   | bool y=>exact RcNeAt.list_bool y ⟨_,h1,h2,_,h3⟩ (room_here hu)
   | int y u=>exact RcNeAt.list_int y u ⟨_,h1,h2,_,h3⟩ (room_here hu)
   | str y u=>exact RcNeAt.list_str y u ⟨_,h1,h2,_,h3⟩ (room_here hu)
   | @list l2 o2 ws n2 ys bs k1 k2 k3 k4 =>
     have l1:vs.size=xs.length:=by simpa using M4 h4
     have l2:ws.size=ys.length:=by simpa using M4 k4
     rw[L2.nd] at ha hb
     rw[PyData.depth,PyData.depth] at hu
     have hi:∀ j (h1:j<vs.size) (h2:j<ws.size),EqAt A.in1 s vs[j] ws[j] (pairEq xs ys j):=fun j h1 h2=>by
      have q:=qg0 xs ys A.in1 s _ _ _ _ h4 k4 ha hb (room_in hu) j (by simpa using h1) (by simpa using h2)
      rw[Array.getElem_toList,Array.getElem_toList] at q
      exact q
     have hu':A.units<cLine:=room_here hu
     rw[show PyData.eqv (.list xs) (.list ys)=PyData.eqvAll xs ys by rw[PyData.eqv]]
     by_cases hz:xs.length=ys.length
     ·have q:=RcNeAt.lists (A:=A) (s:=s) (e:=pairEq xs ys) ⟨_,h1,h2,_,h3⟩ ⟨_,k1,k2,_,k3⟩ (by omega) hu' hi
      rw[l1,eqvAll_same_length hz] at q
      exact q
     ·rw[eqvAll_other_length hz]
      exact RcNeAt.lists_lengths ⟨_,h1,h2,_,h3⟩ ⟨_,k1,k2,_,k3⟩ (by simp;omega) hu'
   | @tuple l2 o2 ws n2 ys bs k1 k2 k3 k4=>exact RcNeAt.list_tuple ⟨_,h1,h2,_,h3⟩ ⟨_,k1,k2,_,k3⟩ (room_here hu)
   | dict=>rw[L2.nd] at hb;cases hb
 | @tuple l o vs n xs as h1 h2 h3 h4 =>
   cases rb with
   | none=>exact RcNeAt.tuple_none ⟨_,h1,h2,_,h3⟩ (room_here hu)
   | bool y=>exact RcNeAt.tuple_bool y ⟨_,h1,h2,_,h3⟩ (room_here hu)
   | int y u=>exact RcNeAt.tuple_int y u ⟨_,h1,h2,_,h3⟩ (room_here hu)
   | str y u=>exact RcNeAt.tuple_str y u ⟨_,h1,h2,_,h3⟩ (room_here hu)
   | @list l2 o2 ws n2 ys bs k1 k2 k3 k4=>exact RcNeAt.tuple_list ⟨_,h1,h2,_,h3⟩ ⟨_,k1,k2,_,k3⟩ (room_here hu)
   | @tuple l2 o2 ws n2 ys bs k1 k2 k3 k4 =>
     have l1:vs.size=xs.length:=by simpa using M4 h4
     have l2:ws.size=ys.length:=by simpa using M4 k4
     rw[L2.nd] at ha hb
     rw[PyData.depth,PyData.depth] at hu
     have hi:∀ j (h1:j<vs.size) (h2:j<ws.size),EqAt A.in1 s vs[j] ws[j] (pairEq xs ys j):=fun j h1 h2=>by
      have q:=qg0 xs ys A.in1 s _ _ _ _ h4 k4 ha hb (room_in hu) j (by simpa using h1) (by simpa using h2)
      rw[Array.getElem_toList,Array.getElem_toList] at q
      exact q
     have hu':A.units<cLine:=room_here hu
     rw[show PyData.eqv (.tuple xs) (.tuple ys)=PyData.eqvAll xs ys by rw[PyData.eqv]]
     have q:=RcNeAt.tuples (A:=A) (s:=s) (e:=pairEq xs ys) ⟨_,h1,h2,_,h3⟩ ⟨_,k1,k2,_,k3⟩ hu' hi
     rw[l1,l2,eqvAll_eq xs ys] at q
     exact q
   | dict=>rw[L2.nd] at hb;cases hb
 | dict=>rw[L2.nd] at ha;cases ha
theorem qp0{k:Nat}(r:qk8 k A):A.units+190<cLine:=by have:=r.un;omega
def qg1(K:Fg):R2:=fun x y H Q=>rEq x y H Q\/∃ d e,Dv K H d x/\Dv K H e y/\min d.depth e.depth<=190/\Q (.bl (PyData.eqv d e)) H
def xs3(K:Fg):R2:=fun x y H Q=>rNe x y H Q\/∃ d e,Dv K H d x/\Dv K H e y/\min d.depth e.depth<=190/\Q (.bl (!PyData.eqv d e)) H
theorem U1(hu:X.A.units+190<cLine):OpR X (compareOp .Eq) (qg1 X.K):=by
 refine zx8.or ?_
 intro pins s σ H x y v u Q I rx ry h
 obtain⟨d,e,hx,hy,hz,q⟩:=h
 obtain⟨as,ra⟩:=Dv.reads I d x v hx rx
 obtain⟨bs,rb⟩:=Dv.reads I e y u hy ry
 have hroom:X.A.units+min d.depth e.depth<cLine:=Nat.lt_of_le_of_lt (Nat.add_le_add_left hz _) hu
 exact zt1 ra rb (Dv.nd d x hx) (Dv.nd e y hy) hroom X.prog X.w X.xe _ ⟨.bl _,H,I,rfl,q⟩
theorem yh6(hu:X.A.units+190<cLine):OpR X (compareOp .NotEq) (xs3 X.K):=by
 refine zx9.or ?_
 intro pins s σ H x y v u Q I rx ry h
 obtain⟨d,e,hx,hy,hz,q⟩:=h
 obtain⟨as,ra⟩:=Dv.reads I d x v hx rx
 obtain⟨bs,rb⟩:=Dv.reads I e y u hy ry
 have hroom:X.A.units+min d.depth e.depth<cLine:=Nat.lt_of_le_of_lt (Nat.add_le_add_left hz _) hu
 exact yz5 ra rb (Dv.nd d x hx) (Dv.nd e y hy) hroom X.prog X.w X.xe _ ⟨.bl _,H,I,rfl,q⟩
def J0(K:Fg):R2:=fun x y H Q=>rI0 (fun i j=>.int (i+j)) x y H Q\/(∃ i j,x=.str i/\y=.str j/\i.length+j.length<=sizeLine/\Q (.str (i++j)) H)\/zz0 x y H Q\/zo8 K x y H Q
theorem C6:OpR X (binaryOp .Add) (J0 X.K):=zr6.or (yg0.or (zs4.or zi5))
def zp1:R2:=fun x y H Q=>∃ z n,x=.str z/\y=.int n/\0<=n/\n<=1000/\z.length<=1000/\Q (.str (PySem.Txt.mul z n)) H
theorem yh7:OpR X (binaryOp .Mult) zp1:=by
 intro pins s σ H x y v u Q I rx ry h
 obtain⟨z,n,rfl,rfl,h0,h1,h2,q⟩:=h
 obtain⟨t,rfl⟩:=rx
 obtain⟨t',rfl⟩:=ry
 refine wpAny_with_toks (n:=1) I.tk (SB.mul ⟨?_,fun hn _=>?_,fun hn _=>?_⟩ fun t' k ht=>⟨.str _,H,I.tok _ ht,⟨_,rfl⟩,q⟩)
 ·rw[decide_eq_false (by omega),decide_eq_false (by omega)];rfl
 ·have e1:(2 ^ 63-1:Int) / n>=(2 ^ 63-1) / 1000:=by
   have hp:(0:Int)<n:=by omega
   apply Int.le_ediv_of_mul_le hp
   have:(2 ^ 63-1:Int) / 1000*n<=(2 ^ 63-1) / 1000*1000:=Int.mul_le_mul_of_nonneg_left h1 (by decide)
   have e:(2 ^ 63-1:Int) / 1000*1000<=2 ^ 63-1:=by decide
   omega
  have e2:(2 ^ 63-1:Int) / 1000>=1000:=by decide
  omega
 ·have:z.length*n.toNat<=1000*1000:=Nat.mul_le_mul h2 (by omega)
  have hs:sizeLine=16777216:=sizeLine_eq
  unfold Builtin.Str.tooLong
  exact decide_eq_false (by omega)
def qr1:R2:=fun x y H Q=>rI yf8 (fun i j=>.int (i*j)) x y H Q\/zp1 x y H Q\/zz1 x y H Q
theorem qe5:OpR X (binaryOp .Mult) qr1:=zr7.or (yh7.or zs5)
def Ad1:R2:=fun x y H Q=>∃ i j:Str,x=.str i/\y=.str j/\Q (.bl (decide (i.cps.toList<j.cps.toList))) H
def zz7:R2:=fun x y H Q=>∃ i j:Str,x=.str i/\y=.str j/\Q (.bl (!decide (j.cps.toList<i.cps.toList))) H
def zz8:R2:=fun x y H Q=>∃ i j:Str,x=.str i/\y=.str j/\Q (.bl (decide (j.cps.toList<i.cps.toList))) H
def zz9:R2:=fun x y H Q=>∃ i j:Str,x=.str i/\y=.str j/\Q (.bl (!decide (i.cps.toList<j.cps.toList))) H
theorem yt3:OpR X (compareOp .LtE) zz7:=by
 intro pins s σ H x y v u Q I rx ry h
 obtain⟨i,j,rfl,rfl,q⟩:=h
 obtain⟨t,rfl⟩:=rx
 obtain⟨t',rfl⟩:=ry
 exact PySem.P.le_str ⟨.bl _,H,I,rfl,q⟩
theorem yt4:OpR X (compareOp .Gt) zz8:=by
 intro pins s σ H x y v u Q I rx ry h
 obtain⟨i,j,rfl,rfl,q⟩:=h
 obtain⟨t,rfl⟩:=rx
 obtain⟨t',rfl⟩:=ry
 exact PySem.P.gt_str ⟨.bl _,H,I,rfl,q⟩
theorem yt5:OpR X (compareOp .GtE) zz9:=by
 intro pins s σ H x y v u Q I rx ry h
 obtain⟨i,j,rfl,rfl,q⟩:=h
 obtain⟨t,rfl⟩:=rx
 obtain⟨t',rfl⟩:=ry
 exact PySem.P.ge_str ⟨.bl _,H,I,rfl,q⟩
def xs4:R2:=fun x y H Q=>rI0 (fun i j=>.bl (decide (i<j))) x y H Q\/Ad1 x y H Q
def yh8:R2:=fun x y H Q=>rI0 (fun i j=>.bl (decide (i<=j))) x y H Q\/zz7 x y H Q
def wv4:R2:=fun x y H Q=>rI0 (fun i j=>.bl (decide (j<i))) x y H Q\/zz8 x y H Q
def zj6:R2:=fun x y H Q=>rI0 (fun i j=>.bl (decide (j<=i))) x y H Q\/zz9 x y H Q
theorem wv5:OpR X (compareOp .Lt) xs4:=zy0.or ys1
theorem xs5:OpR X (compareOp .LtE) yh8:=zy1.or yt3
theorem qr2:OpR X (compareOp .Gt) wv4:=zy2.or yt4
theorem zt2:OpR X (compareOp .GtE) zj6:=zy3.or yt5
def Ad2(neg:Bool):R2:=fun x y H Q=>∃ i j:Str,x=.str i/\y=.str j/\Q (.bl (if neg then !(!(Builtin.Str.occurrences j i 0 j.length 1).isEmpty) else !(Builtin.Str.occurrences j i 0 j.length 1).isEmpty)) H
def yz6(K:Fg)(neg:Bool):R2:=fun x y H Q=>rIn K neg x y H Q\/Ad2 neg x y H Q
theorem zt3:OpR X (compareOp .In) (yz6 X.K false):=ys9.or ys2
theorem yt6:OpR X (compareOp .NotIn) (yz6 X.K true):=xr7.or xr8
def xz1:R2:=fun x y H Q=>y=.non/\Q (.bl (decide (x=.non))) H
def wj1:R2:=fun x y H Q=>y=.non/\Q (.bl (!decide (x=.non))) H
theorem wn6:OpR X (compareOp .Is) xz1:=zr8
theorem qy2:OpR X (compareOp .IsNot) wj1:=zh9
def O6(K:Fg):List V->Hp->VK->Prop:=fun xs H Q=>(∃ p ys,xs=[.ref p]/\(SqL K H p ys\/SqT K H p ys)/\Q (.int ys.length) H)\/(∃ z,xs=[.str z]/\z.length<=sizeLine/\Q (.int z.length) H) \/
 ∃ a kvs,xs=[V.ref a]/\H a=some (.dK kvs)/\Q (.int kvs.length) H
theorem E4:qm5 X (.builtin "len") (O6 X.K):=xr9.or (xs0.or yt2)
def qp1(K:Fg):List V->Hp->VK->Prop:=fun xs H Q=>∃ p ys,xs=[.ref p]/\((SqL K H p ys/\∀ l,H l=none->Q (.ref l) (upd H l (.tup ys)))\/(SqT K H p ys/\Q (.ref p) H))
theorem W2:qm5 X (.type "tuple") (qp1 X.K):=xl2
def yz7:List V->Hp->VK->Prop:=fun xs H Q=>(∃ i,xs=[.int i]/\Q (.int i) H)\/∃ k,xs=[.bl k]/\Q (.int (if k then 1 else 0)) H
theorem xp1:qm5 X (.type "int") yz7:=ys3
theorem xf5:∀ {xs:List Str} {us:List Value},L1 (C1 xs) us->StrsAre us xs
 | [],_,h=>by cases h;exact .nil
 | x :: xs,_,h=>by
   have h:L1 (V.str x::C1 xs) _:=h
   cases h with
   | cons r t =>
     obtain⟨t',rfl⟩:=r
     exact .cons x t' (xf5 t)
def zp2(K:Fg):V->List V->Hp->VK->Prop:=fun x vs H Q=>∃ z p ys,x=.str z/\vs=[.ref p]/\(SqL K H p (C1 ys)\/SqT K H p (C1 ys))/\(ys.map (·.length)).sum+ys.length*z.length<=16777216/\Q (.str (PySem.Txt.join z ys)) H
theorem zj7:MtR X "str.join" (zp2 X.K):=by
 intro pins s σ H x vs v us Q I rx rv h
 obtain⟨z,p,ys,rfl,rfl,hq,hs,q⟩:=h
 obtain⟨t,rfl⟩:=rx
 obtain⟨u,rfl,ru⟩:=rv.one
 cases ru
 rcases hq with hq|hq
 ·obtain⟨its,r,pl,hz⟩:=I.list hq
  exact wpAny_with_toks (n:=1) I.tk (join_list pl.isList (by simpa using xf5 r) hs fun t' k ht=>⟨.str _,H,I.tok _ ht,⟨_,rfl⟩,q⟩)
 ·obtain⟨its,r,pl,hz⟩:=I.tuple hq
  exact wpAny_with_toks (n:=1) I.tk (join_tuple pl (by simpa using xf5 r) hs fun t' k ht=>⟨.str _,H,I.tok _ ht,⟨_,rfl⟩,q⟩)
def wf8(K:Fg)(tl:TE):TI:=fun σ H R=>tl σ H fun x H1=>∃ a,x=.ref a/\(((∃ xs,SqL K H1 a xs)/\R (Itl K a) H1)\/((∃ xs,SqT K H1 a xs)/\R (Itt K a) H1))
variable{tl:TE}
theorem qg2{tg l:Expr}(hl:PE X l tl):PI X tg l (wf8 X.K tl):=by
 intro pins s σ H R I h
 refine thn (hl pins s σ H _ I h) fun v s1 zq=>?_
 obtain⟨x,H1,I1,r1,q1⟩:=zq
 obtain⟨a,e,q⟩:=q1
 subst e
 cases r1
 rcases q with⟨⟨xs,hq⟩,q⟩|⟨⟨xs,hq⟩,q⟩
 ·obtain⟨its,rv,p,hz⟩:=I1.list hq
  refine wpAny_pyIter_list p.isList ?_
  refine⟨s1.heap.objs.size,[s1.heap.objs.size],_,_,H1,rfl,I1.kept (t':=s1.toks) fun b o e=>Heap.get?_push_of_some _ e,yr8 a _,⟨_,Heap.get?_push_size _ rfl,rfl,rfl⟩,fun b hb=>?_,q⟩
  have e:b=s1.heap.objs.size:=by simpa using hb
  subst e
  exact I1.fpOk (Nat.le_refl _) (I1.hok.fresh (Nat.le_refl _))
 ·obtain⟨its,rv,p,hz⟩:=I1.tuple hq
  refine wpAny_pyIter_tuple (show s1.heap.IsTuple a its.toArray from p) ?_
  refine⟨s1.heap.objs.size,[s1.heap.objs.size],_,_,H1,rfl,I1.kept (t':=s1.toks) fun b o e=>Heap.get?_push_of_some _ e,yf6 a _,⟨_,Heap.get?_push_size _ rfl,rfl,rfl⟩,fun b hb=>?_,q⟩
  have e:b=s1.heap.objs.size:=by simpa using hb
  subst e
  exact I1.fpOk (Nat.le_refl _) (I1.hok.fresh (Nat.le_refl _))
theorem yz8 (h:wi σ H fun J H1=>∃ W:Nat->Nat->St->Hp->Prop,(∃ m,W 0 m σ H1)/\∀ i m σ H,W i m σ H ->
 (J.stop i H/\D.nx σ H)\/(J.go i H/\∃ N:St->Hp->Prop,(∀ σ' H',N σ' H'->∃ m',m'<m/\W (i+1) m' σ' H')/\∀ x H',J.yld i H x H'->g x σ H' fun σ2 H2=>tb {D with nx:=N,ct:=N,bk:=D.nx} σ2 H2)):qx9 wi g tb D σ H:=h
abbrev wq7(g:TG)(tb:TS)(D:qf7)(σ:St)(J:It)(H1:Hp):Prop:=∃ W:Nat->Nat->St->Hp->Prop,(∃ m,W 0 m σ H1)/\∀ i m σ H,W i m σ H ->
 (J.stop i H/\D.nx σ H)\/(J.go i H/\∃ N:St->Hp->Prop,(∀ σ' H',N σ' H'->∃ m',m'<m/\W (i+1) m' σ' H')/\∀ x H',J.yld i H x H'->g x σ H' fun σ2 H2=>tb {D with nx:=N,ct:=N,bk:=D.nx} σ2 H2)
theorem yn4(hq:SqL K H a xs\/SqT K H a xs)(Pv:Nat->St->Hp->Prop)(h0:Pv 0 σ H)(hl:SqL K H a xs->∀ i σ H,i<=xs.length->Pv i σ H->SqL K H a xs)(ht:SqT K H a xs->∀ i σ H,i<=xs.length->Pv i σ H->SqT K H a xs)(hs:∀ i x σ H,xs[i]?=some x->Pv i σ H->g x σ H fun σ2 H2=>tb {D with nx:=PAt Pv (i+1),ct:=PAt Pv (i+1),bk:=D.nx} σ2 H2)(hd:∀ σ H,Pv xs.length σ H->D.nx σ H) :
 ∃ b,V.ref a=.ref b/\(((∃ xs,SqL K H b xs)/\wq7 g tb D σ (Itl K b) H)\/((∃ xs,SqT K H b xs)/\wq7 g tb D σ (Itt K b) H)):=by
 refine⟨a,rfl,?_⟩
 rcases hq with hq|hq
 ·exact .inl ⟨⟨xs,hq⟩,xe4 Pv h0 (hl hq) hs hd⟩
 ·exact .inr ⟨⟨xs,hq⟩,xr3 Pv h0 (ht hq) hs hd⟩
theorem xz2{n:Int}(h0:0<=n)(hn:n<2 ^ 62)(Pv:Nat->St->Hp->Prop)(p0:Pv 0 σ H)(hs:∀ (i:Nat) σ H,(i:Int)<n->Pv i σ H->g (.int i) σ H fun σ2 H2=>tb {D with nx:=PAt Pv (i+1),ct:=PAt Pv (i+1),bk:=D.nx} σ2 H2)(hd:∀ σ H,Pv n.toNat σ H->D.nx σ H) :
 ∃ j:Int,[V.int n]=[.int j]/\-(2 ^ 62)<=j/\j<2 ^ 62/\wq7 g tb D σ (Itr 0 j.toNat) H :=
 ⟨n,rfl,by omega,hn,xo0 (lo:=0) (n:=n.toNat) Pv p0 (fun i σ H hi p=>by rw[Int.zero_add];exact hs i σ H (by omega) p) hd⟩
theorem yz9{lo hi:Int}(h1:-(2 ^ 62)<=lo)(h2:lo<=hi)(h3:hi<2 ^ 62)(Pv:Nat->St->Hp->Prop)(p0:Pv 0 σ H)(hs:∀ (i:Nat) σ H,lo+i<hi->Pv i σ H->g (.int (lo+i)) σ H fun σ2 H2=>tb {D with nx:=PAt Pv (i+1),ct:=PAt Pv (i+1),bk:=D.nx} σ2 H2)(hd:∀ σ H,Pv (hi-lo).toNat σ H->D.nx σ H) :
 ∃ i j:Int,[V.int lo,V.int hi]=[.int i,.int j]/\(-(2 ^ 62)<=i/\i<2 ^ 62/\-(2 ^ 62)<=j/\j<2 ^ 62)/\wq7 g tb D σ (Itr i (j-i).toNat) H :=
 ⟨lo,hi,rfl,⟨h1,by omega,by omega,h3⟩,xo0 (lo:=lo) (n:=(hi-lo).toNat) Pv p0 (fun i σ H hi p=>hs i σ H (by omega) p) hd⟩
abbrev wl8(g:TG)(tt:TT)(te:TE)(σ':St)(Q:VK)(J:It)(H1:Hp):Prop:=∃ W:Nat->Nat->List V->Hp->Prop,(∃ m,W 0 m [] H1)/\∀ i m ys H,W i m ys H->ys.length<=sizeLine /\
 ((J.stop i H/\∀ p,H p=none->Q (.ref p) (upd H p (.lst ys))) \/
  (J.go i H/\∃ NN:List V->Hp->Prop,(∀ ys' H',NN ys' H'->∃ m',m'<m/\W (i+1) m' ys' H')/\∀ x H',J.yld i H x H'->g x σ' H' fun σ2 H2=>tt σ2 H2 fun b H3 =>
   if b=true then te σ2 H3 fun y H4=>NN (ys++[y]) H4 else NN ys H3))
theorem zj8{Q:VK}(h:wi σ H (wl8 g tt te (wf7 fr σ) Q)):wl7 fr wi g tt te σ H Q:=h
variable{σ':St}
theorem xd4{Q:VK}(item:Nat->V->Prop)(Pv:Nat->List V->Hp->Prop)(h0:Pv 0 [] H)(hlen:∀ i ys H,i<=n->Pv i ys H->ys.length<=sizeLine)(hgo:∀ i ys H,i<n->Pv i ys H->J.go i H)(hy:∀ i ys H x H',i<n->Pv i ys H->J.yld i H x H'->H'=H/\item i x)(hst:∀ ys H,Pv n ys H->J.stop n H)(hs:∀ i x ys H,i<n->item i x->Pv i ys H->g x σ' H fun σ2 H2=>tt σ2 H2 fun b H3=>if b=true then te σ2 H3 fun y H4=>PAt Pv (i+1) (ys++[y]) H4 else PAt Pv (i+1) ys H3)(hd:∀ ys H,Pv n ys H->∀ p,H p=none->Q (.ref p) (upd H p (.lst ys))):wl8 g tt te σ' Q J H:=by
 refine⟨fun i m ys H=>m=n-i/\i<=n/\Pv i ys H,⟨n,by simp,Nat.zero_le _,h0⟩,?_⟩
 rintro i m ys H ⟨rfl,hi,p⟩
 refine⟨hlen i ys H hi p,?_⟩
 by_cases hlt:i<n
 ·refine .inr ⟨hgo i ys H hlt p,Pv (i+1),fun ys' H' q=>⟨n-(i+1),by omega,rfl,hlt,q⟩,fun x H' y=>?_⟩
  obtain⟨rfl,hx⟩:=hy i ys H x H' hlt p y
  exact hs i x ys _ hlt hx p
 ·have e:i=n:=by omega
  subst e
  exact .inl ⟨hst ys H p,hd ys H p⟩
theorem xz3{Q:VK}(hq:SqL K H a xs\/SqT K H a xs)(Pv:Nat->List V->Hp->Prop)(h0:Pv 0 [] H)(hlen:∀ i ys H,i<=xs.length->Pv i ys H->ys.length<=sizeLine)(hl:SqL K H a xs->∀ i ys H,i<=xs.length->Pv i ys H->SqL K H a xs)(ht:SqT K H a xs->∀ i ys H,i<=xs.length->Pv i ys H->SqT K H a xs)(hs:∀ i x ys H,xs[i]?=some x->Pv i ys H->g x σ' H fun σ2 H2=>tt σ2 H2 fun b H3=>if b=true then te σ2 H3 fun y H4=>PAt Pv (i+1) (ys++[y]) H4 else PAt Pv (i+1) ys H3)(hd:∀ ys H,Pv xs.length ys H->∀ p,H p=none->Q (.ref p) (upd H p (.lst ys))) :
 ∃ b,V.ref a=.ref b/\(((∃ xs,SqL K H b xs)/\wl8 g tt te σ' Q (Itl K b) H)\/((∃ xs,SqT K H b xs)/\wl8 g tt te σ' Q (Itt K b) H)):=by
 refine⟨a,rfl,?_⟩
 have get:∀ i,i<xs.length->∃ x,xs[i]?=some x:=fun i hi=>⟨xs[i],by simp[hi]⟩
 rcases hq with hq|hq
 ·refine .inl ⟨⟨xs,hq⟩,xd4 (n:=xs.length) (fun i x=>xs[i]?=some x) Pv h0 hlen (fun i ys H hi p=>?_) (fun i ys H x H' hi p y=>?_) (fun ys H p=>?_) (fun i x ys H _ hx p=>hs i x ys H hx p) hd⟩
  ·obtain⟨x,hx⟩:=get i hi
   exact⟨xs,x,hl hq i ys H (Nat.le_of_lt hi) p,hx⟩
  ·exact⟨y.1,y.2 xs (hl hq i ys H (Nat.le_of_lt hi) p)⟩
  ·exact⟨xs,hl hq _ ys H (Nat.le_refl _) p,Nat.le_refl _⟩
 ·refine .inr ⟨⟨xs,hq⟩,xd4 (n:=xs.length) (fun i x=>xs[i]?=some x) Pv h0 hlen (fun i ys H hi p=>?_) (fun i ys H x H' hi p y=>?_) (fun ys H p=>?_) (fun i x ys H _ hx p=>hs i x ys H hx p) hd⟩
  ·obtain⟨x,hx⟩:=get i hi
   exact⟨xs,x,ht hq i ys H (Nat.le_of_lt hi) p,hx⟩
  ·exact⟨y.1,y.2 xs (ht hq i ys H (Nat.le_of_lt hi) p)⟩
  ·exact⟨xs,ht hq _ ys H (Nat.le_refl _) p,Nat.le_refl _⟩
theorem xp2{Q:VK}(hq:SqL K H a xs)(Pv:Nat->List V->Hp->Prop)(h0:Pv 0 [] H)(hlen:∀ i ys H,i<=xs.length->Pv i ys H->ys.length<=sizeLine)(hl:∀ i ys H,i<=xs.length->Pv i ys H->SqL K H a xs)(hs:∀ i x ys H,xs[i]?=some x->Pv i ys H->g x σ' H fun σ2 H2=>tt σ2 H2 fun b H3=>if b=true then te σ2 H3 fun y H4=>PAt Pv (i+1) (ys++[y]) H4 else PAt Pv (i+1) ys H3)(hd:∀ ys H,Pv xs.length ys H->∀ p,H p=none->Q (.ref p) (upd H p (.lst ys))) :
 ∃ b,V.ref a=.ref b/\(((∃ xs,SqL K H b xs)/\wl8 g tt te σ' Q (Itl K b) H)\/((∃ xs,SqT K H b xs)/\wl8 g tt te σ' Q (Itt K b) H)):=by
 refine⟨a,rfl,.inl ⟨⟨xs,hq⟩,xd4 (n:=xs.length) (fun i x=>xs[i]?=some x) Pv h0 hlen (fun i ys H hi p=>?_) (fun i ys H x H' hi p y=>?_) (fun ys H p=>?_) (fun i x ys H _ hx p=>hs i x ys H hx p) hd⟩⟩
 ·exact⟨xs,xs[i],hl i ys H (Nat.le_of_lt hi) p,by simp[hi]⟩
 ·exact⟨y.1,y.2 xs (hl i ys H (Nat.le_of_lt hi) p)⟩
 ·exact⟨xs,hl _ ys H (Nat.le_refl _) p,Nat.le_refl _⟩
theorem wf9(hq:SqL K H a xs)(Pv:Nat->St->Hp->Prop)(h0:Pv 0 σ H)(hl:∀ i σ H,i<=xs.length->Pv i σ H->SqL K H a xs)(hs:∀ i x σ H,xs[i]?=some x->Pv i σ H->g x σ H fun σ2 H2=>tb {D with nx:=PAt Pv (i+1),ct:=PAt Pv (i+1),bk:=D.nx} σ2 H2)(hd:∀ σ H,Pv xs.length σ H->D.nx σ H) :
 ∃ b,V.ref a=.ref b/\(((∃ xs,SqL K H b xs)/\wq7 g tb D σ (Itl K b) H)\/((∃ xs,SqT K H b xs)/\wq7 g tb D σ (Itt K b) H)) :=
 ⟨a,rfl,.inl ⟨⟨xs,hq⟩,xe4 Pv h0 hl hs hd⟩⟩
section
variable{Q:VK}
theorem qg3{t u:TS}(h:t {D with nx:=u D} σ H):C0 t u D σ H:=h
theorem yn5(h:D.nx σ H):O5 D σ H:=h
theorem yh9(h:te σ H fun x H1=>g x σ H1 D.nx):E9 te g D σ H:=h
theorem L3{i:Nat}{R:St->Hp->Prop}(h:R (σ.set i (some v)) H):B2 i v σ H R:=h
theorem wg0{i:Nat}(e:σ[i]?=some (some v))(h:Q v H):A3 i σ H Q:=⟨v,e,h⟩
theorem za0(h:Q v H):tC v σ H Q:=h
theorem xz4{r:R2}{tb:TE}(h:ta σ H fun x H1=>tb σ H1 fun y H2=>r x y H2 Q):tOp r ta tb σ H Q:=h
theorem Aa0{r:V->Hp->VK->Prop}(h:ta σ H fun x H1=>r x H1 Q):tUn r ta σ H Q:=h
theorem zt4(h:te σ H D.rt):M0 te D σ H:=h
theorem zj9(h:D.rt .non H):ym2 D σ H:=h
theorem zk0(h:te σ H fun _ H1=>D.nx σ H1):L7 te D σ H:=h
theorem za1{c:TT}{t u:TS}(h:c σ H fun b H1=>if b=true then t D σ H1 else u D σ H1):T2 c t u D σ H:=h
theorem zt5{c:TT}{tb:TE}(h:c σ H fun b H1=>if b=true then ta σ H1 Q else tb σ H1 Q):tIf c ta tb σ H Q:=h
theorem xs6{t:TE}{R:Bool->Hp->Prop}(h:t σ H fun x H'=>∃ k,x=.bl k/\R k H'):L0 t σ H R:=h
theorem Aa1{t:TE}{R:Bool->Hp->Prop}(h:t σ H fun x H'=>∃ k,x=.bl k/\R k H'):tB t σ H R:=h
theorem yn6{b:Bool}{R:Bool->Prop}(h:R b):∃ k,V.bl b=.bl k/\R k:=⟨b,rfl,h⟩
theorem za2{t u:TT}{R:Bool->Hp->Prop}(h:t σ H fun c H1=>if c=true then u σ H1 R else R false H1):xb4 t u σ H R:=h
theorem Aa2{t u:TT}{R:Bool->Hp->Prop}(h:t σ H fun c H1=>if c=true then R true H1 else u σ H1 R):tOr t u σ H R:=h
theorem za3{t:TT}{R:Bool->Hp->Prop}(h:t σ H fun c H1=>R (!c) H1):yr7 t σ H R:=h
theorem zk1{tb:TE}(h:ta σ H fun x H1=>∃ c,x=.bl c/\if c=true then tb σ H1 Q else Q (.bl false) H1):ym1 ta tb σ H Q:=h
theorem zk2(h:ta σ H fun x H1=>∃ c,x=.bl c/\Q (.bl (!c)) H1):yw7 ta σ H Q:=h
theorem za4{R:List V->Hp->Prop}(h:R [] H):B0 σ H R:=h
theorem yn7{tr:TA}{R:List V->Hp->Prop}(h:ta σ H fun x H1=>tr σ H1 fun xs H2=>R (x::xs) H2):A2 ta tr σ H R:=h
theorem zt6(h:t σ H fun xs H1=>xs.length<=sizeLine/\∀ p,H1 p=none->Q (.ref p) (upd H1 p (.tup xs))):M2 t σ H Q:=h
theorem zt7(h:t σ H fun xs H1=>xs.length<=sizeLine/\∀ p,H1 p=none->Q (.ref p) (upd H1 p (.lst xs))):qd5 t σ H Q:=h
theorem zk3{E:XK}(h:t σ H fun vs H1=>sp (vs++dvs) H1 Q E):E2 sp dvs E t σ H Q:=h
theorem zp3{r:List V->Hp->VK->Prop}(h:t σ H fun vs H1=>r vs H1 Q):tCB r t σ H Q:=h
theorem Aa3{R:Bool->Hp->Prop}(h:R true H):tTT σ H R:=h
theorem za5(h:D.bk σ H):yf2 D σ H:=h
theorem za6(h:tl σ H fun x H1=>∃ a,x=.ref a/\(((∃ xs,SqL K H1 a xs)/\R (Itl K a) H1)\/((∃ xs,SqT K H1 a xs)/\R (Itt K a) H1))):wf8 K tl σ H R:=h
theorem zk4{ta:TA}(h:ta σ H fun vs H1=>∃ j:Int,vs=[.int j]/\-(2 ^ 62)<=j/\j<2 ^ 62/\R (Itr 0 j.toNat) H1):ym4 ta σ H R:=h
theorem zk5{ta:TA}(h:ta σ H fun vs H1=>∃ i j:Int,vs=[.int i,.int j]/\(-(2 ^ 62)<=i/\i<2 ^ 62/\-(2 ^ 62)<=j/\j<2 ^ 62)/\R (Itr i (j-i).toNat) H1):yx3 ta σ H R:=h
theorem zt8{t:yx1}{R:St->Hp->Prop}(h:to σ H fun o H1=>ti σ H1 fun i H2=>t o i v H2 fun H3=>R σ H3):yx2 to ti t v σ H R:=h
theorem Aa4{r:V->List V->Hp->VK->Prop}(h:to σ H fun x H1=>tyV K T x H1/\t σ H1 fun xs H2=>r x xs H2 Q):tBM K T r to t σ H Q:=h
theorem za7{r r':R2}{tb:TE}(h:ta σ H fun x H1=>tb σ H1 fun y H2=>r x y H2 fun z H3=>∃ k,z=.bl k/\(if k=true then tc σ H3 fun w' H4=>r' y w' H4 Q else Q (.bl false) H3)):xr4 r r' ta tb tc σ H Q:=h
end
variable{z:Str}
section
variable{Q:VK}
theorem xs7(h:Q (.int (i+j)) H):J0 K (.int i) (.int j) H Q:=.inl ⟨i,j,rfl,rfl,h⟩
theorem U2{i j:Str}(hz:i.length+j.length<=sizeLine)(h:Q (.str (i++j)) H):J0 K (.str i) (.str j) H Q:=.inr (.inl ⟨i,j,rfl,rfl,hz,h⟩)
theorem xz5(h1:H a=some (.lst xs))(h2:H b=some (.lst ys))(hz:xs.length+ys.length<=sizeLine)(h:∀ p,H p=none->Q (.ref p) (upd H p (.lst (xs++ys)))):J0 K (.ref a) (.ref b) H Q:=.inr (.inr (.inl ⟨a,b,xs,ys,rfl,rfl,h1,h2,hz,h⟩))
theorem za8(h:Q (.int (i-j)) H):rI0 (fun i j=>.int (i-j)) (.int i) (.int j) H Q:=⟨i,j,rfl,rfl,h⟩
theorem qw7(c:yf8 i j)(h:Q (.int (i*j)) H):qr1 (.int i) (.int j) H Q:=.inl ⟨i,j,rfl,rfl,c,h⟩
theorem za9{n:Int}(h0:0<=n)(h1:n<=1000)(h2:z.length<=1000)(h:Q (.str (PySem.Txt.mul z n)) H):qr1 (.str z) (.int n) H Q:=.inr (.inl ⟨z,n,rfl,rfl,h0,h1,h2,h⟩)
theorem zt9(c:xe5 i j)(h:Q (.int (i / j)) H):rI xe5 (fun i j=>.int (i / j)) (.int i) (.int j) H Q:=⟨i,j,rfl,rfl,c,h⟩
theorem yn8(c:0<j)(h:Q (.int (i % j)) H):rI (fun _ j=>0<j) (fun i j=>.int (i % j)) (.int i) (.int j) H Q:=⟨i,j,rfl,rfl,c,h⟩
theorem zp4(h:Q (.bl (decide (i<j))) H):xs4 (.int i) (.int j) H Q:=.inl ⟨i,j,rfl,rfl,h⟩
theorem Aa5(h:Q (.bl (decide (i<=j))) H):yh8 (.int i) (.int j) H Q:=.inl ⟨i,j,rfl,rfl,h⟩
theorem Aa6(h:Q (.bl (decide (j<i))) H):wv4 (.int i) (.int j) H Q:=.inl ⟨i,j,rfl,rfl,h⟩
theorem zp5(h:Q (.bl (decide (j<=i))) H):zj6 (.int i) (.int j) H Q:=.inl ⟨i,j,rfl,rfl,h⟩
theorem zp6{i j:Str}(h:Q (.bl (!decide (j.cps.toList<i.cps.toList))) H):yh8 (.str i) (.str j) H Q:=.inr ⟨i,j,rfl,rfl,h⟩
theorem xz6{x:V}(c:zh8 x y=true)(h:Q (.bl (decide (x=y))) H):qg1 K x y H Q:=.inl ⟨c,h⟩
theorem Aa7{x:V}(c:zh8 x y=true)(h:Q (.bl (!decide (x=y))) H):xs3 K x y H Q:=.inl ⟨c,h⟩
theorem Aa8{x:V}{e:PyData}(h1:Dv K H d x)(h2:Dv K H e y)(hz:min d.depth e.depth<=190)(h:Q (.bl (PyData.eqv d e)) H):qg1 K x y H Q:=.inr ⟨d,e,h1,h2,hz,h⟩
theorem Aa9{x:V}{e:PyData}(h1:Dv K H d x)(h2:Dv K H e y)(hz:min d.depth e.depth<=190)(h:Q (.bl (!PyData.eqv d e)) H):xs3 K x y H Q:=.inr ⟨d,e,h1,h2,hz,h⟩
theorem Ad3{x:V}(h:Q (.bl (decide (x=.non))) H):xz1 x .non H Q:=⟨rfl,h⟩
theorem zk6{x:V}(h:Q (.bl (!decide (x=.non))) H):wj1 x .non H Q:=⟨rfl,h⟩
theorem O0(h1:SqL K H p xs)(e:atI xs i=some v)(h:Q v H):rIx K (.ref p) (.int i) H Q:=.inl ⟨p,xs,i,v,rfl,rfl,h1,e,h⟩
theorem W3(h1:SqT K H p xs)(e:atI xs i=some v)(h:Q v H):rIx K (.ref p) (.int i) H Q:=.inr (.inl ⟨p,xs,i,v,rfl,rfl,h1,e,h⟩)
theorem zb0{c:Nat}(hz:z.length<=sizeLine)(e:atI z.cps.toList i=some c)(h:Q (.str ⟨#[c]⟩) H):rIx K (.str z) (.int i) H Q:=.inr (.inr ⟨z,i,c,rfl,rfl,hz,e,h⟩)
theorem yt7{x:V}(h1:SqL K H p xs\/SqT K H p xs)(fx:qy1 x=true)(fs:xs.all qy1=true)(h:Q (.bl (inV x xs)) H):yz6 K false x (.ref p) H Q:=.inl ⟨p,xs,rfl,h1,fx,fs,h⟩
theorem yn9{x:V}(h1:SqL K H p xs\/SqT K H p xs)(fx:qy1 x=true)(fs:xs.all qy1=true)(h:Q (.bl (!inV x xs)) H):yz6 K true x (.ref p) H Q:=.inl ⟨p,xs,rfl,h1,fx,fs,h⟩
theorem Q3(h1:SqL K H p xs\/SqT K H p xs)(h:Q (.int xs.length) H):O6 K [.ref p] H Q:=.inl ⟨p,xs,rfl,h1,h⟩
theorem xf6(hz:z.length<=sizeLine)(h:Q (.int z.length) H):O6 K [.str z] H Q:=.inr (.inl ⟨z,rfl,hz,h⟩)
theorem yi0{k:Int}{j:Nat}{R:Hp->Prop}(h1:H p=some (.lst xs))(e:ixN xs.length k=some j)(h:R (upd H p (.lst (xs.set j v)))):yy3 (.ref p) (.int k) v H R:=⟨p,xs,k,j,rfl,rfl,h1,e,h⟩
theorem N5(h1:H p=some (.lst xs))(hz:xs.length<sizeLine)(h:Q .non (upd H p (.lst (xs++[y])))):N2 (.ref p) [y] H Q:=⟨p,xs,y,rfl,rfl,h1,hz,h⟩
end
def Itv(n:Nat):It:=⟨fun i _=>i<n,fun i H x H'=>H'=H/\x=.int ((n:Int)-1-i),fun i _=>n<=i⟩
theorem zb1{tg:Expr}(it:Addr)(n:Nat):xe2 P w K tg (Itv n) [it] it (fun i h=>IsRangeIter h it ((n:Int)-1+(i:Nat)*(-1)) ((n:Int)-(i:Nat)) (-1)) where
 mem:=by simp
 obj:=fun i h st b hb=>by
  have e:b=it:=by simpa using hb
  subst e
  exact⟨_,st,fun v z=>by
   have z':Data.fields _=Data.cell v:=z
   cases z'⟩
 keep:=fun i h h' st k=>k it (by simp) _ st
 item:=by
  intro X hP hw hK hc i pins s σ H E I hf st hg
  subst hP hw hK
  obtain⟨f0,f1,f2,f3,f4,f5⟩:=hf it (by simp)
  have W:=Walks.range (prog:=X.prog) (w:=X.w) (I.ok.hd hc) it ((n:Int)-1) (-1) n
  refine wpAny_with_toks (n:=1) I.tk (W.item i s _ _ hg st fun v h' tk hv st' kk ht=>?_)
  have ht:0<tk:=ht
  obtain⟨t,rfl⟩:=hv
  have I1:Inv X pins σ H {s with heap:=h',toks:=tk}:=I.turned (fun b o hb e=>kk b o (by simpa using hb) e) f0 f1 f3 f4 f5
  refine⟨_,rfl,xn8 (s:={s with heap:=h',toks:=tk}) (n := "range_iterator") st' rfl rfl (by decide) ⟨.int ((n:Int)-1-i),H,I1,⟨t,?_⟩,⟨rfl,rfl⟩,st',fun b hb=>(hf b hb).1⟩⟩
  have e:(n:Int)-1+(i:Int)*(-1)=(n:Int)-1-i:=by omega
  rw[e]
 done:=by
  intro X hP hw hK hc i pins s σ H E I hf st hg
  subst hP hw hK
  obtain⟨f0,f1,f2,f3,f4,f5⟩:=hf it (by simp)
  exact wpAny_pyNext_range_end (I.ok.hd hc) st (by have:n<=i:=hg;omega) fun h' eb=>⟨rfl,I.turned (t':=s.toks) (fun b o hb e=>eb b o hb e) f0 f1 f3 f4 f5⟩
 self:=fun _ _ _ _ _ st h=>wpAny_pyIter_rangeiter st h
theorem zk7(hn:(n:Int)<2 ^ 62)(Pv:Nat->St->Hp->Prop)(p0:Pv 0 σ H)(hs:∀ (i:Nat) σ H,i<n->Pv i σ H->g (.int ((n:Int)-1-i)) σ H fun σ2 H2=>tb {D with nx:=PAt Pv (i+1),ct:=PAt Pv (i+1),bk:=D.nx} σ2 H2)(hd:∀ σ H,Pv n σ H->D.nx σ H) :
 ∃ m:Nat,[V.int n]=[.int m]/\(m:Int)<2 ^ 62/\wq7 g tb D σ (Itv m) H:=by
 refine⟨n,rfl,hn,fun i m σ H=>m=n-i/\i<=n/\Pv i σ H,⟨n,by simp,Nat.zero_le _,p0⟩,?_⟩
 rintro i m σ H ⟨rfl,hi,p⟩
 by_cases hlt:i<n
 ·refine .inr ⟨hlt,Pv (i+1),fun σ' H' p'=>⟨n-(i+1),by omega,rfl,hlt,p'⟩,fun x H' y=>?_⟩
  obtain⟨e,y⟩:=y
  subst e y
  exact hs i σ _ hlt p
 ·have e:i=n:=by omega
  subst e
  exact .inl ⟨Nat.le_refl _,hd σ H p⟩
def yo0:yx1:=fun o i v H Q=>yy3 o i v H Q\/∃ a H',o=.ref a/\zz4 H a i v H'/\Q H'
theorem xf7(hu:X.A.units+1<cLine):zr4 X yo0:=by
 intro pins s σ H o i v ov iv u Q I ro ri rv h
 rcases h with h|⟨a,H',rfl,g,q⟩
 ·exact yy4 pins s σ H o i v ov iv u Q I ro ri rv h
 ·cases ro
  exact yt1 hu I g ri rv fun s' I'=>⟨H',I',q⟩
def M7(K:Fg):R2:=rIx K
theorem B9(hu:X.A.units+1<cLine):IxR X (M7 X.K):=zs2
def Ad4(neg:Bool):R2:=fun x y H Q=>∃ a o,y=.ref a/\xl3 H a x o/\Q (.bl (if neg then !o.isSome else o.isSome)) H
def xl4(K:Fg)(neg:Bool):R2:=fun x y H Q=>yz6 K neg x y H Q\/Ad4 neg x y H Q
theorem wv6(hu:X.A.units+1<cLine):OpR X (compareOp .In) (xl4 X.K false):=by
 refine zt3.or ?_
 intro pins s σ H x y v u Q I rx ry h
 obtain⟨a,o,rfl,g,q⟩:=h
 cases ry
 exact Ad0 hu I g rx fun s' I'=>⟨.bl o.isSome,H,I',rfl,q⟩
theorem xp3(hu:X.A.units+1<cLine):OpR X (compareOp .NotIn) (xl4 X.K true):=by
 refine yt6.or ?_
 intro pins s σ H x y v u Q I rx ry h
 obtain⟨a,o,rfl,g,q⟩:=h
 cases ry
 exact zj0 hu I g rx fun s' I'=>⟨.bl (!o.isSome),H,I',rfl,q⟩
def yi1(K:Fg):List V->Hp->VK->Prop:=fun xs H Q=>(∃ (x:V) (T:String) (t:Value) (b:Bool),xs=[x,.ty T]/\wp8 K H x t/\PySem.W.kitOne K t (.type T)=some b/\Q (.bl b) H) \/
 ∃ (a:Addr) (ys:List V) (T:String) (b:Bool),xs=[.ref a,.ty T]/\SqT K H a ys/\PySem.W.kitOne K (.type "tuple") (.type T)=some b/\Q (.bl b) H
theorem qk9:qm5 X (.builtin "isinstance") (yi1 X.K):=by
 intro pins s σ H xs us Q I r h
 rcases h with⟨x,T,t,b,rfl,ty,e,q⟩|⟨a,ys,T,b,rfl,hq,e,q⟩
 ·obtain⟨u,w',rfl,r1,r2⟩:=xy1 r
  cases r2
  exact wpAny_with_toks (n:=1) I.tk (ys6 I r1 ty e fun tk ht=>⟨.bl b,H,I.tok _ ht,rfl,q⟩)
 ·obtain⟨u,w',rfl,r1,r2⟩:=xy1 r
  cases r2
  cases r1
  obtain⟨its,rv,pl,hz⟩:=I.tuple hq
  obtain⟨o,h1,h2,_⟩:=pl
  exact wpAny_with_toks (n:=1) I.tk (PySem.W.kia_one PySem.W.kitx_tuple I.kIn ⟨o,h1,h2⟩ e (fun z=>nomatch z) fun tk ht=>⟨.bl b,H,I.tok _ ht,rfl,q⟩)
theorem Ab0{Q:VK}{x:V}{t:Value}{b:Bool}(ty:wp8 K H x t)(e:PySem.W.kitOne K t (.type T)=some b)(h:Q (.bl b) H):yi1 K [x,.ty T] H Q:=.inl ⟨x,T,t,b,rfl,ty,e,h⟩
theorem zu0{Q:VK}{b:Bool}(hq:SqT K H a ys)(e:PySem.W.kitOne K (.type "tuple") (.type T)=some b)(h:Q (.bl b) H):yi1 K [.ref a,.ty T] H Q:=.inr ⟨a,ys,T,b,rfl,hq,e,h⟩
example (K:Fg):PySem.W.kitOne K (.type "str") (.type "str")=some true:=by rfl
example (K:Fg):PySem.W.kitOne K (.type "bool") (.type "int")=some true:=by rfl
example (K:Fg):PySem.W.kitOne K (.type "int") (.type "bool")=some false:=by rfl
example (K:Fg):PySem.W.kitOne K (.type "list") (.type "list")=some true:=by rfl
section
variable{σ:List (Option V)}
theorem Inv.turnLaid{o:HO}{ch:List Addr}(I:Inv X pins σ H s)(hf:∀ b∈ch,xl0 X pins H b)(k:∀ b u,b∉ch->s.heap.get? b=some u->h'.get? b=some u)(hp:s.heap.objs.size<=a)(new:V1 X.prog X.w (upd H a o) h' a o)(ht:0<t') :
 Inv X pins σ (upd H a o) {s with heap:=h',toks:=t'}:=by
 have hn:H a=none:=I.hok.fresh hp
 have nit:∀ b u,H b=some u->b∉ch:=fun b u e z=>by rw[(hf b z).1] at e;cases e
 have up:∀ {b:Addr} {u:HO},H b=some u->upd H a o b=some u:=fun{b u} e=>by rw[B7 (W5 e hn)];exact e
 have neA:∀ b u,s.heap.get? b=some u->b≠a:=fun b u e=>Nat.ne_of_lt (Nat.lt_of_lt_of_le (Heap.lt_size e) hp)
 refine I.step (g':=s.gens) (d':=s.drawn) (ch:=ch) (fun b hb=>?_) (fun b u _ _ hc e _=>k b u hc e) (fun b u _ _ hc e _=>⟨u.slots,k b u hc e⟩) (fun b u _ e n=>by rw[B7 (neA b u e)];exact n)
  (fun b u hc e=>⟨u,k b u hc e⟩) (fun _ _ e=>up e) (fun _ _ _ e=>up e) (fun b ps e=>⟨#[],by rw[up e];simp⟩) (fun m hm=>?_) (fun b u e=>?_) I.bare ht
 ·obtain⟨f0,f1,f2,f3,f4,f5⟩:=hf b hb
  exact⟨f3,f1,f4,f5⟩
 ·obtain⟨ob,es,ep,ho,r⟩:=hm
  exact⟨ob,es,ep,k _ ob (fun z=>(hf _ z).2.1 rfl) ho,r⟩
 ·by_cases hb:b=a
  ·subst hb;rw[A6] at e;cases e;exact new
  ·rw[B7 hb] at e
   refine(I.hok b u e).stay (fun c v hc q=>k c v ?_ q) (fun _ q=>up q) fun _ _ q=>up q
   rcases hc with z|z
   ·rw[z];exact nit b u e
   ·exact nit c _ z
end
def Itx(n:Nat)(V':Nat->V->Prop):It:=⟨fun i _=>i<n,fun i H x H'=>H'=H/\V' i x,fun i _=>n<=i⟩
theorem yi2{tg:Expr}{Pv:Nat->Value->Prop}{St:Nat->Heap->Prop}{V':Nat->V->Prop}{vs:Nat->Array Value}(W:∀ A:Around,A.handled=none->Walks P w A it [it] [it] n Pv St)(hV:∀ i v,Pv i v->∃ x,L4 x v/\V' i x)(hO:∀ i h,St i h->∃ o,h.get? it=some o/\o.cls=.type T/\o.data=.fields (vs i))(hT:["enumerate","zip","dict_itemiterator","dict_reverseitemiterator","odict_iterator","itertools.zip_longest","itertools.pairwise"].contains T=false)(hS:∀ (A:Around) (i:Nat) (s:Shared) (Q:Value->Shared->Prop) (E:Value->Shared->Prop),St i s.heap->Q (.ref it) s->wpAny (model P w) A (pyIter (.ref it)) Q E s) :
 xe2 P w K tg (Itx n V') [it] it (fun i h=>i<=n/\St i h) where
 mem:=by simp
 obj:=fun i h st b hb=>by
  have e:b=it:=by simpa using hb
  subst e
  obtain⟨o,e,_,d⟩:=hO i h st.2
  exact⟨o,e,fun v z=>by rw[d] at z;cases z⟩
 keep:=fun i h h' st k=>⟨st.1,(W {} rfl).frame i h h' st.2 k⟩
 item:=by
  intro X hP hw hK hc i pins s σ H E I hf st hg
  subst hP hw hK
  obtain⟨f0,f1,f2,f3,f4,f5⟩:=hf it (by simp)
  refine wpAny_with_toks (n:=1) I.tk ((W X.A (I.ok.hd hc)).item i s _ _ hg st.2 fun v h' tk hv st' kk ht=>?_)
  have ht:0<tk:=ht
  obtain⟨x,rx,vx⟩:=hV i v hv
  have I1:Inv X pins σ H {s with heap:=h',toks:=tk}:=I.turned (fun b o hb e=>kk b o (by simpa using hb) e) f0 f1 f3 f4 f5
  obtain⟨o,e,c,d⟩:=hO _ _ st'
  exact⟨v,rfl,xn8 (s:={s with heap:=h',toks:=tk}) e c d hT ⟨x,H,I1,rx,⟨rfl,vx⟩,⟨hg,st'⟩,fun b hb=>(hf b hb).1⟩⟩
 done:=by
  intro X hP hw hK hc i pins s σ H E I hf st hg
  subst hP hw hK
  obtain⟨f0,f1,f2,f3,f4,f5⟩:=hf it (by simp)
  have hi:i=n:=Nat.le_antisymm st.1 hg
  subst hi
  exact wpAny_with_toks (n:=1) I.tk ((W X.A (I.ok.hd hc)).done s _ _ st.2 fun h' tk eb ht=>⟨rfl,I.turned (fun b o hb e=>eb b o (by simpa using hb) e) f0 f1 f3 f4 f5 ht⟩)
 self:=fun A i s Q E st h=>hS A i s Q E st.2 h
section
variable{σ:List (Option V)}
theorem Inv.turnedL{ch:List Addr}(I:Inv X pins σ H s)(hf:∀ b∈ch,xl0 X pins H b)(k:∀ b u,b∉ch->s.heap.get? b=some u->h'.get? b=some u)(ht:0<t') :
 Inv X pins σ H {s with heap:=h',toks:=t'}:=by
 have nit:∀ b u,H b=some u->b∉ch:=fun b u e z=>by rw[(hf b z).1] at e;cases e
 refine I.step (g':=s.gens) (d':=s.drawn) (ch:=ch) (fun b hb=>?_) (fun b u _ _ hc e _=>k b u hc e) (fun b u _ _ hc e _=>⟨u.slots,k b u hc e⟩) (fun _ _ _ _ n=>n)
  (fun b u hc e=>⟨u,k b u hc e⟩) (fun _ _ e=>e) (fun _ _ _ e=>e) (fun b ps e=>⟨#[],by rw[e];simp⟩) (fun m hm=>?_) (fun b u e=>?_) I.bare ht
 ·obtain⟨f0,f1,f2,f3,f4,f5⟩:=hf b hb
  exact⟨f3,f1,f4,f5⟩
 ·obtain⟨ob,es,ep,ho,r⟩:=hm
  exact⟨ob,es,ep,k _ ob (fun z=>(hf _ z).2.1 rfl) ho,r⟩
 ·refine(I.hok b u e).stay (fun c v hc q=>k c v ?_ q) (fun _ q=>q) fun _ _ q=>q
  rcases hc with z|z
  ·rw[z];exact nit b u e
  ·exact nit c _ z
end
def Itp(n:Nat)(V':Nat->List V->Prop):It:=⟨fun i _=>i<n,fun i H x H'=>∃ p xs,x=.ref p/\H p=none/\V' i xs/\H'=upd H p (.tup xs),fun i _=>n<=i⟩
variable{elts:List Expr}
theorem xz7{k:Nat}{fp wr:List Addr}{Pt:Nat->Array Value->Prop}{St:Nat->Heap->Prop}{Mid:Nat->Addr->Heap->Prop}{V':Nat->List V->Prop}(W:∀ A:Around,A.handled=none->WalksT P w A it fp wr n Pt St Mid)(hmem:it∈fp)(hV:∀ i vs,Pt i vs->∃ xs,L1 xs vs.toList/\V' i xs/\xs.length<=64)(hO:∀ i h,St i h->∀ b∈fp,∃ o,h.get? b=some o/\∀ v,o.data≠.cell v)(hS:∀ (A:Around) (i:Nat) (s:Shared) (Q:Value->Shared->Prop) (E:Value->Shared->Prop),St i s.heap->Q (.ref it) s->wpAny (model P w) A (pyIter (.ref it)) Q E s) :
 xe2 P w K (.Tuple elts k pos) (Itp n V') fp it (fun i h=>i<=n/\St i h) where
 mem:=hmem
 obj:=fun i h st b hb=>hO i h st.2 b hb
 keep:=fun i h h' st kk=>⟨st.1,(W {} rfl).frame i h h' st.2 kk⟩
 item:=by
  intro X hP hw hK hc i pins s σ H E I hf st hg
  subst hP hw hK
  have W:=W X.A (I.ok.hd hc)
  refine wpAny_with_toks (n:=1) I.tk (W.item i s _ _ hg st.2 fun T vs h' tk hv hT htup hmid kk ht=>?_)
  have ht:0<tk:=ht
  obtain⟨xs,rx,vx,hz⟩:=hV i vs hv
  have hap:=W.apart i T h' hmid
  refine⟨_,rfl,W.go elts k pos i T {s with heap:=h',toks:=tk} _ _ hmid fun h2 st2 k2=>?_⟩
  have htup2:IsTup h2 T vs.toList.toArray:=by
   obtain⟨o,e,c⟩:=htup
   exact⟨o,k2 T o hap e,by simpa using c⟩
  have I1:Inv X pins σ (upd H T (.tup xs)) {s with heap:=h2,toks:=tk}:=I.turnLaid (ch:=wr) (fun b hb=>hf b (W.sub b hb)) (fun b u hb e=>k2 b u hb (kk b u hb e)) hT ⟨by rw[sizeLine_eq];omega,vs.toList,rx,htup2⟩ ht
  refine⟨.ref T,_,I1,rfl,⟨T,xs,rfl,I.hok.fresh hT,vx,rfl⟩,⟨hg,st2⟩,fun b hb=>?_⟩
  obtain⟨o,e,_⟩:=hO i _ st.2 b hb
  rw[B7 (Nat.ne_of_lt (Nat.lt_of_lt_of_le (Heap.lt_size e) hT))]
  exact(hf b hb).1
 done:=by
  intro X hP hw hK hc i pins s σ H E I hf st hg
  subst hP hw hK
  have W:=W X.A (I.ok.hd hc)
  have hi:i=n:=Nat.le_antisymm st.1 hg
  subst hi
  exact wpAny_with_toks (n:=1) I.tk (W.done s _ _ st.2 fun h' tk eb ht=>⟨rfl,I.turnedL (ch:=wr) (fun b hb=>hf b (W.sub b hb)) eb ht⟩)
 self:=fun A i s Q E st h=>hS A i s Q E st.2 h
theorem yt8(hh:A.handled=none)(it:Addr)(x:Str)(t:Tok) :
 Draws P w A it [it] x.cps.size (fun i v=>∃ c u,x.cps[i]?=some c/\v=.str ⟨#[c]⟩ u) (fun i h=>h.IsStrIter it (strIterType x) x t i):=by
 unfold strIterType
 split
 ·exact Draws.strAscii hh it x t
 ·exact Draws.strWide hh it x t
theorem yt9(hh:A.handled=none)(it:Addr)(x:Str)(t:Tok):Walks P w A it [it] [it] x.cps.size (SignAt x) (fun i h=>h.IsStrIter it (strIterType x) x t i):=by
 unfold strIterType
 split
 ·exact Walks.strAscii hh it x t
 ·exact Walks.strWide hh it x t
theorem xz8{t:Tok}{i:Nat}(hit:s.heap.IsStrIter it (strIterType x) x t i)(h:Q (.ref it) s) :
 wpAny (model P w) A (pyIter (.ref it)) Q E s:=by
 unfold strIterType at hit
 split at hit
 ·exact wpAny_pyIter_striter_ascii hit h
 ·exact wpAny_pyIter_striter_wide hit h
def xz9(z:Str)(i:Nat)(x:V):Prop:=∃ c,z.cps.toList[i]?=some c/\x=.str ⟨#[c]⟩
theorem zb2(i:Nat)(v:Value)(h:SignAt z i v):∃ x,L4 x v/\xz9 z i x:=by
 obtain⟨c,u,e,rfl⟩:=h
 exact⟨.str ⟨#[c]⟩,⟨u,rfl⟩,c,by simpa using e,rfl⟩
theorem zb3{tg:Expr}(it:Addr)(z:Str)(t:Tok):xe2 P w K tg (Itx z.cps.size (xz9 z)) [it] it (fun i h=>i<=z.cps.size/\h.IsStrIter it (strIterType z) z t i):=by
 refine yi2 (T:=strIterType z) (vs:=fun i=>#[.str z t,.int i 0]) (fun A hA=>yt9 hA it z t) zb2 (fun i h st=>?_) ?_ (fun A i s Q E st h=>xz8 st h)
 ·obtain⟨o,e,c,d⟩:=st
  exact⟨o,e,c,d⟩
 ·unfold strIterType
  split <;> decide
def zk8(tl:TE):TI:=fun σ H R=>tl σ H fun x H1=>∃ z,x=.str z/\R (Itx z.cps.size (xz9 z)) H1
theorem yo1{tg l:Expr}(hl:PE X l tl):PI X tg l (zk8 tl):=by
 intro pins s σ H R I h
 refine thn (hl pins s σ H _ I h) fun v s1 zq=>?_
 obtain⟨x,H1,I1,r1,q1⟩:=zq
 obtain⟨z,e,q⟩:=q1
 subst e
 obtain⟨t,rfl⟩:=r1
 refine wpAny_pyIter_strU ?_
 refine⟨s1.heap.objs.size,[s1.heap.objs.size],_,_,H1,rfl,I1.kept (t':=s1.toks) fun b o e=>Heap.get?_push_of_some _ e,zb3 _ z t,⟨Nat.zero_le _,_,Heap.get?_push_size _ rfl,rfl,rfl⟩,fun b hb=>?_,q⟩
 have e:b=s1.heap.objs.size:=by simpa using hb
 subst e
 exact I1.fpOk (Nat.le_refl _) (I1.hok.fresh (Nat.le_refl _))
def yi3(ta:TA):TI:=fun σ H R=>ta σ H fun vs H1=>∃ z,vs=[.str z]/\R (Itp z.cps.size fun i xs=>∃ c,z.cps.toList[i]?=some c/\xs=[.int i,.str ⟨#[c]⟩]) H1
theorem zb4{k:Nat}{p:Pos}{l:Expr}{ta:TA}(hg:Gl X "enumerate")(hm:X.mg "enumerate"=none)(ha:PA X [l] ta)(hs:autoParam (starEach [l] X.env=[(false,eval l X.env)]) zAr) :
 PI X (.Tuple elts k tpos) (.Call (.Name "enumerate" p) [l] [] pos) (yi3 ta):=by
 intro pins s σ H R I h
 refine Call_ (wa6 I hg hm boot_enumerate (PyProof.Rows.callWith_type1 (thn (ha pos pins s σ H _ I h) fun us s1 zq=>?_) hs rfl))
 obtain⟨vs,H1,I1,r1,q1⟩:=zq
 obtain⟨z,e,q⟩:=q1
 subst e
 obtain⟨v,rfl,rv⟩:=wd3 r1
 obtain⟨t,rfl⟩:=rv
 refine call_enumerate_str fun h' he hit hz hk=>?_
 have I2:Inv X pins σ H1 {s1 with heap:=h'}:=I1.kept (t':=s1.toks) hk
 refine wpAny_pyIter_enum he ?_
 have ne:s1.heap.objs.size+1≠s1.heap.objs.size:=by omega
 refine⟨s1.heap.objs.size+1,_,_,_,H1,rfl,I2,xz7 (V':=fun i xs=>∃ c,z.cps.toList[i]?=some c/\xs=[.int i,.str ⟨#[c]⟩]) (fun A hA=>WalksT.enumerateD (yt8 (show A.in1.handled=none from hA) s1.heap.objs.size z t) (s1.heap.objs.size+1) ne (by simpa using ne) (by simp)) (by simp) ?_ ?_ ?_,⟨Nat.zero_le _,⟨_,he⟩,hit⟩,fun b hb=>?_,q⟩
 ·rintro i vs ⟨t1,v,⟨c,u,e,rfl⟩,rfl⟩
  exact⟨[.int i,.str ⟨#[c]⟩],.cons ⟨t1,rfl⟩ (.cons ⟨u,rfl⟩ .nil),⟨c,by simpa using e,rfl⟩,by simp⟩
 ·rintro i h ⟨⟨old,e1⟩,o2,e2,_,d2⟩ b hb
  have hb:b=s1.heap.objs.size+1\/b=s1.heap.objs.size:=by simpa using hb
  rcases hb with rfl|rfl
  ·exact⟨_,e1,fun v z=>by cases (show Data.fields _=Data.cell v from z)⟩
  ·exact⟨_,e2,fun v z=>by rw[d2] at z;cases z⟩
 ·rintro A i s Q E ⟨⟨old,e1⟩,_⟩ h
  exact wpAny_pyIter_enum e1 h
 ·have hb:b=s1.heap.objs.size+1\/b=s1.heap.objs.size:=by simpa using hb
  rcases hb with rfl|rfl
  ·exact I1.fpOk (Nat.le_succ _) (I1.hok.fresh (Nat.le_succ _))
  ·exact I1.fpOk (Nat.le_refl _) (I1.hok.fresh (Nat.le_refl _))
def xp4(te:TE)(y z:Str):TE:=fun σ H Q=>te σ H fun x H1=>∃ a,x=.str a/\a.length<=1048576/\Q (.str (PySem.Txt.replace a y z)) H1
variable{j1 j2:Nat}{p1:Pos}
theorem xd5{y:Str}(ho:PE X o te)(hz:autoParam (z.length<=14) zAd)(hyz:autoParam ((y == z)=false) zAd)(hbase:autoParam (attributeBase o "replace" X.env (eval o X.env)=eval o X.env) zAr) (hfew:((backTo cpos (starEach [.Constant (.str y) j1 p1,.Constant (.str z) j2 p2] X.env)).all (fun x=>!x.1) && (backToKw cpos (keywordEach [] X.env)).all (fun x=>x.1.isSome)
  && decide (([.Constant (.str y) j1 p1,.Constant (.str z) j2 p2]:List Expr).length+([]:List Keyword).length+(if([]:List Keyword).isEmpty then 0 else 1)<30))=true:=by rfl) (hline:autoParam ((apos.endLine == cpos.line)=true) zAr) (hs:autoParam (starEach [.Constant (.str y) j1 p1,.Constant (.str z) j2 p2] X.env=[(false,eval (.Constant (.str y) j1 p1) X.env),(false,eval (.Constant (.str z) j2 p2) X.env)]) zAr) :
 PE X (.Call (.Attribute o "replace" apos) [.Constant (.str y) j1 p1,.Constant (.str z) j2 p2] [] cpos) (xp4 te y z):=by
 intro pins s σ H Q I h
 refine wpAny_Call_method_late hbase hfew hline rfl (thn (ho pins s σ H _ I h) fun v s1 zq=>?_)
 obtain⟨x,H1,I1,r1,q1⟩:=zq
 obtain⟨a,rfl,hl,q⟩:=q1
 obtain⟨h1,h2⟩:=yh2 (T := "str") I1 r1 (show tyV X.K "str" (.str a) H1 from rfl)
 refine⟨"str","str.replace",PySem.F.plainAttrs_str,PySem.F.slot_str_replace,PySem.F.type_str_replace,h1,h2,?_⟩
 obtain⟨t,rfl⟩:=r1
 rw[hs]
 refine Calls.callWith_builtin rfl (Calls.evalArgs_plain ?_)
 refine Calls.spliced_cons (Calls.Constant_str (k:=j1) (pos:=p1) (Calls.spliced_cons (Calls.Constant_str (k:=j2) (pos:=p2) (Calls.spliced_nil ?_))))
 exact wpAny_with_toks (n:=1) (s:={s1 with toks:=s1.toks+1+1}) (Nat.succ_pos _) (PySem.SC.replaceW (Nat.ne_of_gt I1.tk) (Nat.succ_ne_zero _) (by show s1.toks≠s1.toks+1;omega) hyz hl hz fun t' k ht=>⟨.str _,H1,I1.tok _ ht,⟨_,rfl⟩,q⟩)
def qh2(x:Str)(lo hi:Option Int):Str:=⟨((x.cps.toList.drop (HT.sIx x.cps.toList.length 0 lo)).take (HT.sIx x.cps.toList.length x.cps.toList.length hi-HT.sIx x.cps.toList.length 0 lo)).toArray⟩
def Ab1:V->Option Int->Option Int->Hp->VK->Prop:=fun x lo hi H Q=>∃ z,x=.str z/\z.length<=sizeLine/\Q (.str (qh2 z lo hi)) H
theorem yu0(x:Str)(lo hi:Option Int):(⟨((Builtin.Str.strSliceIndices lo hi 1 x.length).filterMap (x.cps[·]?)).toArray⟩:Str)=qh2 x lo hi:=by
 obtain⟨h1,h2,h3⟩:=wb2 lo hi x.length
 have e:Builtin.Str.strSliceIndices lo hi 1 x.length=sliceRange (sliceBounds lo hi none x.length).1 (sliceBounds lo hi none x.length).2.1 (sliceBounds lo hi none x.length).2.2:=rfl
 rw[e,h1,h2,h3]
 unfold qh2
 rw[sliceRange_one,pick_run]
 rfl
theorem yg8(n d:Nat)(o:Option Int)(h:d<=n):HT.sIx n d o<=n:=by
 cases o with
 | none=>exact h
 | some v =>
   show(if v<0 then(v+(n:Int)).toNat else min v.toNat n)<=n
   split <;> omega
theorem zu1:SlR X Ab1:=by
 intro pins s σ H x v vl vu lo hi sl Q I rx hs pl pu h
 obtain⟨z,rfl,hz,q⟩:=h
 obtain⟨t,rfl⟩:=rx
 refine⟨"str",_,PySem.F.slot_str_getitem.lookup,typeIs_str _ _ _,?_⟩
 have part:∀ {v:Value} {k:Option Int},IsPart v k->∃ l:Option (Int×Tok),v=partValue l/\l.map (·.1)=k:=fun{v k} h=>by
  cases h with
  | none=>exact⟨none,rfl,rfl⟩
  | int i t=>exact⟨some (i,t),rfl,rfl⟩
 obtain⟨l,rfl,el⟩:=part pl
 obtain⟨u,rfl,eu⟩:=part pu
 refine wpAny_getItem_str_slice (l:=l) (u:=u) (st:=none) hs rfl ?_
 have ep:slicePicked z l u none=Builtin.Str.strSliceIndices lo hi 1 z.length:=by unfold slicePicked;rw[el,eu];rfl
 have ec:=yu0 z lo hi
 unfold sliceMade
 rw[ep]
 split
 ·rename_i hc
  have hlen:(Builtin.Str.strSliceIndices lo hi 1 z.length).length=z.length:=by simpa using hc
  have:qh2 z lo hi=z:=by
   obtain⟨h1,h2,h3⟩:=wb2 lo hi z.length
   have e:Builtin.Str.strSliceIndices lo hi 1 z.length=sliceRange (sliceBounds lo hi none z.length).1 (sliceBounds lo hi none z.length).2.1 (sliceBounds lo hi none z.length).2.2:=rfl
   rw[e,h1,h2,h3,sliceRange_one,List.length_map,List.length_range] at hlen
   have hb:=yg8 z.length z.length hi (Nat.le_refl _)
   have el:z.cps.toList.length=z.length:=Array.length_toList
   obtain⟨⟨l⟩⟩:=z
   unfold qh2
   rw[el,hlen]
   by_cases h0:HT.sIx (Str.length ⟨⟨l⟩⟩) 0 lo=0
   ·rw[h0,List.drop_zero,List.take_of_length_le (Nat.le_of_eq el)]
   ·have:Str.length ⟨⟨l⟩⟩=0:=by omega
    rw[this,List.take_zero]
    have:l=[]:=List.eq_nil_of_length_eq_zero (by rw[<-this];exact el.symm▸rfl)
    rw[this]
  rw[this] at q
  exact⟨.str z,H,I,⟨_,rfl⟩,q⟩
 ·rw[ec]
  refine⟨?_,.str _,H,I.tok _,⟨_,rfl⟩,q⟩
  have:(qh2 z lo hi).length<=z.length:=by
   unfold qh2 Str.length
   simp only[List.size_toArray,List.length_take,List.length_drop,Array.length_toList]
   omega
  omega
def wq8(K:Fg):V->Option Int->Option Int->Hp->VK->Prop:=fun x lo hi H Q=>Ab1 x lo hi H Q\/zy5 K x lo hi H Q\/zy9 K x lo hi H Q
theorem qr3:SlR X (wq8 X.K):=zu1.or (zr9.or zi8)
variable{hi lo:Option Int}
section
variable{Q:VK}
theorem xp5(hz:z.length<=sizeLine)(h:Q (.str (qh2 z lo hi)) H):wq8 K (.str z) lo hi H Q:=.inl ⟨z,rfl,hz,h⟩
theorem yo2(hx:SqL K H a xs)(h:∀ p,H p=none->Q (.ref p) (upd H p (.lst (qn3 xs lo hi)))):wq8 K (.ref a) lo hi H Q:=.inr (.inr ⟨a,xs,rfl,hx,h⟩)
theorem Ab2{tl:TO}(h:te σ H fun x H1=>tl σ H1 fun l H2=>th σ H2 fun u H3=>r x l u H3 Q):tSl r te tl th σ H Q:=h
theorem zk9{t:TE}{R:Option Int->Hp->Prop}(h:t σ H fun x H1=>∃ i,x=.int i/\R (some i) H1):Z4 t σ H R:=h
theorem yu1{R:Option Int->Hp->Prop}(h:R none H):qh1 σ H R:=h
theorem zu2{R:Int->Prop}(h:R i):∃ j,V.int i=.int j/\R j:=⟨i,rfl,h⟩
theorem zl0{y:Str}(h:te σ H fun x H1=>∃ a,x=.str a/\a.length<=1048576/\Q (.str (PySem.Txt.replace a y z)) H1):xp4 te y z σ H Q:=h
theorem zb5{ta:TA}(h:ta σ H fun vs H1=>∃ z,vs=[.str z]/\R (Itp z.cps.size fun i xs=>∃ c,z.cps.toList[i]?=some c/\xs=[.int i,.str ⟨#[c]⟩]) H1):yi3 ta σ H R:=h
theorem zl1(h:tl σ H fun x H1=>∃ z,x=.str z/\R (Itx z.cps.size (xz9 z)) H1):zk8 tl σ H R:=h
theorem yi4(Pv:Nat->List V->Hp->Prop)(h0:Pv 0 [] H)(hlen:∀ i ys H,i<=z.cps.size->Pv i ys H->ys.length<=sizeLine)(hs:∀ (i c:Nat) (p:Addr) ys H,z.cps.toList[i]?=some c->H p=none->Pv i ys H->g (.ref p) σ' (upd H p (.tup [.int i,.str ⟨#[c]⟩])) fun σ2 H2=>tt σ2 H2 fun b H3=>if b=true then te σ2 H3 fun y H4=>PAt Pv (i+1) (ys++[y]) H4 else PAt Pv (i+1) ys H3)(hd:∀ ys H,Pv z.cps.size ys H->∀ p,H p=none->Q (.ref p) (upd H p (.lst ys))) :
 ∃ z',[V.str z]=[.str z']/\wl8 g tt te σ' Q (Itp z'.cps.size fun i xs=>∃ c,z'.cps.toList[i]?=some c/\xs=[.int i,.str ⟨#[c]⟩]) H:=by
 refine⟨z,rfl,fun i m ys H=>m=z.cps.size-i/\i<=z.cps.size/\Pv i ys H,⟨z.cps.size,by simp,Nat.zero_le _,h0⟩,?_⟩
 rintro i m ys H ⟨rfl,hi,p⟩
 refine⟨hlen i ys H hi p,?_⟩
 by_cases hlt:i<z.cps.size
 ·refine .inr ⟨hlt,Pv (i+1),fun ys' H' p'=>⟨z.cps.size-(i+1),by omega,rfl,hlt,p'⟩,fun x H' y=>?_⟩
  obtain⟨a,xs,rfl,ha,⟨c,ec,rfl⟩,rfl⟩:=y
  exact hs i c a ys H ec ha p
 ·have e:i=z.cps.size:=by omega
  subst e
  exact .inl ⟨Nat.le_refl _,hd ys H p⟩
theorem yo3{y:Str}(h:Q (.bl (decide (x=y))) H):qg1 K (.str x) (.str y) H Q:=by
 refine xz6 rfl ?_
 have e:(decide ((V.str x)=V.str y))=decide (x=y):=by simp
 rw[e];exact h
theorem zb6{y:Str}(h:Q (.bl (!decide (x=y))) H):xs3 K (.str x) (.str y) H Q:=by
 refine Aa7 rfl ?_
 have e:(decide ((V.str x)=V.str y))=decide (x=y):=by simp
 rw[e];exact h
theorem zp7{x y:Int}(h:Q (.bl (decide (x=y))) H):qg1 K (.int x) (.int y) H Q:=by
 refine xz6 rfl ?_
 have e:(decide ((V.int x)=V.int y))=decide (x=y):=by simp
 rw[e];exact h
end
section
open PySem.Builtin PySem.Builtin.Str
def xp6(x y:Str)(i j:Int):Int:=match occurrences x y (fromIndex x.length i) (min (fromIndex x.length j) x.length) 1 with|k::_=>(k:Int) | []=>-1
theorem ya0(x y:Str)(i j:Int)(t u v v':Tok):Gives («str.find» ⟨[.str x t,.str y u,.int i v,.int j v'],[]⟩) (.int (xp6 x y i j)):=by
 unfold xp6
 show Gives (match occurrences x y (fromIndex x.length i) (min (fromIndex x.length j) x.length) 1 with|k::_=>retInt k | []=>(do rule "str.find.not-found";retInt (-1))) _
 cases occurrences x y (fromIndex x.length i) (min (fromIndex x.length j) x.length) 1 with
 | nil=>exact .rule (.of_eq rfl)
 | cons k _=>exact .of_eq rfl
theorem L1.three{x z:V}(r:L1 [x,y,z] us):∃ u v w',us=[u,v,w']/\L4 x u/\L4 y v/\L4 z w':=by
 cases r with
 | cons r1 r2=>obtain⟨v,w',rfl,a,b⟩:=xy1 r2;exact⟨_,_,_,rfl,r1,a,b⟩
def xs8:V->List V->Hp->VK->Prop:=fun x vs H Q=>∃ (z y:Str) (i:Int),x=.str z/\vs=[.str y,.int i]/\Q (.int (PySem.Txt.find3 z y i)) H
theorem xf8:MtR X "str.find" xs8:=by
 intro pins s σ H x vs v us Q I rx rv h
 obtain⟨z,y,i,rfl,rfl,q⟩:=h
 obtain⟨t,rfl⟩:=rx
 obtain⟨u,w',rfl,⟨t1,rfl⟩,⟨t2,rfl⟩⟩:=xy1 rv
 exact SC.find3 ⟨.int _,H,I.tok _,⟨_,rfl⟩,q⟩
def zb7:V->List V->Hp->VK->Prop:=fun x vs H Q=>∃ (z y:Str) (i j:Int),x=.str z/\vs=[.str y,.int i,.int j]/\Q (.int (xp6 z y i j)) H
theorem zb8:MtR X "str.find" zb7:=by
 intro pins s σ H x vs v us Q I rx rv h
 obtain⟨z,y,i,j,rfl,rfl,q⟩:=h
 obtain⟨t,rfl⟩:=rx
 obtain⟨u,w',w2,rfl,⟨t1,rfl⟩,⟨t2,rfl⟩,⟨t3,rfl⟩⟩:=L1.three rv
 exact call_gives F.slot_str_find (typeIs_str _ _ _) F.entry_str_find (F.args_str_find_4 _ _ _ _) (ya0 z y i j t t1 t2 t3) ⟨.int _,H,I.tok _,⟨_,rfl⟩,q⟩
def yo4:V->List V->Hp->VK->Prop:=fun x vs H Q=>∃ (z y:Str) (i:Int),x=.str z/\vs=[.str y,.int i]/\Q (.bl (PySem.Txt.startswith3 z y i)) H
theorem yu2:MtR X "str.startswith" yo4:=by
 intro pins s σ H x vs v us Q I rx rv h
 obtain⟨z,y,i,rfl,rfl,q⟩:=h
 obtain⟨t,rfl⟩:=rx
 obtain⟨u,w',rfl,⟨t1,rfl⟩,⟨t2,rfl⟩⟩:=xy1 rv
 exact SC.startswith3 ⟨.bl _,H,I,rfl,q⟩
theorem yi5:∀ {bs:List Bool} {us:List Value},L1 (bs.map V.bl) us->us=bs.map Value.bool
 | [],_,h=>by cases h;rfl
 | b::bs,_,h=>by
   have h:L1 (V.bl b::bs.map V.bl) _:=h
   cases h with
   | cons r t=>rw[yi5 t];cases (show _=Value.bool b from r);rfl
theorem yu3(bs:List Bool):(List.range bs.length).all (fun i=>(bs[i]?).getD false)=bs.all id:=by
 rw[Bool.eq_iff_iff,List.all_eq_true,List.all_eq_true]
 constructor
 ·intro h b hb
  obtain⟨i,hi,e⟩:=List.getElem_of_mem hb
  have:=h i (List.mem_range.mpr hi)
  rw[List.getElem?_eq_getElem hi,e] at this
  exact this
 ·intro h i hi
  have hi:=List.mem_range.mp hi
  rw[List.getElem?_eq_getElem hi]
  exact h _ (List.getElem_mem hi)
theorem yu4(bs:List Bool):(List.range bs.length).any (fun i=>(bs[i]?).getD false)=bs.any id:=by
 rw[Bool.eq_iff_iff,List.any_eq_true,List.any_eq_true]
 constructor
 ·rintro⟨i,hi,h⟩
  have hi:=List.mem_range.mp hi
  rw[List.getElem?_eq_getElem hi] at h
  exact⟨_,List.getElem_mem hi,h⟩
 ·rintro⟨b,hb,h⟩
  obtain⟨i,hi,e⟩:=List.getElem_of_mem hb
  exact⟨i,List.mem_range.mpr hi,by rw[List.getElem?_eq_getElem hi,e];exact h⟩
def zb9(K:Fg):List V->Hp->VK->Prop:=fun xs H Q=>∃ (p:Addr) (bs:List Bool),xs=[.ref p]/\SqL K H p (bs.map V.bl)/\Q (.bl (bs.all id)) H
def zc0(K:Fg):List V->Hp->VK->Prop:=fun xs H Q=>∃ (p:Addr) (bs:List Bool),xs=[.ref p]/\SqL K H p (bs.map V.bl)/\Q (.bl (bs.any id)) H
theorem yu5(hc:X.calm=true):qm5 X (.builtin "all") (zb9 X.K):=by
 intro pins s σ H xs us Q I r h
 obtain⟨p,bs,rfl,hq,q⟩:=h
 obtain⟨u,rfl,ru⟩:=wd3 r
 cases ru
 obtain⟨its,rv,pl,hz⟩:=I.list hq
 have ei:=yi5 rv
 subst ei
 refine wpAny_with_toks (n:=1) I.tk (call_all_walk (wpAny_pyIter_list pl.isList ?_))
 have ne:p≠s.heap.objs.size:=Nat.ne_of_lt (by obtain⟨o,e,_⟩:=pl.isList;exact Heap.lt_size e)
 refine⟨_,_,_,_,_,_,fun i=>(bs[i]?).getD false,rfl,Walks.list (show X.A.in1.handled=none from I.ok.hd hc) s.heap.objs.size p ne _,⟨⟨_,Heap.get?_push_size _ rfl,rfl,rfl⟩,pl.isList.at fun o e=>Heap.get?_push_of_some _ e⟩,?_,fun h' tk hk ht=>?_⟩
 ·intro i v s Q E hP hQ
  have hP:(bs.map Value.bool)[i]?=some v:=by simpa using hP
  rw[List.getElem?_map] at hP
  obtain⟨b,hb,rfl⟩:=Option.map_eq_some_iff.mp hP
  have hQ:Q ((bs[i]?).getD false) s:=hQ
  rw[hb] at hQ
  exact wpAny_pure hQ
 ·refine⟨.bl (bs.all id),H,I.kept (fun b o e=>hk b o ?_ (Heap.get?_push_of_some _ e)) ht,?_,q⟩
  ·intro z
   have:b=s.heap.objs.size:=by simpa using z
   exact absurd (Heap.lt_size e) (by rw[this];exact Nat.lt_irrefl _)
  ·show Value.bool _=Value.bool _
   rw[<-yu3 bs]
   congr 2
   simp
theorem yu6(hc:X.calm=true):qm5 X (.builtin "any") (zc0 X.K):=by
 intro pins s σ H xs us Q I r h
 obtain⟨p,bs,rfl,hq,q⟩:=h
 obtain⟨u,rfl,ru⟩:=wd3 r
 cases ru
 obtain⟨its,rv,pl,hz⟩:=I.list hq
 have ei:=yi5 rv
 subst ei
 refine wpAny_with_toks (n:=1) I.tk (call_any_walk (wpAny_pyIter_list pl.isList ?_))
 have ne:p≠s.heap.objs.size:=Nat.ne_of_lt (by obtain⟨o,e,_⟩:=pl.isList;exact Heap.lt_size e)
 refine⟨_,_,_,_,_,_,fun i=>(bs[i]?).getD false,rfl,Walks.list (show X.A.in1.handled=none from I.ok.hd hc) s.heap.objs.size p ne _,⟨⟨_,Heap.get?_push_size _ rfl,rfl,rfl⟩,pl.isList.at fun o e=>Heap.get?_push_of_some _ e⟩,?_,fun h' tk hk ht=>?_⟩
 ·intro i v s Q E hP hQ
  have hP:(bs.map Value.bool)[i]?=some v:=by simpa using hP
  rw[List.getElem?_map] at hP
  obtain⟨b,hb,rfl⟩:=Option.map_eq_some_iff.mp hP
  have hQ:Q ((bs[i]?).getD false) s:=hQ
  rw[hb] at hQ
  exact wpAny_pure hQ
 ·refine⟨.bl (bs.any id),H,I.kept (fun b o e=>hk b o ?_ (Heap.get?_push_of_some _ e)) ht,?_,q⟩
  ·intro z
   have:b=s.heap.objs.size:=by simpa using z
   exact absurd (Heap.lt_size e) (by rw[this];exact Nat.lt_irrefl _)
  ·show Value.bool _=Value.bool _
   rw[<-yu4 bs]
   congr 2
   simp
section
variable{Q:VK}
theorem Ab3{bs:List Bool}(h:SqL K H p (bs.map V.bl))(q:Q (.bl (bs.all id)) H):zb9 K [.ref p] H Q:=⟨p,bs,rfl,h,q⟩
theorem Ab4{bs:List Bool}(h:SqL K H p (bs.map V.bl))(q:Q (.bl (bs.any id)) H):zc0 K [.ref p] H Q:=⟨p,bs,rfl,h,q⟩
theorem ya1(Pv:Nat->List V->Hp->Prop)(h0:Pv 0 [] H)(hlen:∀ i ys H,i<=z.cps.size->Pv i ys H->ys.length<=sizeLine)(hs:∀ (i c:Nat) ys H,z.cps.toList[i]?=some c->Pv i ys H->g (.str ⟨#[c]⟩) σ' H fun σ2 H2=>tt σ2 H2 fun b H3=>if b=true then te σ2 H3 fun y H4=>PAt Pv (i+1) (ys++[y]) H4 else PAt Pv (i+1) ys H3)(hd:∀ ys H,Pv z.cps.size ys H->∀ p,H p=none->Q (.ref p) (upd H p (.lst ys))) :
 ∃ z',V.str z=.str z'/\wl8 g tt te σ' Q (Itx z'.cps.size (xz9 z')) H:=by
 refine⟨z,rfl,fun i m ys H=>m=z.cps.size-i/\i<=z.cps.size/\Pv i ys H,⟨z.cps.size,by simp,Nat.zero_le _,h0⟩,?_⟩
 rintro i m ys H ⟨rfl,hi,p⟩
 refine⟨hlen i ys H hi p,?_⟩
 by_cases hlt:i<z.cps.size
 ·refine .inr ⟨hlt,Pv (i+1),fun ys' H' p'=>⟨z.cps.size-(i+1),by omega,rfl,hlt,p'⟩,fun x H' y=>?_⟩
  obtain⟨rfl,c,ec,rfl⟩:=y
  exact hs i c ys _ ec p
 ·have e:i=z.cps.size:=by omega
  subst e
  exact .inl ⟨Nat.le_refl _,hd ys H p⟩
end
end
section
variable{Q:VK}
theorem zu3{r:V->List V->Hp->VK->Prop}(h:to σ H fun x H1=>tyV K T x H1/\r x [] H1 Q):yy6 K T r to σ H Q:=h
theorem zc1(h1:H p=some (.lst (xs++[y])))(h:Q y (upd H p (.lst xs))):yy7 (.ref p) [] H Q :=
 ⟨p,xs++[y],y,rfl,rfl,h1,by simp,by rw[List.dropLast_concat];exact h⟩
end
variable{items:Array Value}
theorem wk8{t sl:Addr}{vl vu:Value}(ht:IsTup s.heap t items)(hs:s.heap.IsSliceOf sl vl vu .none)(pl:IsPart vl lo)(pu:IsPart vu hi)(hw:HT.sIx items.size 0 lo=0/\HT.sIx items.size items.size hi=items.size)(h:Q (.ref t) s):wpAny (model prog w) A (getItem (.ref t) (.ref sl)) Q E s:=by
 obtain⟨os,hos,hcs,hds⟩:=id hs
 have hTs:s.TypeIs (.ref sl) "slice":=⟨os,hos,hcs⟩
 unfold getItem
 try with_reducible refine wpAny_holding ?_
 first|refine wpAny_bind (wpAny_pure ?_)|skip
 refine wpAny_bind (wpAny_sequenceKey ht.typeIs (by decide) ?_)
 refine wpAny_bind (wpAny_callSpecial?_slot (name:=Str.ofString "__getitem__") ht.typeIs PyProof.Rows.slot_tuple_getitem
  (wpAny_call_entry PyProof.Rows.slot_tuple_getitem ht.typeIs entry_tuple_getitem ?_ (args_tuple_getitem _ _)))
 show wpAny _ _ (Builtin.Tuple.tupleItemsOf (.ref t) >>= _) _ _ s
 refine wpAny_bind (tupleItemsOf_ ht ?_)
 refine wpAny_bind (wpAny_typeOf hTs ?_)
 rw[if_pos (by decide)]
 refine wpAny_bind (HT.qy0 hs pl pu ?_)
 have hyes:((((HT.sIx items.size 0 lo:Nat):Int) == 0 && (1:Int) == 1 && (HT.sIx items.size items.size hi-HT.sIx items.size 0 lo) == items.size)=true):=by
  rw[hw.1,hw.2];simp
 show wpAny _ _ (if(((HT.sIx items.size 0 lo:Nat):Int) == 0 && (1:Int) == 1 && (HT.sIx items.size items.size hi-HT.sIx items.size 0 lo) == items.size)=true then _ else _) _ _ s
 rw[if_pos hyes]
 refine wpAny_bind (m:=Builtin.Tuple.tupleIsExact (.ref t)) ?_
 unfold Builtin.Tuple.tupleIsExact
 refine wpAny_bind (wpAny_typeOf ht.typeIs (wpAny_pure ?_))
 rw[if_pos (by decide)]
 first
  | exact wpAny_bind (wpAny_rule (wpAny_bind (wpAny_pure ⟨_,rfl,wpAny_pure h⟩)))
  | exact wpAny_bind (wpAny_rule (wpAny_pure ⟨_,rfl,wpAny_pure h⟩))
  | exact wpAny_bind (wpAny_rule (wpAny_pure (wpAny_pure ⟨_,rfl,wpAny_pure h⟩)))
def Ab5(K:Fg):V->Option Int->Option Int->Hp->VK->Prop:=fun x lo hi H Q=>∃ a xs,x=.ref a/\SqT K H a xs/\(HT.sIx xs.length 0 lo=0/\HT.sIx xs.length xs.length hi=xs.length)/\Q (.ref a) H
theorem zl2:SlR X (Ab5 X.K):=by
 intro pins s σ H x v vl vu lo hi sl Q I rx hs pl pu h
 obtain⟨a,xs,rfl,hx,hw,q⟩:=h
 cases rx
 obtain⟨its,r,ht,hz⟩:=I.tuple hx
 have hlen:its.toArray.size=xs.length:=by rw[List.size_toArray];exact r.length.symm
 refine⟨"tuple",_,PyProof.Rows.slot_tuple_getitem.lookup,ht.typeIs,?_⟩
 exact wk8 ht hs pl pu (by rw[hlen];exact hw) ⟨.ref a,H,I,rfl,q⟩
def yi6(K:Fg):V->Option Int->Option Int->Hp->VK->Prop:=fun x lo hi H Q=>wq8 K x lo hi H Q\/Ab5 K x lo hi H Q
theorem wq9:SlR X (yi6 X.K):=qr3.or zl2
def zp8(K:Fg):R2:=fun x y H Q=>∃ a b ys,x=.ref a/\y=.ref b/\SqT K H a []/\SqT K H b ys/\Q (.ref b) H
theorem zl3:OpR X (binaryOp .Add) (zp8 X.K):=by
 intro pins s σ H x y v u Q I rx ry h
 obtain⟨a,b,ys,rfl,rfl,ha,hb,q⟩:=h
 cases rx
 cases ry
 obtain⟨its,r1,p1,_⟩:=I.tuple ha
 obtain⟨its2,r2,p2,_⟩:=I.tuple hb
 cases r1
 obtain⟨⟨cls,dd,data,sl⟩,ho,hc,n,hd⟩:=id p1
 obtain⟨⟨cls2,dd2,data2,sl2⟩,ho2,hc2,n2,hd2⟩:=id p2
 simp only at hc hd hc2 hd2
 subst hc hd hc2 hd2
 exact concat_meets ⟨_,ho,rfl⟩ ⟨_,ho2,rfl⟩ noFill_tuple_add seq_tuple_add PySem.F.slot_tuple_add PySem.F.entry_tuple_add (PySem.F.args_tuple_add_2 _ _)
  (tuple_addW0 a b _ its2.toArray n n2 dd dd2 sl sl2 (by simp)) ⟨ho,ho2,⟨.ref b,H,I,rfl,q⟩⟩
def qy3(K:Fg):R2:=fun x y H Q=>J0 K x y H Q\/zp8 K x y H Q
theorem qa0:OpR X (binaryOp .Add) (qy3 X.K):=C6.or zl3
section
variable{Q:VK}
theorem wn7(h1:SqT K H a xs)(h2:SqT K H b ys)(hz:xs.length+ys.length<=sizeLine)(h:∀ p H',A7 H H'->SqT K H' p (xs++ys)->Q (.ref p) H'):qy3 K (.ref a) (.ref b) H Q:=by
 by_cases hx:xs=[]
 ·subst hx
  exact .inr ⟨a,b,ys,rfl,rfl,h1,h2,h b H (fun _ _ e=>e) h2⟩
 ·refine .inl (.inr (.inr (.inr ⟨a,b,xs,ys,rfl,rfl,h1,h2,hx,hz,fun hy=>?_,fun hy p hp=>h p _ (A7.new hp _) (SqT.of A6)⟩)))
  subst hy
  exact h a H (fun _ _ e=>e) (by rw[List.append_nil];exact h1)
theorem ya2(h1:SqT K H a xs)(h:∀ p H',A7 H H'->SqT K H' p (qn3 xs lo hi)->Q (.ref p) H'):yi6 K (.ref a) lo hi H Q:=by
 by_cases hw:HT.sIx xs.length 0 lo=0/\HT.sIx xs.length xs.length hi=xs.length
 ·refine .inr ⟨a,xs,rfl,h1,hw,h a H (fun _ _ e=>e) ?_⟩
  unfold qn3
  rw[hw.1,hw.2,List.drop_zero,Nat.sub_zero,List.take_length];exact h1
 ·exact .inl (.inr (.inl ⟨a,xs,rfl,h1,hw,fun p hp=>h p _ (A7.new hp _) (SqT.of A6)⟩))
theorem zp9(c:0<=j)(h:Q (.int (i / 2 ^ j.toNat)) H):rI (fun _ j=>0<=j) (fun i j=>.int (i / 2 ^ j.toNat)) (.int i) (.int j) H Q:=⟨i,j,rfl,rfl,c,h⟩
theorem zq0(c:yx4 i j)(h:Q (.int (i*2 ^ j.toNat)) H):rI yx4 (fun i j=>.int (i*2 ^ j.toNat)) (.int i) (.int j) H Q:=⟨i,j,rfl,rfl,c,h⟩
end
def zc2(ta:TA):TI:=fun σ H R=>ta σ H fun vs H1=>∃ n:Nat,vs=[.int ((n:Int)-1),.int (-1),.int (-1)]/\(n:Int)<2 ^ 62/\R (Itv n) H1
theorem xp7(n:Nat):Builtin.Range.rangeSize ((n:Int)-1) (-1) (-1)=n:=by
 unfold Builtin.Range.rangeSize
 rw[if_neg (by decide)]
 have e:(- (-1):Int)=1:=by decide
 rw[e,Int.ediv_one]
 split <;> omega
theorem yu7 {tg:Expr} {a b:Expr} {ta:TA} {p:Pos} (hg:Gl X "range") (hm:X.mg "range"=none) (ha:PA X [a,b,c] ta) (hs:autoParam (starEach [a,b,c] X.env=(false,eval a X.env)::starEach [b,c] X.env) zAr) (hs2:autoParam (starEach [b,c] X.env=[(false,eval b X.env),(false,eval c X.env)]) zAr) :
 PI X tg (.Call (.Name "range" p) [a,b,c] [] pos) (zc2 ta):=by
 intro pins s σ H R I h
 refine Call_ (wa6 I hg hm boot_range (PyProof.Rows.callWith_type1 (thn (ha pos pins s σ H _ I h) fun us s1 zq=>?_) hs (by rw[hs2];rfl)))
 obtain⟨vs,H1,I1,r1,q1⟩:=zq
 obtain⟨n,e,q1,q⟩:=q1
 subst e
 cases r1 with
 | cons r rr =>
   cases rr with
   | cons r' rr =>
     cases rr with
     | cons r'' rr =>
       cases rr
       obtain⟨t,rfl⟩:=r
       obtain⟨t',rfl⟩:=r'
       obtain⟨t'',rfl⟩:=r''
       refine call_range_3 (by decide) ?_ (Or.inl (PyProof.noPylong_small (by decide)))
       have I2:Inv X pins σ H1 {s1 with heap:=s1.heap.push {cls:=.type "range",data:=.fields #[.int ((n:Int)-1) t,.int (-1) t',.int (-1) t'']},toks:=s1.toks}:=I1.kept (t':=s1.toks) fun b o e=>Heap.get?_push_of_some _ e
       refine wpAny_pyIter_range (IsRange.new ..) ?_ ?_
       ·unfold Builtin.Range.small
        rw[xp7]
        simp only[Builtin.Range.rangeFitsLong,Bool.and_eq_true,Bool.or_eq_true,decide_eq_true_eq,beq_iff_eq,show ¬((-1:Int) > 0) by decide,if_false]
        omega
       refine⟨_,[_],_,_,H1,rfl,I2.kept (t':=s1.toks) fun b o e=>Heap.get?_push_of_some _ e,zb1 _ n,?_,fun b hb=>?_,q⟩
       ·have e1:(n:Int)-1+((0:Nat):Int)*(-1)=(n:Int)-1:=by simp
        have e2:(n:Int)-((0:Nat):Int)=n:=by simp
        rw[e1,e2]
        have:=Heap.get?_push_size (s1.heap.push {cls:=.type "range",data:=.fields #[.int ((n:Int)-1) t,.int (-1) t',.int (-1) t'']}) (o:={cls:=.type "range_iterator",data:=.fields #[rawInt ((n:Int)-1),rawInt (Builtin.Range.rangeSize ((n:Int)-1) (-1) (-1)),rawInt (-1)]}) rfl
        rw[xp7] at this ⊢
        exact this
       ·have e:b=(s1.heap.push {cls:=.type "range",data:=.fields #[.int ((n:Int)-1) t,.int (-1) t',.int (-1) t'']}).objs.size:=by simpa using hb
        subst e
        exact I2.fpOk (Nat.le_refl _) (I2.hok.fresh (Nat.le_refl _))
theorem zl4{ta:TA}(h:ta σ H fun vs H1=>∃ n:Nat,vs=[.int ((n:Int)-1),.int (-1),.int (-1)]/\(n:Int)<2 ^ 62/\R (Itv n) H1):zc2 ta σ H R:=h
theorem wr0{i:Nat}{items}{x:Value}(hit:s.heap.IsTupleIter it l i)(hl:s.heap.IsTuple l items)(hx:items[i]?=some x)(hQ:∀ h',h'.IsTupleIter it l (i+1)->Heap.SameBut it s.heap h'->Q x {s with heap:=h'}) :
 wpAny (model prog w) A (Builtin.SmallTypes.nextOf (.ref it)) Q E s:=by
 obtain⟨o,ho,hc,hd⟩:=id hit
 obtain⟨ol,hol,_,nl,hdl⟩:=hl
 unfold Builtin.SmallTypes.nextOf
 refine wpAny_bind (wpAny_callSpecial?_slot (name:=Str.ofString "__next__") hit.typeIs F.slot_tuple_iterator_next
  (wpAny_call_entry F.slot_tuple_iterator_next hit.typeIs F.entry_tuple_iterator_next ?_ (F.args_tuple_iterator_next_1 _)))
 show wpAny _ _ (field (.ref it) 0 >>= _) _ _ s
 refine wpAny_bind (wpAny_field ho hd (x:=.ref l) rfl ?_)
 show wpAny _ _ (if(Value.ref l == Value.none)=true then _ else _) _ _ s
 rw[if_neg (show ¬((Value.ref l == Value.none)=true) from Bool.false_ne_true)]
 show wpAny _ _ (field (.ref it) 1 >>= _) _ _ s
 refine wpAny_bind (wpAny_field ho hd (x:=.int i 0) rfl ?_)
 show wpAny _ _ (seqItems? (.ref l) >>= _) _ _ s
 refine wpAny_bind (wpAny_seqItems hol hdl ?_)
 simp only[Int.toNat_natCast,hx]
 refine wpAny_bind (wpAny_setField ho hd (by simp) (wpAny_pure ⟨x,rfl,wpAny_pure (hQ _ ?_ (Heap.SameBut.update ..))⟩))
 exact⟨_,Heap.get?_update_self _ ho (Obj.isFreed_of_fields (Obj.data_mapFields hd _)),(Obj.cls_mapFields ..).trans hc,by
  rw[Obj.data_mapFields hd];simp[rawInt]⟩
theorem qy4{i:Nat}{items}(hh:A.handled=none)(hit:s.heap.IsTupleIter it l i)(hl:s.heap.IsTuple l items)(hx:items[i]?=none)(hE:∀ h' e,Heap.ExtBut it s.heap h'->(∃ o,h'.get? e=some o/\o.cls=.type "StopIteration")->E (.ref e) {s with heap:=h'}) :
 wpAny (model prog w) A (Builtin.SmallTypes.nextOf (.ref it)) Q E s:=by
 obtain⟨o,ho,hc,hd⟩:=id hit
 obtain⟨ol,hol,_,nl,hdl⟩:=hl
 unfold Builtin.SmallTypes.nextOf
 refine wpAny_bind (wpAny_callSpecial?_slot (name:=Str.ofString "__next__") hit.typeIs F.slot_tuple_iterator_next
  (wpAny_call_entry F.slot_tuple_iterator_next hit.typeIs F.entry_tuple_iterator_next ?_ (F.args_tuple_iterator_next_1 _)))
 show wpAny _ _ (field (.ref it) 0 >>= _) _ _ s
 refine wpAny_bind (wpAny_field ho hd (x:=.ref l) rfl ?_)
 show wpAny _ _ (if(Value.ref l == Value.none)=true then _ else _) _ _ s
 rw[if_neg (show ¬((Value.ref l == Value.none)=true) from Bool.false_ne_true)]
 show wpAny _ _ (field (.ref it) 1 >>= _) _ _ s
 refine wpAny_bind (wpAny_field ho hd (x:=.int i 0) rfl ?_)
 show wpAny _ _ (seqItems? (.ref l) >>= _) _ _ s
 refine wpAny_bind (wpAny_seqItems hol hdl ?_)
 simp only[Int.toNat_natCast,hx]
 refine wpAny_bind (wpAny_rule (wpAny_bind (wpAny_setField ho hd (by simp) ?_)))
 show wpAny _ _ (newExc (.type "StopIteration") [] >>= _) _ _ _
 refine wpAny_bind ?_
 simp only[newExc,newTuple]
 refine wpAny_bind (wpAny_newObj_type ?_ (by size_fits))
 refine wpAny_bind (m:=firstArgMember _ _) (wpAny_of_eq (a:=Value.none) (by first|rfl|(simp only[firstArgMember];rfl)) ?_)
 refine wpAny_newObj_type ?_ (by size_fits)
 simp only[raiseNew]
 refine wpAny_bind (wpAny_handled ?_)
 first|rw[show A.in1.handled=none from hh]|rw[hh]
 refine wpAny_bind (wpAny_pure (wpAny_throw ?_))
 exact hE _ _ (((Heap.SameBut.update ..).extBut.push _).push _) ⟨_,Heap.get?_push_size _ rfl,rfl⟩
theorem ya3(hh:A.handled=none)(it l:Addr)(hne:l≠it)(items:Array Value) :
 Draws prog w A it [it,l] items.size (fun i v=>items[i]?=some v) (fun i h=>h.IsTupleIter it l i/\h.IsTuple l items) where
 live:=fun _ _ st=>let ⟨o,ho,_⟩:=st.1;⟨o,ho⟩
 frame:=fun _ _ _ st hk=>⟨st.1.at fun o e=>hk it (by simp) o e,st.2.at fun o e=>hk l (by simp) o e⟩
 item:=fun i s Q E hi st hQ=>by
  refine wr0 st.1 st.2 (x:=items[i]) (by simp[hi]) fun h' hit' hs'=>?_
  exact hQ _ h' s.toks (by simp[hi]) ⟨hit',st.2.extBut hs'.extBut hne⟩ hs'
 done:=fun s Q E st hE=>qy4 hh st.1 st.2 (by simp) hE
set_option maxHeartbeats 1000000 in
theorem wg1(l:Addr)(items:Array Value)(n:Nat)(dct:Option Addr)(sl:Array (Option Value)) :
 Meets (Builtin.«enumerate.__new__» ⟨[.type "enumerate",.ref l],[]⟩) (fun _ R s=>s.heap.get? l=some {cls:=.type "tuple",dict:=dct,data:=.seq items n,slots:=sl} /\
  R (.ok (.ret (.ref (s.heap.push {cls:=.type "tuple_iterator",data:=.fields #[.ref l,.int 0 0]}).objs.size)))
   {s with heap:=(s.heap.push {cls:=.type "tuple_iterator",data:=.fields #[.ref l,.int 0 0]}).push {cls:=.type "enumerate",data:=.fields #[.none,.bool false,.ref s.heap.objs.size,rawInt 0,.none,.none]}}) :=
 .of_wp fun prog w A R s h=>by
  obtain⟨hp,g,d,tk,os⟩:=s;obtain⟨hl,h⟩:=h
  have hsub:=sub_enumerate
  have hL:Heap.IsTuple (Shared.heap ⟨hp,g,d,tk,os⟩) l items:=⟨_,hl,rfl,n,rfl⟩
  wp_walk using AutoSeq1.wpAny_loadPart' hl
  refine wpAny_stack_any fun st=>wpAny_pure ?_
  split
  ·rename_i c _ _ _ _ _
   cases (c == Value.type "enumerate")
   ·wp_walk using AutoSeq1.wpAny_loadPart' hl,wpAny_pyIter_tuple hL
    exact⟨_,rfl,h⟩
   ·wp_walk using AutoSeq1.wpAny_loadPart' hl,wpAny_pyIter_tuple hL
    exact⟨_,rfl,h⟩
  ·wp_walk using AutoSeq1.wpAny_loadPart' hl,wpAny_pyIter_tuple hL
   exact⟨_,rfl,h⟩
theorem wg2(hL:s.heap.IsTuple l items) (h:∀ h',IsEnum h' (s.heap.objs.size+1) s.heap.objs.size 0 .none->h'.IsTupleIter s.heap.objs.size l 0->h'.objs.size=s.heap.objs.size+2 ->
  (∀ b o,s.heap.get? b=some o->h'.get? b=some o)->Q (.ref (s.heap.objs.size+1)) {s with heap:=h'}) :
 wpAny (model prog w) A (call (.type "enumerate") [.ref l]) Q E s:=by
 obtain⟨⟨c,dct,dt,sl⟩,hl,hc,n,hd⟩:=hL
 replace hc:c=.type "tuple":=hc
 replace hd:dt=.seq items n:=hd
 subst hc hd
 refine callType_new F.called_enumerate (by decide) (F.typeCall_enumerate_1 _) (F.newCall_enumerate_1 _) (fun obj=>F.args_object_init_2 obj _) F.entry_enumerate_new
  (wg1 l items n dct sl) ⟨hl,?_⟩
 have hz:(s.heap.push {cls:=.type "tuple_iterator",data:=.fields #[.ref l,.int 0 0]}).objs.size=s.heap.objs.size+1:=Heap.size_push ..
 show _/\_
 rw[hz]
 have he:IsEnum ((s.heap.push {cls:=.type "tuple_iterator",data:=.fields #[.ref l,.int 0 0]}).push
  {cls:=.type "enumerate",data:=.fields #[.none,.bool false,.ref s.heap.objs.size,rawInt 0,.none,.none]}) (s.heap.objs.size+1) s.heap.objs.size 0 .none:=by
  have:=Heap.get?_push_size (s.heap.push {cls:=.type "tuple_iterator",data:=.fields #[.ref l,.int 0 0]})
   (o:={cls:=.type "enumerate",data:=.fields #[.none,.bool false,.ref s.heap.objs.size,rawInt 0,.none,.none]}) rfl
  rw[hz] at this;exact this
 refine⟨⟨_,he,rfl⟩,h _ he ⟨_,Heap.get?_push_of_some _ (Heap.get?_push_size _ rfl),rfl,rfl⟩ (by rw[Heap.size_push,hz]) fun b o y=>Heap.get?_push_of_some _ (Heap.get?_push_of_some _ y)⟩
def Ite(K:Fg)(a:Addr):It:=⟨fun i H=>∃ xs x,SqT K H a xs/\xs[i]?=some x,fun i H x H'=>∃ p y,x=.ref p/\H p=none/\(∀ xs,SqT K H a xs->xs[i]?=some y)/\H'=upd H p (.tup [.int i,y]),fun i H=>∃ xs,SqT K H a xs/\xs.length<=i⟩
theorem yi7{k:Nat}(a e it:Addr)(hei:e≠it) :
 xe2 P w K (.Tuple elts k pos) (Ite K a) [e,it] e (fun i h=>(∃ old,IsEnum h e it i old)/\h.IsTupleIter it a i) where
 mem:=by simp
 obj:=by
  rintro i h ⟨⟨old,e1⟩,o2,e2,_,d2⟩ b hb
  have hb:b=e\/b=it:=by simpa using hb
  rcases hb with rfl|rfl
  ·exact⟨_,e1,fun v z=>by cases (show Data.fields _=Data.cell v from z)⟩
  ·exact⟨_,e2,fun v z=>by rw[d2] at z;cases z⟩
 keep:=fun i h h' st kk=>⟨let ⟨old,e1⟩:=st.1;⟨old,kk e (by simp) _ e1⟩,st.2.at fun o q=>kk it (by simp) o q⟩
 item:=by
  intro X hP hw hK hc i pins s σ H E I hf st hg
  subst hP hw hK
  obtain⟨xs,x,hq,hx⟩:=hg
  obtain⟨its,rv,p,hz⟩:=I.tuple hq
  obtain⟨u,hu,ru⟩:=rv.get hx
  have hil:i<its.toArray.size:=by rw[List.size_toArray];exact(List.getElem?_eq_some_iff.mp hu).1
  have pT:s.heap.IsTuple a its.toArray:=p
  have nea:a≠it:=fun z=>by
   obtain⟨o1,h1,c1,_⟩:=pT
   obtain⟨o2,h2,c2,_⟩:=st.2
   rw[z,h2] at h1
   cases h1
   rw[c1] at c2
   exact absurd c2 (by decide)
  have nee:e≠a:=fun z=>by
   obtain⟨o1,h1,c1,_⟩:=pT
   obtain⟨old,h2⟩:=st.1
   rw[<-z] at h1
   have h2:s.heap.get? e=some _:=h2
   rw[h2] at h1
   cases h1
   exact absurd c1 (show ¬(Value.type "enumerate"=Value.type "tuple") by decide)
  have W:=WalksT.enumerateD (prog:=X.prog) (w:=X.w) (A:=X.A) (ya3 (A:=X.A.in1) (show X.A.in1.handled=none from I.ok.hd hc) it a nea its.toArray) e hei (by simp[hei,nee]) (by simp)
  refine wpAny_with_toks (n:=1) I.tk (W.item i s _ _ hil ⟨st.1,st.2,pT⟩ fun T vs h' tk hv hT htup hmid kk ht=>?_)
  have ht:0<tk:=ht
  obtain⟨tk1,y,hy,rfl⟩:=hv
  have hy:its[i]?=some y:=by simpa using hy
  rw[hu] at hy
  injection hy with hy
  subst hy
  have hap:=W.apart i T h' hmid
  refine⟨_,rfl,W.go elts k pos i T {s with heap:=h',toks:=tk} _ _ hmid fun h2 st2 k2=>?_⟩
  have htup2:IsTup h2 T [Value.int i tk1,u].toArray:=by
   obtain⟨o,e,c⟩:=htup
   exact⟨o,k2 T o hap e,by simpa using c⟩
  have I1:Inv X pins σ (upd H T (.tup [.int i,x])) {s with heap:=h2,toks:=tk}:=I.turnLaid (ch:=[e,it]) (fun b hb=>hf b hb) (fun b u hb e=>k2 b u hb (kk b u hb e)) hT ⟨by rw[sizeLine_eq];simp,[Value.int i tk1,u],.cons ⟨tk1,rfl⟩ (.cons ru .nil),htup2⟩ ht
  refine⟨.ref T,_,I1,rfl,⟨T,x,rfl,I.hok.fresh hT,fun ys hy=>by rw[I.tuple_inj hy hq];exact hx,rfl⟩,⟨st2.1,st2.2.1⟩,fun b hb=>?_⟩
  have hb2:∃ o,s.heap.get? b=some o:=by
   have hb:b=e\/b=it:=by simpa using hb
   rcases hb with rfl|rfl
   ·obtain⟨old,e1⟩:=st.1;exact⟨_,e1⟩
   ·obtain⟨o,e1,_⟩:=st.2;exact⟨_,e1⟩
  obtain⟨o,e⟩:=hb2
  rw[B7 (Nat.ne_of_lt (Nat.lt_of_lt_of_le (Heap.lt_size e) hT))]
  exact(hf b hb).1
 done:=by
  intro X hP hw hK hc i pins s σ H E I hf st hg
  subst hP hw hK
  obtain⟨xs,hq,hx⟩:=hg
  obtain⟨its,rv,p,hz⟩:=I.tuple hq
  have pT:s.heap.IsTuple a its.toArray:=p
  have hno:its.toArray[i]?=none:=by
   have:=rv.length
   simp;omega
  obtain⟨old,he⟩:=st.1
  have D:Draws X.prog X.w X.A.in1 it [it,a] 0 (fun _ _=>True) (fun _ h=>h.IsTupleIter it a i/\h.IsTuple a its.toArray) :=
   { live:=fun _ _ st=>let ⟨o,ho,_⟩:=st.1;⟨o,ho⟩
     frame:=fun _ _ _ st hk=>⟨st.1.at fun o e=>hk it (by simp) o e,st.2.at fun o e=>hk a (by simp) o e⟩
     item:=fun j s Q E hj=>absurd hj (Nat.not_lt_zero _)
     done:=fun s Q E st hE=>qy4 (show X.A.in1.handled=none from I.ok.hd hc) st.1 st.2 hno hE}
  exact wpAny_pyNext_enum_endD D he ⟨st.2,pT⟩ fun h' hx=>⟨rfl,I.turnedL (ch:=[e,it]) (t':=s.toks) (fun b hb=>hf b hb) (fun b o hb y=>hx b o (fun z=>hb (by simp[z])) y) I.tk⟩
 self:=fun A i s Q E st h=>let ⟨old,e1⟩:=st.1;wpAny_pyIter_enum e1 h
def xs9(K:Fg)(ta:TA):TI:=fun σ H R=>ta σ H fun vs H1=>∃ a xs,vs=[.ref a]/\SqT K H1 a xs/\R (Ite K a) H1
theorem ya4{k:Nat}{p:Pos}{l:Expr}{ta:TA}(hg:Gl X "enumerate")(hm:X.mg "enumerate"=none)(ha:PA X [l] ta)(hs:autoParam (starEach [l] X.env=[(false,eval l X.env)]) zAr) :
 PI X (.Tuple elts k tpos) (.Call (.Name "enumerate" p) [l] [] pos) (xs9 X.K ta):=by
 intro pins s σ H R I h
 refine Call_ (wa6 I hg hm boot_enumerate (PyProof.Rows.callWith_type1 (thn (ha pos pins s σ H _ I h) fun us s1 zq=>?_) hs rfl))
 obtain⟨vs,H1,I1,r1,q1⟩:=zq
 obtain⟨a,xs,e,hq,q⟩:=q1
 subst e
 obtain⟨v,rfl,rv⟩:=wd3 r1
 cases rv
 obtain⟨its,rv,pT,hz⟩:=I1.tuple hq
 refine wg2 (show s1.heap.IsTuple a its.toArray from pT) fun h' he hit hz hk=>?_
 have I2:Inv X pins σ H1 {s1 with heap:=h'}:=I1.kept (t':=s1.toks) hk
 refine wpAny_pyIter_enum he ?_
 have ne:s1.heap.objs.size+1≠s1.heap.objs.size:=by omega
 refine⟨s1.heap.objs.size+1,_,_,_,H1,rfl,I2,yi7 a (s1.heap.objs.size+1) s1.heap.objs.size ne,⟨⟨_,he⟩,hit⟩,fun b hb=>?_,q⟩
 have hb:b=s1.heap.objs.size+1\/b=s1.heap.objs.size:=by simpa using hb
 rcases hb with rfl|rfl
 ·exact I1.fpOk (Nat.le_succ _) (I1.hok.fresh (Nat.le_succ _))
 ·exact I1.fpOk (Nat.le_refl _) (I1.hok.fresh (Nat.le_refl _))
theorem zc3{ta:TA}(h:ta σ H fun vs H1=>∃ a xs,vs=[.ref a]/\SqT K H1 a xs/\R (Ite K a) H1):xs9 K ta σ H R:=h
theorem xp8(hq:SqT K H a xs)(Pv:Nat->St->Hp->Prop)(h0:Pv 0 σ H)(hk:∀ i σ H',Pv i σ H'->SqT K H' a xs)(hs:∀ i x σ H p,xs[i]?=some x->Pv i σ H->H p=none->g (.ref p) σ (upd H p (.tup [.int i,x])) fun σ2 H2=>tb {D with nx:=PAt Pv (i+1),ct:=PAt Pv (i+1),bk:=D.nx} σ2 H2)(hd:∀ σ H,Pv xs.length σ H->D.nx σ H) :
 ∃ b ys,[V.ref a]=[.ref b]/\SqT K H b ys/\wq7 g tb D σ (Ite K b) H:=by
 refine⟨a,xs,rfl,hq,fun i m σ H=>m=xs.length-i/\i<=xs.length/\Pv i σ H,⟨xs.length,by simp,Nat.zero_le _,h0⟩,?_⟩
 rintro i m σ H ⟨rfl,hi,p⟩
 have sq:=hk i σ H p
 by_cases hlt:i<xs.length
 ·refine .inr ⟨⟨xs,xs[i],sq,by simp[hlt]⟩,Pv (i+1),fun σ' H' p'=>⟨xs.length-(i+1),by omega,rfl,hlt,p'⟩,fun x H' y=>?_⟩
  obtain⟨t,z,rfl,ht,hz,rfl⟩:=y
  exact hs i z σ H t (hz xs sq) p ht
 ·have e:i=xs.length:=by omega
  subst e
  exact .inl ⟨⟨xs,sq,Nat.le_refl _⟩,hd σ H p⟩
theorem zc4(hn:(n:Int)<2 ^ 62)(Pv:Nat->St->Hp->Prop)(p0:Pv 0 σ H)(hs:∀ (i:Nat) σ H,i<n->Pv i σ H->g (.int ((n:Int)-1-i)) σ H fun σ2 H2=>tb {D with nx:=PAt Pv (i+1),ct:=PAt Pv (i+1),bk:=D.nx} σ2 H2)(hd:∀ σ H,Pv n σ H->D.nx σ H) :
 ∃ m:Nat,[V.int ((n:Int)-1),V.int (-1),V.int (-1)]=[.int ((m:Int)-1),.int (-1),.int (-1)]/\(m:Int)<2 ^ 62/\wq7 g tb D σ (Itv m) H:=by
 obtain⟨m,e,h1,h2⟩:=zk7 hn Pv p0 hs hd
 injection e with e
 injection e with e
 have:n=m:=by omega
 subst this
 exact⟨n,rfl,h1,h2⟩
section
variable{Q:VK}
theorem zc5(h1:H p=some (.lst xs))(h2:H b=some (.lst zs))(hz:xs.length+zs.length<=sizeLine)(h:Q .non (upd H p (.lst (xs++zs)))):xd2 (.ref p) [.ref b] H Q:=⟨p,b,xs,zs,rfl,rfl,h1,h2,hz,h⟩
end
section
variable{Q:VK}
theorem zl5(h:td σ H fun x H1=>ty σ H1 fun y H2=>∃ a v,x=.ref a/\xl3 H2 a y (some v)/\Q v H2):yy9 td ty σ H Q:=h
end
section
variable{t:TE}
def tFs(c1 c2:Str)(t:TE):TE:=fun σ H Q=>t σ H fun x H1=>∃ z,x=.str z/\z.length<=4096/\Q (.str (c1++z++c2)) H1
theorem zq1{c1 c2:Str}{p3:Pos}(he:PE X e t)(h1:autoParam (c1.length<=4096) zAd)(h2:autoParam (c2.length<=4096) zAd) :
 PE X (.JoinedStr [.Constant (.str c1) j1 p1,.FormattedValue e (-1) none p2,.Constant (.str c2) j2 p3] pos) (tFs c1 c2 t):=by
 intro pins s σ H Q I h
 have e0:Str.empty++c1=c1:=Str.empty_append c1
 have hs:sizeLine=16777216:=sizeLine_eq
 refine JoinedStr_many (joinParts_cons (Calls.Constant_str ?_))
 refine⟨by rw[e0,hs];omega,?_⟩
 rw[e0]
 refine joinParts_cons (FormattedValue_plain (thn (he pins _ σ H _ (I.tok _) h) fun u s1 zq=>?_))
 obtain⟨x,H1,I1,r1,z,e1,hz,q⟩:=zq
 subst e1
 obtain⟨tk,rfl⟩:=r1
 refine wpAny_with_toks (n:=1) I1.tk (formatField_str (fun t' tk'=>?_) (by rw[hs];omega))
 intro htk
 refine⟨by rw[strLen_append,hs];omega,?_⟩
 refine joinParts_consE (joinParts_cons (Calls.Constant_str ?_))
 refine⟨by rw[strLen_append,strLen_append,hs];omega,joinParts_nilE (joinParts_nil ?_ (by rw[strLen_append,strLen_append,hs];omega))⟩
 exact⟨.str (c1++z++c2),H1,I1.tok _,⟨_,rfl⟩,q⟩
end
theorem xp9:Manifest.owners.lookup (String.ofList ['d','e','s','r','e','v','e','r'].reverse)=some Manifest.sig_reversed:=by kernel_rfl
theorem qd6:Slot "reversed" "__next__" "reversed.__next__" :=
 .of (owner := "reversed") (n := "__next__") (by rw[typeLookup_type,builtinLookup_eq_fast];kernel_rfl) (by decide +kernel) (by decide +kernel) (by decide +kernel)
  (by first|exact .inl (by decide +kernel)|exact .inr (by decide +kernel)) (by rw[isSubtype_type];kernel_rfl)
theorem wg3:entryFor table "reversed.__next__"=some Builtin.«reversed.__next__»:=entryFor_of_tree (by kernel_rfl)
theorem wd4(a:Value):argsOk "reversed.__next__" ⟨[a],[]⟩:=by
 unfold argsOk;rw[signature?_of (id := "reversed.__next__") (n:=['_','_','t','x','e','n','_','_']) (o:=['d','e','s','r','e','v','e','r']) (by kernel_rfl) xp9];kernel_rfl
theorem wl9:Slot "reversed" "__iter__" "reversed.__iter__" :=
 .of (owner := "reversed") (n := "__iter__") (by rw[typeLookup_type,builtinLookup_eq_fast];kernel_rfl) (by decide +kernel) (by decide +kernel) (by decide +kernel)
  (by first|exact .inl (by decide +kernel)|exact .inr (by decide +kernel)) (by rw[isSubtype_type];kernel_rfl)
theorem xb6(a:Value):argsOk "reversed.__iter__" ⟨[a],[]⟩:=by
 unfold argsOk;rw[signature?_of (id := "reversed.__iter__") (n:=['_','_','r','e','t','i','_','_']) (o:=['d','e','s','r','e','v','e','r']) (by kernel_rfl) xp9];kernel_rfl
theorem xf9:entryFor table "reversed.__iter__"=some Builtin.«dict_keyiterator.__iter__» :=
 entryFor_alias (id' := "dict_keyiterator.__iter__") (by kernel_rfl) (by first | rfl | decide +kernel | (unfold String.splitOn; simp +decide [String.splitOnAux])) (by decide +kernel) (by kernel_rfl)
theorem xl5:Slot "reversed" "__init__" "object.__init__" :=
 .of (owner := "object") (n := "__init__") (by rw[typeLookup_type,builtinLookup_eq_fast];kernel_rfl) (by decide +kernel) (by decide +kernel) (by decide +kernel)
  (by first|exact .inl (by decide +kernel)|exact .inr (by decide +kernel)) (by rw[isSubtype_type];kernel_rfl)
theorem xb7:TypeCalled "reversed" "reversed.__new__" "object.__init__" :=
 ⟨by decide +kernel,by decide +kernel,⟨_,_,F.mro_reversed⟩,F.made_reversed,by decide +kernel,by rw[isSubtype_type];kernel_rfl,xl5⟩
theorem xb8:typeLookup (.type "tuple") "__reversed__"=pure none:=by rw[typeLookup_type,builtinLookup_eq_fast];kernel_rfl
theorem wg4:typeLookup (.type "tuple") "__getitem__"=pure (some (.builtin "tuple.__getitem__")):=by rw[typeLookup_type,builtinLookup_eq_fast];kernel_rfl
def yi8(l:Addr)(i:Int):Obj:={cls:=.type "reversed",data:=.fields #[.ref l,rawInt i]}
def wg5(h:Heap)(a l:Addr)(i:Int):Prop:=∃ o,h.get? a=some o/\o.cls=.type "reversed"/\o.data=.fields #[.ref l,rawInt i]
theorem wg5.typeIs(x:wg5 s.heap a l i):s.TypeIs (.ref a) "reversed":=let ⟨o,ho,hc,_⟩:=x;⟨o,ho,hc⟩
theorem wg5.at(x:wg5 h a l i)(e:∀ o,h.get? a=some o->h'.get? a=some o):wg5 h' a l i:=let ⟨o,ho,r⟩:=x;⟨o,e _ ho,r⟩
theorem wk9(l:Addr)(items:Array Value)(hz:(items.size:Int)<2 ^ 63) :
 Meets (Builtin.«reversed.__new__» ⟨[.type "reversed",.ref l],[]⟩) (fun _ R s=>IsTup s.heap l items /\
  R (.ok (.ret (.ref s.heap.objs.size))) {s with heap:=s.heap.push (yi8 l ((items.size:Int)-1)),toks:=s.toks+1+1}) :=
 .of_wp fun prog w A R s h=>by
  obtain⟨ht,h⟩:=h
  unfold Builtin.«reversed.__new__»
  refine wpAny_bind (wpAny_of_eq (newClass_reversed _) ?_)
  try dsimp only
  refine wpAny_bind (wpAny_of_eq (a:=()) (by first|rfl|kernel_rfl) ?_)
  refine wpAny_bind (wpAny_of_eq (a:=()) (by first|rfl|kernel_rfl) ?_)
  try dsimp only
  refine wpAny_bind (wpAny_specialOf ht.typeIs xb8 ?_)
  try dsimp only
  refine wpAny_bind ?_
  show wpAny _ _ (isInstance (.ref l) (.type "dict") >>= _) _ _ _
  refine wpAny_bind (wpAny_isInstance ht.typeIs sub_tuple_dict ?_)
  try dsimp only
  rw[if_neg (by decide)]
  refine wpAny_bind (wpAny_specialOf ht.typeIs wg4 ?_)
  try dsimp only
  rw[if_pos (by decide)]
  refine wpAny_pure ?_
  try dsimp only
  rw[if_neg (by decide)]
  refine wpAny_bind (len_tuple ht hz ?_)
  refine wpAny_bind (m:=asInt? _) (wpAny_of_eq (a:=some (items.size:Int)) rfl ?_)
  try dsimp only
  refine wpAny_bind ?_
  show wpAny _ _ (newObj (.type "reversed") (.fields #[.ref l,rawInt ((items.size:Int)-1)]) none) _ _ _
  refine wpAny_newObj_type ?_ (by size_fits)
  exact wpAny_pure ⟨_,rfl,h⟩
theorem wr1(hl:IsTup s.heap l items)(hz:(items.size:Int)<2 ^ 63)(h:Q (.ref s.heap.objs.size) {s with heap:=s.heap.push (yi8 l ((items.size:Int)-1)),toks:=s.toks+1+1}):wpAny (model prog w) A (call (.type "reversed") [.ref l]) Q E s :=
 callType_new xb7 (by decide) (F.typeCall_reversed_1 _) (F.newCall_reversed_1 _) (fun obj=>F.args_object_init_2 obj _) F.entry_reversed_new (wk9 l items hz)
  ⟨hl,⟨_,Heap.get?_push_size _ rfl,rfl⟩,h⟩
theorem xb9{i:Nat}{x:Value}{Q:Option Value->Shared->Prop}(hit:wg5 s.heap it l (i:Int))(hl:IsTup s.heap l items)(hi:(i:Int)<2 ^ 63)(hx:items[i]?=some x)(hQ:∀ h' tk,wg5 h' it l ((i:Int)-1)->Heap.SameBut it s.heap h'->Q (some x) {s with heap:=h',toks:=tk}):wpAny (model prog w) A (pyNext (.ref it)) Q E s:=by
 obtain⟨o,ho,hc,hd⟩:=id hit
 unfold pyNext
 refine wpAny_bind (wpAny_attempt (wpAny_callSpecial?_slot (name:=Str.ofString "__next__") hit.typeIs qd6
  (wpAny_call_entry qd6 hit.typeIs wg3 ?_ (wd4 _))))
 unfold Builtin.«reversed.__next__»
 refine wpAny_bind (wpAny_of_eq (a:=(Value.ref it,[])) rfl ?_)
 try dsimp only
 refine wpAny_bind (wpAny_field ho hd (x:=.ref l) rfl ?_)
 refine wpAny_bind (wpAny_field ho hd (x:=rawInt (i:Int)) rfl ?_)
 show wpAny _ _ (if(i:Int)<0 then _ else _) _ _ s
 rw[if_neg (by omega)]
 refine wpAny_bind (wpAny_specialOf hl.typeIs wg4 ?_)
 try dsimp only
 rw[if_neg (by decide)]
 have hil:i<items.size:=(Array.getElem?_eq_some_iff.mp hx).1
 refine wpAny_bind (wpAny_mkInt ?_)
 refine wpAny_bind (wpAny_attempt (getItem_tuple (j:=i) hl (by omega) hi (by unfold seqIndex?;simp;omega) hx ?_))
 try dsimp only
 refine wpAny_bind (wpAny_field (s:={s with toks:=s.toks+1}) ho hd (x:=rawInt (i:Int)) rfl ?_)
 show wpAny _ _ (setField (.ref it) 1 (rawInt ((i:Int)-1)) >>= _) _ _ _
 refine wpAny_bind (wpAny_setField (s:={s with toks:=s.toks+1}) ho hd (by simp) ?_)
 refine wpAny_pure ⟨x,rfl,wpAny_pure (hQ _ _ ?_ (Heap.SameBut.update ..))⟩
 exact⟨_,Heap.get?_update_self _ ho (Obj.isFreed_of_fields (Obj.data_mapFields hd _)),(Obj.cls_mapFields ..).trans hc,by
  rw[Obj.data_mapFields hd];simp⟩
theorem xg0{Q:Option Value->Shared->Prop}(hh:A.handled=none)(hit:wg5 s.heap it l (-1))(hQ:∀ h',Heap.ExtBut it s.heap h'->Q none {s with heap:=h'}):wpAny (model prog w) A (pyNext (.ref it)) Q E s:=by
 obtain⟨o,ho,hc,hd⟩:=id hit
 unfold pyNext
 refine wpAny_bind (wpAny_attempt (wpAny_callSpecial?_slot (name:=Str.ofString "__next__") hit.typeIs qd6
  (wpAny_call_entry qd6 hit.typeIs wg3 ?_ (wd4 _))))
 unfold Builtin.«reversed.__next__»
 refine wpAny_bind (wpAny_of_eq (a:=(Value.ref it,[])) rfl ?_)
 try dsimp only
 refine wpAny_bind (wpAny_field ho hd (x:=.ref l) rfl ?_)
 refine wpAny_bind (wpAny_field ho hd (x:=rawInt (-1)) rfl ?_)
 show wpAny _ _ (if(-1:Int)<0 then _ else _) _ _ s
 rw[if_pos (by decide)]
 refine wpAny_bind (wpAny_rule ?_)
 refine wpAny_bind ?_
 show wpAny _ _ (setField (.ref it) 1 (rawInt (-1)) >>= _) _ _ _
 refine wpAny_bind (wpAny_setField ho hd (by simp) ?_)
 have h1:=Heap.get?_update_self (Obj.mapFields (·.setIfInBounds 1 (rawInt (-1)))) ho (Obj.isFreed_of_fields (Obj.data_mapFields hd _))
 have d1:=Obj.data_mapFields hd (·.setIfInBounds 1 (rawInt (-1)))
 refine wpAny_setField (s:={s with heap:=_}) h1 d1 (by simp) ?_
 have eb:Heap.ExtBut it s.heap ((s.heap.update it (Obj.mapFields (·.setIfInBounds 1 (rawInt (-1))))).update it (Obj.mapFields (·.setIfInBounds 0 Value.none))):=by
  intro b u hb e
  exact((Heap.SameBut.update _ _ _).2 b hb).trans (((Heap.SameBut.update _ _ _).2 b hb).trans e)
 first
 | show wpAny _ _ (newExc (.type "StopIteration") [] >>= _) _ _ _
 | (refine wpAny_bind ?_;show wpAny _ _ (newExc (.type "StopIteration") [] >>= _) _ _ _)
 refine wpAny_bind ?_
 simp only[newExc,newTuple]
 refine wpAny_bind (wpAny_newObj_type ?_ (by size_fits))
 refine wpAny_bind (m:=firstArgMember _ _) (wpAny_of_eq (a:=Value.none) (by first|rfl|(simp only[firstArgMember];rfl)) ?_)
 refine wpAny_newObj_type ?_ (by size_fits)
 simp only[raiseNew]
 refine wpAny_bind (wpAny_handled ?_)
 first|rw[show A.in1.handled=none from hh]|rw[hh]
 refine wpAny_bind (wpAny_pure (wpAny_throw ?_))
 refine wpAny_bind (wpAny_isInstance (T := "StopIteration") (b:=true) ⟨_,Heap.get?_push_size _ rfl,rfl⟩ isSubtype_stop ?_)
 exact wpAny_pure (hQ _ ((eb.push _).push _))
theorem xg1(hit:wg5 s.heap it l i)(h:Q (.ref it) s):wpAny (model prog w) A (pyIter (.ref it)) Q E s:=by
 refine wpAny_pyIter_slot hit.typeIs wl9 (wpAny_call_entry wl9 hit.typeIs xf9 ?_ (xb6 _))
 show wpAny _ _ (ret (.ref it)) _ _ s
 exact wpAny_pure ⟨_,rfl, "reversed",_,hit.typeIs,qd6.lookup,h⟩
def zl6(K:Fg)(a:Addr)(n:Nat):It :=
 ⟨fun i H=>i<n/\∃ xs x,SqT K H a xs/\xs[n-1-i]?=some x,fun i H x H'=>H'=H/\∀ xs,SqT K H a xs->xs[n-1-i]?=some x,fun i _=>i=n⟩
theorem yu8{tg:Expr}(a it:Addr)(n:Nat):xe2 P w K tg (zl6 K a n) [it] it (fun i h=>wg5 h it a ((n:Int)-1-(i:Int))) where
 mem:=by simp
 obj:=fun i h st b hb=>by
  have e:b=it:=by simpa using hb
  subst e
  obtain⟨o,e,c,d⟩:=st
  exact⟨o,e,fun v z=>by rw[d] at z;cases z⟩
 keep:=fun i h h' st k=>st.at fun o e=>k it (by simp) o e
 item:=by
  intro X hP hw hK hc i pins s σ H E I hf st hg
  subst hP hw hK
  obtain⟨hi,xs,x,hq,hx⟩:=hg
  obtain⟨its,rv,p,hz⟩:=I.tuple hq
  obtain⟨u,hu,ru⟩:=rv.get hx
  obtain⟨f0,f1,f2,f3,f4,f5⟩:=hf it (by simp)
  have e:(n:Int)-1-(i:Int)=((n-1-i:Nat):Int):=by omega
  have st1:=st
  rw[e] at st1
  have hlt:=(List.getElem?_eq_some_iff.mp hx).1
  have hs:sizeLine=16777216:=sizeLine_eq
  refine wpAny_with_toks (n:=1) I.tk (xb9 st1 p (by omega) (x:=u) (by simpa using hu) fun h' tk st' sb=>?_)
  intro htk
  have I1:Inv X pins σ H {s with heap:=h',toks:=tk}:=I.turned (t':=tk) (fun b o hb e=>(sb.2 b hb).trans e) f0 f1 f3 f4 f5
  obtain⟨o,e',c,d⟩:=id st'
  have e2:((n-1-i:Nat):Int)-1=(n:Int)-1-((i+1:Nat):Int):=by omega
  rw[e2] at st'
  exact⟨u,rfl,xn8 (s:={s with heap:=h',toks:=tk}) e' c d (by decide) ⟨x,H,I1,ru,⟨rfl,fun ys hy=>by rw[I.tuple_inj hy hq];exact hx⟩,st',fun b hb=>(hf b hb).1⟩⟩
 done:=by
  intro X hP hw hK hc i pins s σ H E I hf st hg
  subst hP hw hK
  have hg:i=n:=hg
  subst hg
  obtain⟨f0,f1,f2,f3,f4,f5⟩:=hf it (by simp)
  have e:(i:Int)-1-(i:Int)=-1:=by omega
  have st1:=st
  rw[e] at st1
  exact xg0 (I.ok.hd hc) st1 fun h' eb=>⟨rfl,I.turned (t':=s.toks) (fun b o hb e=>eb b o hb e) f0 f1 f3 f4 f5⟩
 self:=fun _ _ _ _ _ st h=>xg1 st h
def zc6(K:Fg)(ta:TA):TI:=fun σ H R=>ta σ H fun vs H1=>∃ a xs,vs=[.ref a]/\SqT K H1 a xs/\R (zl6 K a xs.length) H1
theorem zl7{tg:Expr}{l:Expr}{ta:TA}{p:Pos}(hg:Gl X "reversed")(hm:X.mg "reversed"=none)(ha:PA X [l] ta)(hs:autoParam (starEach [l] X.env=[(false,eval l X.env)]) zAr) :
 PI X tg (.Call (.Name "reversed" p) [l] [] pos) (zc6 X.K ta):=by
 intro pins s σ H R I h
 refine Call_ (wa6 I hg hm boot_reversed (PyProof.Rows.callWith_type1 (thn (ha pos pins s σ H _ I h) fun us s1 zq=>?_) hs rfl))
 obtain⟨vs,H1,I1,r1,q1⟩:=zq
 obtain⟨a,xs,e,hq,q⟩:=q1
 subst e
 obtain⟨v,rfl,rv⟩:=wd3 r1
 cases rv
 obtain⟨its,rv,p,hz⟩:=I1.tuple hq
 have hsz:sizeLine=16777216:=sizeLine_eq
 have hlen:=rv.length
 refine wr1 p (by simp only[List.size_toArray];omega) ?_
 have e:((its.toArray.size:Nat):Int)-1=(xs.length:Int)-1-((0:Nat):Int):=by rw[rv.length];simp
 rw[e]
 have hit:wg5 (s1.heap.push (yi8 a ((xs.length:Int)-1-((0:Nat):Int)))) s1.heap.objs.size a ((xs.length:Int)-1-((0:Nat):Int)):=⟨_,Heap.get?_push_size _ rfl,rfl,rfl⟩
 refine xg1 hit ?_
 refine⟨s1.heap.objs.size,[s1.heap.objs.size],_,_,H1,rfl,I1.kept (t':=s1.toks+1+1) fun b o e=>Heap.get?_push_of_some _ e,yu8 a _ xs.length,hit,fun b hb=>?_,q⟩
 have e:b=s1.heap.objs.size:=by simpa using hb
 subst e
 exact I1.fpOk (Nat.le_refl _) (I1.hok.fresh (Nat.le_refl _))
section
variable{Q:VK}
theorem zl8{ta:TA}(h:ta σ H fun vs H1=>∃ a xs,vs=[.ref a]/\SqT K H1 a xs/\R (zl6 K a xs.length) H1):zc6 K ta σ H R:=h
end
section
variable{Q:VK}
theorem zc7(hq:SqT K H a xs)(Pv:Nat->St->Hp->Prop)(h0:Pv 0 σ H)(hk:∀ i σ H',Pv i σ H'->SqT K H' a xs)(hs:∀ i x σ H,xs[xs.length-1-i]?=some x->i<xs.length->Pv i σ H->g x σ H fun σ2 H2=>tb {D with nx:=PAt Pv (i+1),ct:=PAt Pv (i+1),bk:=D.nx} σ2 H2)(hd:∀ σ H,Pv xs.length σ H->D.nx σ H) :
 ∃ b ys,[V.ref a]=[.ref b]/\SqT K H b ys/\wq7 g tb D σ (zl6 K b ys.length) H:=by
 refine⟨a,xs,rfl,hq,fun i m σ H=>m=xs.length-i/\i<=xs.length/\Pv i σ H,⟨xs.length,by simp,Nat.zero_le _,h0⟩,?_⟩
 rintro i m σ H ⟨rfl,hi,p⟩
 have sq:=hk i σ H p
 by_cases hlt:i<xs.length
 ·refine .inr ⟨⟨hlt,xs,xs[xs.length-1-i],sq,List.getElem?_eq_getElem (by omega)⟩,Pv (i+1),fun σ' H' p'=>⟨xs.length-(i+1),by omega,rfl,hlt,p'⟩,fun x H' y=>?_⟩
  obtain⟨rfl,hz⟩:=y
  exact hs i x σ _ (hz xs sq) hlt p
 ·have e:i=xs.length:=by omega
  subst e
  exact .inl ⟨rfl,hd σ H p⟩
end
def yo5:V->List V->Hp->VK->Prop:=fun x xs H Q=>∃ z c:Str,x=.str z/\xs=[.str c]/\z.length<=1000000/\Q (.str (PySem.Txt.stripChars z c)) H
theorem yu9:MtR X "str.strip" yo5:=by
 intro pins s σ H x vs v us Q I rx rv h
 obtain⟨z,c,rfl,rfl,hz,q⟩:=h
 obtain⟨t,rfl⟩:=rx
 obtain⟨u,rfl,ru⟩:=rv.one
 obtain⟨t',rfl⟩:=ru
 refine wpAny_with_toks (n:=1) I.tk (call_gives F.slot_str_strip (typeIs_str _ _ _) F.entry_str_strip (F.args_str_strip_2 _ _) (gives_str_strip_chars z c t t') (post_val_or_made (fun _=>fits_stripped _ _ _ (by rw[sizeLine_eq];omega)) fun t2 k=>?_))
 intro hk
 exact⟨.str (PySem.Txt.stripChars z c),H,I.tok _ hk,⟨_,rfl⟩,q⟩
section
variable{Q:VK}{f:Str}{E:XK}
theorem J9(h:ta σ H fun x H1=>∃ a C dx fs v,x=.ref a/\H1 a=some (.ins C dx fs)/\Cls K C/\wf1 K C f/\fs.lookup f=some v/\Q v H1):T3 K ta f σ H Q:=h
theorem ql7(h:tv σ H fun y H1=>ta σ H1 fun x H2=>∃ a C dx fs,x=.ref a/\H2 a=some (.ins C dx fs)/\Cls K C/\wf1 K C f/\fs.length<1000/\D.nx σ (upd H2 a (.ins C dx (qm6 f y fs)))):wf2 K ta tv f D σ H:=h
theorem J4(h:ta σ H fun x H1=>∃ a dx fs,x=.ref a/\H1 a=some (.ins C dx fs)/\fs.lookup m=none/\t σ H1 fun vs H2=>sp (x::(vs++dvs)) H2 Q E):N9 C m sp dvs E ta t σ H Q:=h
theorem xt0(h:t σ H fun vs H1=>∀ x dx,H1 x=none->H1 dx=none->dx≠x->sp (.ref x::(vs++dvs)) (upd (upd H1 dx (.own x)) x (.ins C dx [])) (fun v H2=>v=.non/\Q (.ref x) H2) E):xy3 C sp dvs E t σ H Q:=h
end
end L2
local macro_rules | `(tactic| lk) => do
 let a <- ("qg3 qt4 Z2 yh9 L3 za0 xz4 Aa0 zt4 zj9 zk0 za1 zt5 xs6 Aa1 yn6 za2 Aa2 za3 zk1 zk2 za4 yn7 zt6 zt7 zk3 zp3 Aa3 za5 yn5 zt8 Aa4 za7 yz8 zj8 za6 zk4 zk5 Ab2 zk9 yu1 zu2 zl0 zb5 zl1 zu3 zl4 zc3 zl5 xs7 za8 zp4 Aa5 Aa6 zp5 zp7 yo3 zb6 Ad3 zk6".splitOn " ").toArray.mapM fun n => `(Lean.Parser.Tactic.tacticSeq| refine $(Lean.mkIdent (.str `L2 n)) ?_)
 `(tactic| (repeat (first | (with_reducible first $[| $a]*) | ((with_reducible refine' L2.wg0 ?ev ?_); (case ev => exact rfl)) | ((with_reducible refine L2.yn8 ?ec ?_); (case ec => first | decide | omega | assumption)) | ((with_reducible refine L2.zt9 ?ec ?_); (case ec => first | exact ⟨by decide, by decide⟩ | exact ⟨by omega, by omega⟩)))))
local macro_rules | `(tactic| x_go) => `(tactic| refine L2.qt4 ?_)
local macro_rules | `(tactic| k_go) => `(tactic| refine L2.Z2 ?_)
namespace My
open PySem L2
variable{H H':Hp}{K:Fg}{Q:VK}{v:V}{x y:Str}{α:Type}{E:XK}{vs:List V}
section
open PyProof.Rows
set_option genInjectivity false in
structure Row where
 name:Str
 sort:Str
 host:Str
 shuts:List Str
 bars:List Str
def Row.da(r:Row):PyData:=.tuple [.str r.name,.str r.sort,.str r.host,.tuple (sDa r.shuts),.tuple (sDa r.bars)]
def oV:Option Str->V
 | some s=>.str s
 | none=>.non
variable{r:Row}
theorem qy5(h:Dv K H r.da v):∃ b sv bv,v=.ref b/\SqT K H b [.str r.name,.str r.sort,.str r.host,sv,bv]/\Dv K H (.tuple (sDa r.shuts)) sv/\Dv K H (.tuple (sDa r.bars)) bv:=by
 obtain⟨b,ys,rfl,hb,h⟩:=C7.mp h
 rw[Dvs] at h;obtain⟨v1,r1,rfl,e1,h⟩:=h
 rw[Dvs] at h;obtain⟨v2,r2,rfl,e2,h⟩:=h
 rw[Dvs] at h;obtain⟨v3,r3,rfl,e3,h⟩:=h
 rw[Dvs] at h;obtain⟨v4,r4,rfl,e4,h⟩:=h
 rw[Dvs] at h;obtain⟨v5,r5,rfl,e5,h⟩:=h
 rw[Dvs] at h;subst h
 rw[E6.mp e1,E6.mp e2,E6.mp e3] at hb
 exact⟨b,v4,v5,rfl,hb,e4,e5⟩
def Rws(K:Fg)(H:Hp)(v:V)(rs:List Row):Prop:=∃ a vs,v=.ref a/\(SqL K H a vs\/SqT K H a vs)/\Dvs K H (rs.map Row.da) vs
theorem zq2 {n:Option Str} (h:Q (.bl (decide (some x=n))) H):qg1 K (.str x) (oV n) H Q:=by
 cases n with
 | none => refine xz6 rfl ?_;have e:(decide ((V.str x)=oV none))=decide (some x=none):=by simp[oV]
           rw[e];exact h
 | some y => refine xz6 rfl ?_;have e:(decide ((V.str x)=oV (some y)))=decide (some x=some y):=by simp[oV]
             rw[e];exact h
theorem yo3(h:Q (.bl (decide (x=y))) H):qg1 K (.str x) (.str y) H Q:=by
 refine xz6 rfl ?_
 have e:(decide ((V.str x)=V.str y))=decide (x=y):=by simp
 rw[e];exact h
theorem zb6(h:Q (.bl (!decide (x=y))) H):xs3 K (.str x) (.str y) H Q:=by
 refine Aa7 rfl ?_
 have e:(decide ((V.str x)=V.str y))=decide (x=y):=by simp
 rw[e];exact h
theorem zp7{x y:Int}(h:Q (.bl (decide (x=y))) H):qg1 K (.int x) (.int y) H Q:=by
 refine xz6 rfl ?_
 have e:(decide ((V.int x)=V.int y))=decide (x=y):=by simp
 rw[e];exact h
def qb2(rs:List Row)(n:Option Str):Option Row:=rs.find? fun r=>decide (some r.name=n)
def L9(rs:List Row)(n:Option Str):Option Str:=(qb2 rs n).map (·.sort)
def Q8(rs:List Row)(n:Option Str):Option Str:=(qb2 rs n).bind fun r=>if r.sort=("frame":Str) then some r.host else none
def N4(rs:List Row)(n:Option Str):Option Str:=(rs.find? fun r=>decide (r.sort=("frame":Str)) && decide (some r.host=n)).map (·.name)
def qg6(K:Fg):Sp:=fun vs H Q _=>∃ v n rs,vs=[v,oV n]/\Rws K H v rs/\(qb2 rs n=none->Q .non H)/\∀ r u,qb2 rs n=some r->Dv K H r.da u->Q u H
theorem yi9(K:Fg):∀ vs H Q E,qg6 K vs H Q E->vs.length=["rows","name"].length:=by
 rintro vs H Q E ⟨v,n,rs,rfl,_⟩;rfl
def wr2(K:Fg):TS :=
 (C0 (qx9 (wf8 K (A3 0)) (B2 2)
 (T2 (L0 (tOp (qg1 K) (tOp (M7 K) (A3 2) (tC (.int 0))) (A3 1)))
 (M0 (A3 2)) O5))
 (M0 (tC .non)))
theorem qr4{α:Type}{p:α->Bool}:∀ {l:List α} {i:Nat} {x:α},l[i]?=some x->(∀ y∈l.take i,p y=false)->p x=true->l.find? p=some x
 | y::l,0,x,e,_,hp=>by cases e;rw[List.find?_cons,hp]
 | y::l,i+1,x,e,h,hp=>by
   have hy:p y=false:=h y (by simp)
   rw[List.find?_cons,hy]
   exact qr4 (i:=i) (by simpa using e) (fun z hz=>h z (by simp[hz])) hp
theorem xg2{P:α->Prop}{l:List α}{i:Nat}{x:α}(e:l[i]?=some x)(h:∀ y∈l.take i,P y)(hx:P x):∀ y∈l.take (i+1),P y:=by
 intro y hy
 rw[List.take_add_one,e] at hy
 rcases List.mem_append.mp hy with z|z
 ·exact h y z
 ·have:y=x:=by simpa using z
  subst this;exact hx
theorem yv0(h:qg6 K vs H Q E):wr2 K {nx:=fun _ H'=>Q .non H',rt:=Q} (E8 ["rows","name","row"] vs) H:=by
 obtain⟨v,n,rs,rfl,⟨a,xs,rfl,hq,hd⟩,h1,h2⟩:=h
 show wr2 K _ [some (.ref a),some (oV n),none] H
 have hlen:xs.length=rs.length:=by have:=hd.length;simpa using this
 unfold wr2
 refine qg3 (yz8 (za6 (wg0 rfl ?_)))
 refine yn4 hq (fun i σ H'=>H'=H/\(∃ w,σ=[some (.ref a),some (oV n),w])/\∀ r∈rs.take i,decide (some r.name=n)=false) ⟨rfl,⟨_,rfl⟩,by simp⟩ (fun hl i σ H' _ p=>p.1▸hl) (fun ht i σ H' _ p=>p.1▸ht) ?_ ?_
 ·rintro i x σ H' hx ⟨rfl,⟨w,rfl⟩,hn⟩
  obtain⟨d,hd1,hd2⟩:=hd.get' hx
  rw[List.getElem?_map] at hd1
  obtain⟨r,hr,rfl⟩:=Option.map_eq_some_iff.mp hd1
  obtain⟨b,sv,bv,rfl,hb,hsv,hbv⟩:=qy5 hd2
  refine L3 (za1 (xs6 (xz4 (xz4 (wg0 rfl (za0 (W3 hb rfl (wg0 rfl (zq2 ⟨_,rfl,?_⟩)))))))))
  by_cases e:some r.name=n
  ·rw[decide_eq_true e,if_pos rfl]
   refine⟨_,rfl,?_⟩
   exact h2 r _ (qr4 hr hn (decide_eq_true e)) hd2
  ·rw[decide_eq_false e,if_neg Bool.false_ne_true]
   exact yn5 ⟨rfl,⟨_,rfl⟩,xg2 hr hn (decide_eq_false e)⟩
 ·rintro σ H' ⟨rfl,⟨w,rfl⟩,hn⟩
  show Q .non H'
  refine h1 ?_
  unfold qb2
  rw[List.find?_eq_none]
  intro r hr
  rw[hlen,List.take_length] at hn
  simp[hn r hr]
end
variable{rk:Str->Nat}{rs:List Row}
section
open PyProof.Rows
def Z5(K:Fg):Sp:=fun vs H Q _=>∃ v n rs,vs=[v,oV n]/\Rws K H v rs/\Q (oV (L9 rs n)) H
def wv7(K:Fg):TS :=
 (C0 (E9 (E2 (qg6 K) [] E0 (A2 (A3 0) (A2 (A3 1) B0))) (B2 2))
 (M0 (tIf (L0 (tOp xz1 (A3 2) (tC .non))) (tC .non) (tOp (M7 K) (A3 2) (tC (.int 1))))))
theorem yj0(h:Z5 K vs H Q E):wv7 K {nx:=fun _ H'=>Q .non H',rt:=Q} (E8 ["book","name","row"] vs) H:=by
 obtain⟨v,n,rs,rfl,hR,q⟩:=h
 show wv7 K _ [some v,some (oV n),none] H
 refine⟨_,rfl,_,rfl,v,n,rs,rfl,hR,fun e=>?_,fun r u e hu=>?_⟩
 ·refine⟨_,rfl,rfl,_,rfl,?_⟩
  show Q .non H
  have:L9 rs n=none:=by unfold L9;rw[e];rfl
  rw[this] at q;exact q
 ·obtain⟨b,sv,bv,rfl,hb,_,_⟩:=qy5 hu
  refine⟨_,rfl,rfl,_,rfl,?_⟩
  show(if decide (V.ref b=V.non)=true then _ else _)
  rw[decide_eq_false (by simp)];refine Z2 ?_
  refine⟨_,rfl,W3 hb rfl ?_⟩
  have:L9 rs n=some r.sort:=by unfold L9;rw[e];rfl
  rw[this] at q;exact q
def qr5(K:Fg):Sp:=fun vs H Q _=>∃ v n rs,vs=[v,oV n]/\Rws K H v rs/\Q (oV (Q8 rs n)) H
def wv8(K:Fg):TS :=
 (C0 (E9 (E2 (qg6 K) [] E0 (A2 (A3 0) (A2 (A3 1) B0))) (B2 2))
 (C0 (T2 (tOr (L0 (tOp xz1 (A3 2) (tC .non))) (L0 (tOp (xs3 K) (tOp (M7 K) (A3 2) (tC (.int 1))) (tC (.str "frame")))))
 (M0 (tC .non)) O5)
 (M0 (tOp (M7 K) (A3 2) (tC (.int 2))))))
theorem yj1(h:qr5 K vs H Q E):wv8 K {nx:=fun _ H'=>Q .non H',rt:=Q} (E8 ["book","name","row"] vs) H:=by
 obtain⟨v,n,rs,rfl,hR,q⟩:=h
 show wv8 K _ [some v,some (oV n),none] H
 refine⟨_,rfl,_,rfl,v,n,rs,rfl,hR,fun e=>?_,fun r u e hu=>?_⟩
 ·refine⟨_,rfl,rfl,_,rfl,?_⟩
  show Q .non H
  have:Q8 rs n=none:=by unfold Q8;rw[e];rfl
  rw[this] at q;exact q
 ·obtain⟨b,sv,bv,rfl,hb,_,_⟩:=qy5 hu
  refine⟨_,rfl,rfl,_,rfl,?_⟩
  show(if decide (V.ref b=V.non)=true then _ else _)
  rw[decide_eq_false (by simp)];refine Z2 ?_
  refine⟨_,rfl,W3 hb rfl (zb6 ⟨_,rfl,?_⟩)⟩
  by_cases hs:r.sort=("frame":Str)
  ·rw[decide_eq_true hs,Bool.not_true];refine Z2 ?_
   refine⟨_,rfl,W3 hb rfl ?_⟩
   have:Q8 rs n=some r.host:=by unfold Q8;rw[e];show(if r.sort=("frame":Str) then some r.host else none)=_;rw[if_pos hs]
   rw[this] at q;exact q
  ·rw[decide_eq_false hs,Bool.not_false];refine qt4 ?_
   show Q .non H
   have:Q8 rs n=none:=by unfold Q8;rw[e];show(if r.sort=("frame":Str) then some r.host else none)=_;rw[if_neg hs]
   rw[this] at q;exact q
def qg7(K:Fg):Sp:=fun vs H Q _=>∃ v n rs,vs=[v,oV n]/\Rws K H v rs/\Q (oV (N4 rs n)) H
def wn8(K:Fg):TS :=
 (C0 (qx9 (wf8 K (A3 0)) (B2 2)
 (T2 (xb4 (L0 (tOp (qg1 K) (tOp (M7 K) (A3 2) (tC (.int 1))) (tC (.str "frame")))) (L0 (tOp (qg1 K) (tOp (M7 K) (A3 2) (tC (.int 2))) (A3 1))))
 (M0 (tOp (M7 K) (A3 2) (tC (.int 0)))) O5))
 (M0 (tC .non)))
theorem ya7(h:qg7 K vs H Q E):wn8 K {nx:=fun _ H'=>Q .non H',rt:=Q} (E8 ["book","name","row"] vs) H:=by
 obtain⟨v,n,rs,rfl,⟨a,xs,rfl,hq,hd⟩,q⟩:=h
 show wn8 K _ [some (.ref a),some (oV n),none] H
 have hlen:xs.length=rs.length:=by have:=hd.length;simpa using this
 refine⟨_,rfl,yn4 hq (fun i σ H'=>H'=H/\(∃ w,σ=[some (.ref a),some (oV n),w])/\∀ r∈rs.take i,(decide (r.sort=("frame":Str)) && decide (some r.host=n))=false) ⟨rfl,⟨_,rfl⟩,by simp⟩ (fun hl i σ H' _ p=>p.1▸hl) (fun ht i σ H' _ p=>p.1▸ht) ?_ ?_⟩
 ·rintro i x σ H' hx ⟨rfl,⟨w,rfl⟩,hn⟩
  obtain⟨d,hd1,hd2⟩:=hd.get' hx
  rw[List.getElem?_map] at hd1
  obtain⟨r,hr,rfl⟩:=Option.map_eq_some_iff.mp hd1
  obtain⟨b,sv,bv,rfl,hb,hsv,hbv⟩:=qy5 hd2
  refine⟨_,rfl,W3 hb rfl (yo3 ⟨_,rfl,?_⟩)⟩
  by_cases hs:r.sort=("frame":Str)
  ·rw[decide_eq_true hs];refine qt4 ?_
   refine⟨_,rfl,W3 hb rfl ⟨_,rfl,zq2 ⟨_,rfl,?_⟩⟩⟩
   by_cases e:some r.host=n
   ·rw[decide_eq_true e];refine qt4 ?_
    refine⟨_,rfl,W3 hb rfl ?_⟩
    have:N4 rs n=some r.name:=by
     unfold N4
     rw[qr4 hr hn (by rw[decide_eq_true hs,decide_eq_true e];rfl)];rfl
    rw[this] at q;exact q
   ·rw[decide_eq_false e];refine Z2 ?_
    exact⟨rfl,⟨_,rfl⟩,xg2 hr hn (by rw[decide_eq_false e,Bool.and_false])⟩
  ·rw[decide_eq_false hs];refine Z2 ?_
   k_go
   exact⟨rfl,⟨_,rfl⟩,xg2 hr hn (by rw[decide_eq_false hs,Bool.false_and])⟩
 ·rintro σ H' ⟨rfl,⟨w,rfl⟩,hn⟩
  show Q .non H'
  have:N4 rs n=none:=by
   unfold N4
   rw[List.find?_eq_none.mpr]
   ·rfl
   ·intro r hr
    rw[hlen,List.take_length] at hn
    rw[hn r hr];exact Bool.false_ne_true
  rw[this] at q;exact q
def ups(rs:List Row):Nat->Option Str->List Str
 | 0,_=>[]
 | k+1,n=>match N4 rs n with
   | none=>[]
   | some y=>y::ups rs k (some y)
def wr3(rs:List Row)(rk:Str->Nat):Prop:=∀ x y,N4 rs (some x)=some y->rk y<rk x
theorem xg3{rs:List Row}{rk:Str->Nat}(f:wr3 rs rk):∀ (k:Nat) (x:Str),rk x<=k->ups rs k (some x)=ups rs (rk x) (some x)
 | 0, x, h => by have:rk x=0:=by omega
                 rw[this]
 | k + 1,x,h=>by
   cases e:N4 rs (some x) with
   | none =>
     have e1:ups rs (k+1) (some x)=[]:=by rw[ups,e]
     rw[e1]
     cases e2:rk x with
     | zero=>rfl
     | succ m=>rw[ups,e]
   | some y =>
     have hy:=f x y e
     have e1:ups rs (k+1) (some x)=y::ups rs k (some y):=by rw[ups,e]
     rw[e1,xg3 f k y (by omega)]
     cases e2:rk x with
     | zero=>omega
     | succ m =>
       have e3:ups rs (m+1) (some x)=y::ups rs m (some y):=by rw[ups,e]
       rw[e3,xg3 f m y (by omega)]
theorem zc8(f:wr3 rs rk)(e:N4 rs (some x)=some y):ups rs (rk x) (some x)=y::ups rs (rk y) (some y):=by
 have hy:=f x y e
 cases e2:rk x with
 | zero=>omega
 | succ m =>
   have e3:ups rs (m+1) (some x)=y::ups rs m (some y):=by rw[ups,e]
   rw[e3,xg3 f m y (by omega)]
theorem zl9{k:Nat}{x:Option Str}(e:N4 rs x=none):ups rs k x=[]:=by
 cases k with
 | zero=>rfl
 | succ m=>rw[ups,e]
def wb3(K:Fg):Sp:=fun vs H Q _=>∃ v n g rs rk,vs=[v,.str n,.str g]/\Rws K H v rs/\wr3 rs rk/\Q (.bl (decide (g∈ups rs (rk n) (some n)))) H
def wv9(K:Fg):TS :=
 (C0 (E9 (E2 (qg7 K) [] E0 (A2 (A3 0) (A2 (A3 1) B0))) (B2 3))
 (C0 (wa8 (L0 (tOp wj1 (A3 3) (tC .non)))
 (C0 (T2 (L0 (tOp (qg1 K) (A3 3) (A3 2)))
 (M0 (tC (.bl true))) O5)
 (E9 (E2 (qg7 K) [] E0 (A2 (A3 0) (A2 (A3 3) B0))) (B2 3))))
 (M0 (tC (.bl false)))))
def zm0(rs:List Row)(rk:Str->Nat):Option Str->List Str
 | none=>[]
 | some y=>y::ups rs (rk y) (some y)
theorem ya9(f:wr3 rs rk)(x:Str):ups rs (rk x) (some x)=zm0 rs rk (N4 rs (some x)):=by
 cases e:N4 rs (some x) with
 | none=>rw[zl9 e];rfl
 | some y=>rw[zc8 f e];rfl
theorem yj2(h:wb3 K vs H Q E):wv9 K {nx:=fun _ H'=>Q .non H',rt:=Q} (E8 ["book","name","frame","above"] vs) H:=by
 obtain⟨v,n,g,rs,rk,rfl,hR,f,q⟩:=h
 show wv9 K _ [some v,some (.str n),some (.str g),none] H
 refine⟨_,rfl,_,rfl,v,some n,rs,rfl,hR,?_⟩
 refine xx9 (fun σ H'=>H'=H/\∃ x,σ=[some v,some (.str n),some (.str g),some (oV x)]/\(g∈ups rs (rk n) (some n)↔g∈zm0 rs rk x))
  (fun σ _=>match σ with | [_,_,_,some (.str y)]=>rk y+1|_=>0) ⟨rfl,N4 rs (some n),rfl,by rw[ya9 f]⟩ ?_ ?_
 ·rintro σ H' ⟨rfl,x,rfl,hx⟩
  cases x with
  | none =>
    refine⟨_,rfl,rfl,_,rfl,?_⟩
    show Q (.bl false) H'
    have:¬g∈ups rs (rk n) (some n):=fun z=>by have:=hx.mp z;simp[zm0] at this
    rw[decide_eq_false this] at q;exact q
  | some y =>
    refine⟨_,rfl,rfl,_,rfl,?_⟩
    show(if(!decide (V.str y=V.non))=true then _ else _)
    rw[decide_eq_false (by simp),Bool.not_false];refine qt4 ?_
    refine⟨_,rfl,_,rfl,yo3 ⟨_,rfl,?_⟩⟩
    by_cases e:y=g
    ·rw[decide_eq_true e];refine qt4 ?_
     show Q (.bl true) H'
     have:g∈ups rs (rk n) (some n):=hx.mpr (by subst e;simp[zm0])
     rw[decide_eq_true this] at q;exact q
    ·rw[decide_eq_false e];refine Z2 ?_
     refine⟨_,rfl,_,rfl,v,some y,rs,rfl,hR,?_⟩
     refine⟨⟨rfl,N4 rs (some y),rfl,?_⟩,?_⟩
     ·rw[hx]
      show g∈y::ups rs (rk y) (some y)↔_
      rw[ya9 f,List.mem_cons]
      exact⟨fun z=>z.resolve_left fun z=>e z.symm,Or.inr⟩
     ·show(match [some v,some (V.str n),some (V.str g),some (oV (N4 rs (some y)))] with | [_,_,_,some (.str y)]=>rk y+1|_=>0)<rk y+1
      cases e2:N4 rs (some y) with
      | none=>exact Nat.succ_pos _
      | some z=>have:=f y z e2;show rk z+1<rk y+1;omega
 ·rintro σ H' Q1 Q2 hQ ⟨v1,e1,e2,k,e3,q1⟩
  exact⟨v1,e1,e2,k,e3,hQ _ _ q1⟩
end
variable{i:Int}{c:Nat}{H1 H2 H0:Hp}{p d a:Addr}{xs:List V}{o:HO}{ns:List Int}{D:qf7}{tb:TS}{σ:St}{te:TE}{ds:List PyData}
section
variable{K:Fg}{vs:List V}{H:Hp}{Q:VK}{E:XK}
theorem C3(xs:List Str):(C1 xs).length=xs.length:=List.length_map _
def ch(c:Nat):Str:=⟨#[c]⟩
def Lt:Str := "abcdefghijklmnopqrstuvwxyz"
theorem zu4:∀ j:Nat,j<26->Lt.cps.toList[j]?=some (97+j):=by decide +kernel
theorem zu5:Lt.length=26:=by decide +kernel
theorem Ab6(h0:0<=i)(h1:i<26):atI Lt.cps.toList i=some (97+i.toNat):=by
 have e:i=((i.toNat:Nat):Int):=by omega
 have q:atI Lt.cps.toList ((i.toNat:Nat):Int)=some (97+i.toNat):=U7 (zu4 _ (by omega))
 rw[<-e] at q
 exact q
theorem xt2:∀ bs:List Nat,(PySem.Txt.join ("":Str) (bs.map ch)).cps.toList=bs:=by
 intro bs
 have e:PySem.Txt.join ("":Str) (bs.map ch)=Str.join ("":Str) (bs.map ch):=PySem.StrLaws.glued_eq_join _ _
 rw[e]
 induction bs with
 | nil=>rfl
 | cons b r ih =>
   cases r with
   | nil=>rfl
   | cons c r =>
     show((ch b++("":Str)++Str.join ("":Str) ((c::r).map ch)).cps).toList=_
     have ih:=ih (PySem.StrLaws.glued_eq_join _ _)
     show((ch b).cps++("":Str).cps++(Str.join ("":Str) ((c::r).map ch)).cps).toList=_
     rw[Array.toList_append,Array.toList_append,ih]
     rfl
theorem xg4{n:Int}(h:1<=n):(PySem.Txt.mul (ch c) n).cps.toList=List.replicate n.toNat c:=by
 unfold PySem.Txt.mul
 rw[if_neg (by omega)]
 have f:∀ (k:Nat) (acc:Array Nat),((List.replicate k #[c]).foldl (·++·) acc).toList=acc.toList++List.replicate k c:=by
  intro k
  induction k with
  | zero=>intro acc;simp
  | succ k ih=>intro acc;rw[List.replicate_succ,List.foldl_cons,ih];simp[List.replicate_succ]
 by_cases h1:n=1
 ·subst h1;rfl
 ·have e:(n == 1 || (ch c).length == 0)=false:=by
   have:(n == 1)=false:=by simpa using h1
   rw[this];rfl
  rw[e,if_neg Bool.false_ne_true]
  have:=f n.toNat #[]
  show(List.foldl (fun x1 x2=>x1++x2) #[] (List.replicate n.toNat #[c])).toList=_
  simpa using this
theorem E1{n:Nat}(h:n<=100000):n<=sizeLine:=by rw[sizeLine_eq];omega
theorem A7.tr(a:A7 H H1)(b:A7 H1 H2):A7 H H2:=fun c o e=>b c o (a c o e)
theorem A7.put(s:A7 H H1)(h:H p=none)(o:HO):A7 H (upd H1 p o):=fun b u e=>by
 have nb:b≠p:=fun z=>by rw[z,h] at e;cases e
 rw[B7 nb];exact s b u e
theorem xg5{ys:List V}(h:H d=some (.lst xs)):T5 H (upd H d (.lst ys)) :=
 ⟨fun b zs e=>by rw[B7 (fun z=>by rw[z,h] at e;cases e)];exact e,fun b o zs e=>by rw[B7 (fun z=>by rw[z,h] at e;cases e)];exact e⟩
theorem qp2{b:Addr}(h:H a=some o)(g:H b=none):a≠b:=fun e=>by rw[e,g] at h;cases h
theorem qg8(xs:List Str):(C1 xs).all qy1=true:=by unfold C1;rw[List.all_map];exact List.all_eq_true.mpr fun _ _=>rfl
theorem qh3(x:Str):∀ xs:List Str,inV (.str x) (C1 xs)=decide (x∈xs)
 | []=>by simp[C1,inV]
 | y::ys=>by
   have ih:=qh3 x ys
   unfold inV at ih ⊢
   show(eqV (.str y) (.str x) || (C1 ys).any fun z=>eqV z (.str x))=_
   rw[ih]
   by_cases e:x=y
   ·subst e;simp[eqV]
   ·have e':¬y=x:=fun z=>e z.symm
    simp[eqV,e,e']
def qd7(ns:List Int):List V:=ns.map V.int
theorem qm7(ns:List Int):(qd7 ns).length=ns.length:=List.length_map _
theorem zc9(ns:List Int)(x:Int):qd7 ns++[V.int x]=qd7 (ns++[x]):=by simp[qd7]
theorem U8(a b:Str):(a++b).length=a.length+b.length:=PySem.Str.length_append a b
theorem yb0(ns:List Int)(i:Nat)(x:Int):(qd7 ns).set i (.int x)=qd7 (ns.set i x):=by unfold qd7;rw[List.map_set]
theorem yo6{i:Nat}(h:i<ns.length):(qd7 ns)[i]?=some (.int ns[i]):=by unfold qd7;rw[List.getElem?_map,List.getElem?_eq_getElem h];rfl
theorem yb1{n:Nat}(h:1<=n):ixN n (-1)=some (n-1):=by
 unfold ixN
 rw[if_neg (by decide),if_pos (by omega)]
 congr 1
 omega
theorem yo7(h:1<=xs.length)(e:xs[xs.length-1]?=some v):atI xs (-1)=some v:=by
 unfold atI
 rw[yb1 h];exact e
theorem Ab7{n:Nat}(h:1<=n):ixN n 0=some 0:=by
 unfold ixN
 rw[if_pos (by decide),if_pos (by omega)];rfl
theorem zd0{g:TG}(hq:SqL K H0 a xs\/SqT K H0 a xs)(s0:A7 H0 H)(Pv:Nat->St->Hp->Prop)(h0:Pv 0 σ H)(hk:∀ i σ H',Pv i σ H'->A7 H0 H')(hs:∀ i x σ H,xs[i]?=some x->Pv i σ H->g x σ H fun σ2 H2=>tb {D with nx:=Pv (i+1),ct:=Pv (i+1),bk:=D.nx} σ2 H2)(hd:∀ σ H,Pv xs.length σ H->D.nx σ H) :
 ∃ b,V.ref a=.ref b/\(((∃ xs,SqL K H b xs)/\wq7 g tb D σ (Itl K b) H)\/((∃ xs,SqT K H b xs)/\wq7 g tb D σ (Itt K b) H)):=by
 rcases hq with hq|hq
 ·exact⟨a,rfl,.inl ⟨⟨xs,s0.sqL hq⟩,xe4 Pv h0 (fun i σ H' _ p=>(hk i σ H' p).sqL hq) hs hd⟩⟩
 ·exact⟨a,rfl,.inr ⟨⟨xs,s0.sqT hq⟩,xr3 Pv h0 (fun i σ H' _ p=>(hk i σ H' p).sqT hq) hs hd⟩⟩
theorem yv1{c:TT}(Pv:St->Hp->Prop)(μ:St->Hp->Nat)(h0:Pv σ H)(hs:∀ σ H,Pv σ H->c σ H fun b H1=>if b=true then(∃ N:St->Hp->Prop,(∀ σ' H',N σ' H'->∃ m',m'<μ σ H/\m'=μ σ' H'/\Pv σ' H')/\tb {D with nx:=N,ct:=N,bk:=D.nx} σ H1) else D.nx σ H1):wa8 c tb D σ H:=by
 refine⟨fun m σ H=>m=μ σ H/\Pv σ H,⟨_,rfl,h0⟩,?_⟩
 rintro m σ H ⟨rfl,p⟩
 exact hs σ H p
theorem yv2{g:TG}{tt:TT}{σ':St}(hq:SqL K H0 a xs\/SqT K H0 a xs)(s0:A7 H0 H)(Pv:Nat->List V->Hp->Prop)(h0:Pv 0 [] H)(hlen:∀ i ys H,i<=xs.length->Pv i ys H->ys.length<=sizeLine)(hk:∀ i ys H',Pv i ys H'->A7 H0 H')(hs:∀ i x ys H,xs[i]?=some x->Pv i ys H->g x σ' H fun σ2 H2=>tt σ2 H2 fun b H3=>if b=true then te σ2 H3 fun y H4=>Pv (i+1) (ys++[y]) H4 else Pv (i+1) ys H3)(hd:∀ ys H,Pv xs.length ys H->∀ p,H p=none->Q (.ref p) (upd H p (.lst ys))) :
 ∃ b,V.ref a=.ref b/\(((∃ xs,SqL K H b xs)/\wl8 g tt te σ' Q (Itl K b) H)\/((∃ xs,SqT K H b xs)/\wl8 g tt te σ' Q (Itt K b) H)):=by
 rcases hq with hq|hq
 ·exact xp2 (s0.sqL hq) Pv h0 hlen (fun i ys H' _ p=>(hk i ys H' p).sqL hq) hs hd
 ·refine⟨a,rfl,.inr ⟨⟨xs,s0.sqT hq⟩,xd4 (n:=xs.length) (fun i x=>xs[i]?=some x) Pv h0 hlen (fun i ys H hi p=>?_) (fun i ys H x H' hi p y=>?_) (fun ys H p=>?_) (fun i x ys H _ hx p=>hs i x ys H hx p) hd⟩⟩
  ·exact⟨xs,xs[i],(hk i ys H p).sqT hq,by simp[hi]⟩
  ·exact⟨y.1,y.2 xs ((hk i ys H p).sqT hq)⟩
  ·exact⟨xs,(hk _ ys H p).sqT hq,Nat.le_refl _⟩
theorem qm8{xs:List Str}{i:Nat}{x:V}(h:(C1 xs)[i]?=some x):∃ y,xs[i]?=some y/\x=.str y:=by
 unfold C1 at h
 rw[List.getElem?_map] at h
 obtain⟨y,hy,e⟩:=Option.map_eq_some_iff.mp h
 exact⟨y,hy,e.symm⟩
theorem wg6(xs:List Str)(x:Str):C1 xs++[V.str x]=C1 (xs++[x]):=by simp[C1]
theorem Dvs.one{d:PyData}(h:Dv K H d v):Dvs K H [d] [v]:=B4 h J7
def zd1(ns:List Int):List PyData:=ns.map .int
theorem xg6:∀ {ns:List Int} {vs:List V},Dvs K H (zd1 ns) vs↔vs=qd7 ns
 | [],_=>by show Dvs K H [] _↔_=[];rw[Dvs]
 | x::xs,vs=>by
   show Dvs K H (.int x::zd1 xs) vs↔vs=V.int x::qd7 xs
   rw[Dvs]
   constructor
   ·rintro⟨v,r,rfl,h1,h2⟩
    rw[O1.mp h1,xg6.mp h2]
   ·rintro rfl
    exact⟨_,_,rfl,O1.mpr rfl,xg6.mpr rfl⟩
theorem Ab8{e:Addr}(h1:Dv K H (.list ds) (.ref p))(h2:H e=some (.lst []))(h:Q (.bl (!ds.isEmpty)) H):xs3 K (.ref p) (.ref e) H Q:=by
 refine Aa9 h1 (e:=.list []) (qu1.mpr ⟨e,[],rfl,SqL.of h2,J7⟩) ?_ ?_
 ·exact Nat.le_trans (Nat.min_le_right _ _) (by decide)
 ·cases ds <;> exact h
theorem none_of(s:A7 H H')(h:H' p=none):H p=none:=by
 cases e:H p with
 | none=>rfl
 | some o=>have:=s _ _ e;rw[h] at this;cases this
inductive Tr where
 | tx (s:Str)
 | nd (n:Str) (ps:List Tr)
mutual
def Tr.da:Tr->PyData
 | .tx s=>.str s
 | .nd n ps=>.tuple [.str n,.tuple (Tr.das ps)]
def Tr.das:List Tr->List PyData
 | []=>[]
 | t::ts=>t.da::Tr.das ts
end
theorem Y0:∀ ts:List Tr,Tr.das ts=ts.map Tr.da
 | []=>by rw[Tr.das];rfl
 | t::ts=>by rw[Tr.das,Y0 ts];rfl
mutual
theorem zd2:∀ t:Tr,fix t.da=true
 | .tx s=>by rw[Tr.da,fix]
 | .nd n ps=>by rw[Tr.da,fix,Q0,fix,Q0,fix,Q0,qe6 ps];rfl
theorem qe6:∀ ts:List Tr,Q0 (Tr.das ts)=true
 | []=>by rw[Tr.das,Q0]
 | t::ts=>by rw[Tr.das,Q0,zd2 t,qe6 ts];rfl
end
def Tr.isTx:Tr->Bool
 | .tx _=>true
 | .nd _ _=>false
mutual
def pre(pl:List Int):Tr->List (List Int×Tr)
 | .tx s=>[(pl,.tx s)]
 | .nd n ps=>(pl,.nd n ps)::Ab9 pl 0 ps
def Ab9(pl:List Int)(k:Nat):List Tr->List (List Int×Tr)
 | []=>[]
 | t::ts=>pre (pl++[(k:Int)]) t++Ab9 pl (k+1) ts
end
theorem yb2:∀ ns:List Int,Q0 (zd1 ns)=true
 | []=>by show Q0 []=true;rw[Q0]
 | x::xs=>by show Q0 (.int x::zd1 xs)=true;rw[Q0,yb2 xs,fix];rfl
theorem Q9{α:Type}{f:α->PyData}(h:∀ x,fix (f x)=true):∀ l:List α,Q0 (l.map f)=true
 | []=>by show Q0 []=true;rw[Q0]
 | x::l=>by show Q0 (f x::l.map f)=true;rw[Q0,h,Q9 h l];rfl
variable{n:Str}
theorem zd3{ps:List Tr}(h:Dv K H (Tr.nd n ps).da v):∃ a b us,v=.ref a/\SqT K H a [.str n,.ref b]/\SqT K H b us/\Dvs K H (Tr.das ps) us:=by
 rw[Tr.da] at h
 obtain⟨a,xs,rfl,ha,h⟩:=C7.mp h
 rw[Dvs] at h;obtain⟨v1,r1,rfl,e1,h⟩:=h
 rw[Dvs] at h;obtain⟨v2,r2,rfl,e2,h⟩:=h
 rw[Dvs] at h;subst h
 rw[E6.mp e1] at ha
 obtain⟨b,ys,rfl,hb,h⟩:=C7.mp e2
 exact⟨a,b,ys,rfl,ha,hb,h⟩
theorem Ac0{s:Str}(h:Dv K H (Tr.tx s).da v):v=.str s:=by rw[Tr.da] at h;exact E6.mp h
variable{us:List V}
theorem yo8{ts:List Tr}(h:Dvs K H (Tr.das ts) us){i:Nat}{t:Tr}(e:ts[i]?=some t):∃ u,us[i]?=some u/\Dv K H t.da u :=
 h.get (by rw[Y0,List.getElem?_map,e];rfl)
theorem wj2{ts:List Tr}(h:Dvs K H (Tr.das ts) us):us.length=ts.length:=by have:=h.length;rw[Y0,List.length_map] at this;exact this
theorem yj3{t:Tr}(h:Dv K H t.da v)(q:Q (.bl t.isTx) H):yi1 K [v,.ty "str"] H Q:=by
 cases t with
 | tx s=>rw[Ac0 h];exact Ab0 (.str _) (b:=true) rfl q
 | nd n ps=>obtain⟨a,b,us,rfl,ha,_⟩:=zd3 h;exact zu0 ha (b:=false) rfl q
def wb4(K:Fg):Sp:=fun vs H Q _=>∃ (t:Tr) (v:V),vs=[v]/\Dv K H t.da v/\Q (.bl t.isTx) H
def wj3(K:Fg):TS :=
 (M0 (tCB (yi1 K) (A2 (A3 0) (A2 (tC (.ty "str")) B0))))
theorem yj4(h:wb4 K vs H Q E):wj3 K {nx:=fun _ H'=>Q .non H',rt:=Q} (E8 ["part"] vs) H:=by
 obtain⟨t,v,rfl,hd,q⟩:=h
 show wj3 K _ [some v] H
 unfold wj3
 lk
 exact yj3 hd q
theorem yb4{ps:List Tr}{r t:Addr}(h1:SqT K H r [.str n,.ref t])(h2:SqT K H t us)(h3:Dvs K H (Tr.das ps) us):Dv K H (Tr.nd n ps).da (.ref r):=by
 rw[Tr.da]
 exact C7.mpr ⟨r,_,rfl,h1,B4 (E6.mpr rfl) (B4 (C7.mpr ⟨t,us,rfl,h2,h3⟩) J7)⟩
mutual
def hgt:Tr->Nat
 | .tx _=>0
 | .nd _ ps=>1+Z6 ps
def Z6:List Tr->Nat
 | []=>0
 | t::ts=>max (hgt t) (Z6 ts)
end
theorem qr6:∀ a b:List Tr,Z6 (a++b)=max (Z6 a) (Z6 b)
 | [],b=>by rw[List.nil_append,Z6];omega
 | t::a,b=>by rw[List.cons_append,Z6,Z6,qr6 a b];omega
structure Cz(K:Fg)(k_Branch:Addr)(k_Reader:Addr):Prop where
 pg_Branch:PySem.W.plainGet K k_Branch Str.empty=true
 hd_Branch:PySem.W.hasDictIn K k_Branch=true
 po_Branch:PySem.W.plainOver K k_Branch=true
 sa_Branch:PySem.W.findIn K (.ref k_Branch) "__setattr__"=some (some (.builtin "object.__setattr__"))
 ns_Branch:PySem.W.nsIn K mainGlobals "Branch"=some (some (.ref k_Branch))
 na_Branch_name:PySem.W.findIn K (.ref k_Branch) "name"=some none
 na_Branch_place:PySem.W.findIn K (.ref k_Branch) "place"=some none
 na_Branch_parts:PySem.W.findIn K (.ref k_Branch) "parts"=some none
 na_Branch_waiting:PySem.W.findIn K (.ref k_Branch) "waiting"=some none
 pg_Reader:PySem.W.plainGet K k_Reader Str.empty=true
 hd_Reader:PySem.W.hasDictIn K k_Reader=true
 po_Reader:PySem.W.plainOver K k_Reader=true
 sa_Reader:PySem.W.findIn K (.ref k_Reader) "__setattr__"=some (some (.builtin "object.__setattr__"))
 ns_Reader:PySem.W.nsIn K mainGlobals "Reader"=some (some (.ref k_Reader))
 na_Reader_book:PySem.W.findIn K (.ref k_Reader) "book"=some none
 na_Reader_branches:PySem.W.findIn K (.ref k_Reader) "branches"=some none
 na_Reader_mends:PySem.W.findIn K (.ref k_Reader) "mends"=some none
 na_Reader_laid:PySem.W.findIn K (.ref k_Reader) "laid"=some none
variable{k_Branch k_Reader:Addr}
theorem Cz.cl_Branch(z:Cz K k_Branch k_Reader):Cls K k_Branch:=⟨z.pg_Branch,z.hd_Branch,z.po_Branch,z.sa_Branch⟩
theorem Cz.cl_Reader(z:Cz K k_Branch k_Reader):Cls K k_Reader:=⟨z.pg_Reader,z.hd_Reader,z.po_Reader,z.sa_Reader⟩
structure Brn where
 n:Str
 pl:List Int
 ps:List Tr
 ws:List Str
structure BA where
 o:Addr
 x:Addr
 p:Addr
 q:Addr
 w:Addr
def BA.fp(a:BA):List Addr:=[a.o,a.q,a.w]
def bF(a:BA)(b:Brn):List (Str×V):=[("name",.str b.n),("place",.ref a.p),("parts",.ref a.q),("waiting",.ref a.w)]
structure BrO(K:Fg)(H:Hp)(kB:Addr)(a:BA)(b:Brn):Prop where
 o:H a.o=some (.ins kB a.x (bF a b))
 p:SqT K H a.p (qd7 b.pl)
 q:∃ us,H a.q=some (.lst us)/\Dvs K H (Tr.das b.ps) us
 w:H a.w=some (.lst (C1 b.ws))
structure Mnd where
 s:Int
 e:Int
 t:Str
 r:Str
def Mnd.da(m:Mnd):PyData:=.tuple [.int m.s,.int m.e,.str m.t,.str m.r]
structure Lad where
 s:Int
 g:Str
 pl:List Int
 a:Int
def Lad.da(m:Lad):PyData:=.tuple [.int m.s,.str m.g,.tuple (zd1 m.pl),.int m.a]
theorem Mnd.fix(m:Mnd):L2.fix m.da=true:=by unfold Mnd.da;simp[L2.fix,Q0]
theorem Lad.fix(m:Lad):L2.fix m.da=true:=by unfold Lad.da;simp[L2.fix,Q0,yb2]
structure Rst where
 bs:List Brn
 ms:List Mnd
 ls:List Lad
structure RAd where
 x:Addr
 L:Addr
 M:Addr
 A:Addr
 as:List BA
def fpA(as:List BA):List Addr:=as.flatMap BA.fp
def RAd.fp(r:Addr)(a:RAd):List Addr:=r::a.L::a.M::a.A::fpA a.as
inductive ql0(K:Fg)(H:Hp)(kB:Addr):List BA->List Brn->Prop
 | nil:ql0 K H kB [] []
 | cons {a:BA} {b:Brn} {as:List BA} {bs:List Brn}:BrO K H kB a b->ql0 K H kB as bs->ql0 K H kB (a::as) (b::bs)
structure RdO(K:Fg)(H:Hp)(kR kB r:Addr)(bv:V)(a:RAd)(st:Rst):Prop where
 kr:PySem.W.nsIn K mainGlobals "Reader"=some (some (.ref kR))
 kb:PySem.W.nsIn K mainGlobals "Branch"=some (some (.ref kB))
 o:H r=some (.ins kR a.x [("book",bv),("branches",.ref a.L),("mends",.ref a.M),("laid",.ref a.A)])
 l:H a.L=some (.lst (a.as.map fun z=>V.ref z.o))
 b:ql0 K H kB a.as st.bs
 m:∃ us,H a.M=some (.lst us)/\Dvs K H (st.ms.map Mnd.da) us
 d:∃ us,H a.A=some (.lst us)/\Dvs K H (st.ls.map Lad.da) us
 nd:(RAd.fp r a).Nodup
def xg7(H:Hp)(p:Addr):Prop:=(∃ xs,H p=some (.lst xs))\/∃ C dx fs,H p=some (.ins C dx fs)
variable{b:Brn}{kB:Addr}{as:List BA}
section
variable{kR kB r:Addr}{bv:V}{a a':RAd}{st st':Rst}{H':Hp}{ps:List Addr}
theorem wr4(bt:But ps H H')(hm:∀ p∈ps,xg7 H p):T5 H H':=by
 have no:∀ c o,H c=some o->(∀ xs,o≠.lst xs)->(∀ C dx fs,o≠.ins C dx fs)->c∉ps:=fun c o e h1 h2 hc=>by
  rcases hm c hc with⟨xs,e2⟩|⟨C,dx,fs,e2⟩
  ·rw[e] at e2;cases e2;exact h1 xs rfl
  ·rw[e] at e2;cases e2;exact h2 C dx fs rfl
 exact⟨fun c xs e=>bt c _ e (no c _ e (fun _ z=>by cases z) fun _ _ _ z=>by cases z),fun c o xs e=>bt c _ e (no c _ e (fun _ z=>by cases z) fun _ _ _ z=>by cases z)⟩
theorem BrO.but{a:BA}(h:BrO K H kB a b)(bt:But ps H H')(tk:T5 H H')(hd:∀ x∈a.fp,x∉ps):BrO K H' kB a b:=by
 obtain⟨us,h1,h2⟩:=h.q
 exact⟨bt _ _ h.o (hd _ (by simp[BA.fp])),tk.sqT h.p,⟨us,bt _ _ h1 (hd _ (by simp[BA.fp])),Dvs.tupK tk _ _ (qe6 _) h2⟩,bt _ _ h.w (hd _ (by simp[BA.fp]))⟩
theorem ql0.but{as:List BA}{bs:List Brn}(h:ql0 K H kB as bs)(bt:But ps H H')(tk:T5 H H')(hd:∀ x∈fpA as,x∉ps):ql0 K H' kB as bs:=by
 induction h with
 | nil=>exact .nil
 | cons h1 h2 ih=>exact .cons (h1.but bt tk fun x hx=>hd x (by unfold fpA;rw[List.flatMap_cons];exact List.mem_append_left _ hx)) (ih fun x hx=>hd x (by unfold fpA;rw[List.flatMap_cons];exact List.mem_append_right _ hx))
theorem ql0.app{as2:List BA}{bs bs2:List Brn}(h:ql0 K H kB as bs)(h2:ql0 K H kB as2 bs2):ql0 K H kB (as++as2) (bs++bs2):=by
 induction h with
 | nil=>exact h2
 | cons h1 _ ih=>exact .cons h1 ih
theorem ql0.len{bs:List Brn}(h:ql0 K H kB as bs):as.length=bs.length:=by
 induction h with
 | nil=>rfl
 | cons _ _ ih=>simp[ih]
theorem ql0.snoc{bs:List Brn}(h:ql0 K H kB as (bs++[b])):∃ as' a,as=as'++[a]/\ql0 K H kB as' bs/\BrO K H kB a b:=by
 induction bs generalizing as with
 | nil=>cases h with|cons h1 h2=>cases h2;exact⟨[],_,rfl,.nil,h1⟩
 | cons c bs ih =>
   cases h with
   | cons h1 h2 =>
     obtain⟨as',a,rfl,h3,h4⟩:=ih h2
     exact⟨_::as',a,rfl,.cons h1 h3,h4⟩
theorem ql0.mut{bs:List Brn}(h:ql0 K H kB as bs):∀ p∈fpA as,xg7 H p:=by
 induction h with
 | nil=>intro p hp;cases hp
 | cons h1 _ ih =>
   intro p hp
   unfold fpA at hp
   rw[List.flatMap_cons] at hp
   rcases List.mem_append.mp hp with hp|hp
   ·simp only[BA.fp,List.mem_cons,List.not_mem_nil,or_false] at hp
    rcases hp with rfl|rfl|rfl
    ·exact .inr ⟨_,_,_,h1.o⟩
    ·obtain⟨us,h2,_⟩:=h1.q;exact .inl ⟨_,h2⟩
    ·exact .inl ⟨_,h1.w⟩
   ·exact ih p hp
theorem RdO.mut(h:RdO K H kR kB r bv a st):∀ p∈RAd.fp r a,xg7 H p:=by
 intro p hp
 simp only[RAd.fp,List.mem_cons] at hp
 rcases hp with rfl|rfl|rfl|rfl|hp
 ·exact .inr ⟨_,_,_,h.o⟩
 ·exact .inl ⟨_,h.l⟩
 ·obtain⟨us,h1,_⟩:=h.m;exact .inl ⟨_,h1⟩
 ·obtain⟨us,h1,_⟩:=h.d;exact .inl ⟨_,h1⟩
 ·exact h.b.mut p hp
structure Rup(K:Fg)(kR kB r:Addr)(bv:V)(H:Hp)(a:RAd)(H':Hp)(a':RAd)(st':Rst):Prop where
 ok:RdO K H' kR kB r bv a' st'
 bt:But (RAd.fp r a) H H'
 fr:∀ x∈RAd.fp r a',x∈RAd.fp r a\/H x=none
theorem Rup.tr{a2:RAd}{st2:Rst}(h1:Rup K kR kB r bv H a H' a' st')(h2:Rup K kR kB r bv H' a' H2 a2 st2)(hd:∀ x,H' x=none->H x=none):Rup K kR kB r bv H a H2 a2 st2 :=
 ⟨h2.ok,fun c o e n=>h2.bt c o (h1.bt c o e n) fun hc=>(h1.fr c hc).elim n fun z=>(by rw[z] at e;cases e),
  fun x hx=>(h2.fr x hx).elim (h1.fr x) fun z=>.inr (hd x z)⟩
theorem Rup.tupK(h:Rup K kR kB r bv H a H' a' st')(h0:RdO K H kR kB r bv a st):T5 H H':=wr4 h.bt h0.mut
theorem RdO.same(h:RdO K H kR kB r bv a st)(s:A7 H H'):RdO K H' kR kB r bv a st:=by
 obtain⟨us,m1,m2⟩:=h.m
 obtain⟨vs,d1,d2⟩:=h.d
 exact⟨h.kr,h.kb,s _ _ h.o,s _ _ h.l,h.b.but (ps:=[]) (fun c o e _=>s c o e) s.tupK (fun _ _ z=>by cases z),⟨us,s _ _ m1,Dvs.same s _ _ m2⟩,⟨vs,s _ _ d1,Dvs.same s _ _ d2⟩,h.nd⟩
end
theorem N6{k k':Addr}(h:PySem.W.nsIn K mainGlobals x=some (some (.ref k)))(h':PySem.W.nsIn K mainGlobals x=some (some (.ref k'))):k=k':=by rw[h] at h';cases h';rfl
theorem zu6(v:V):qm6 ("name":Str) v []=[(("name":Str),v)]:=rfl
theorem zu7(n v:V):qm6 ("place":Str) v [(("name":Str),n)]=[(("name":Str),n),(("place":Str),v)]:=by
 show(if(("name":Str)) = "place" then _ else _)=_
 rw[if_neg (by decide)];rfl
theorem zu8(n p v:V):qm6 ("parts":Str) v [(("name":Str),n),(("place":Str),p)]=[(("name":Str),n),(("place":Str),p),(("parts":Str),v)]:=by
 show(if(("name":Str)) = "parts" then _ else _::(if(("place":Str)) = "parts" then _ else _))=_
 rw[if_neg (by decide),if_neg (by decide)];rfl
theorem zu9(n p q v:V):qm6 ("waiting":Str) v [(("name":Str),n),(("place":Str),p),(("parts":Str),q)]=[(("name":Str),n),(("place":Str),p),(("parts":Str),q),(("waiting":Str),v)]:=by
 show(if(("name":Str)) = "waiting" then _ else _::(if(("place":Str)) = "waiting" then _ else _::(if(("parts":Str)) = "waiting" then _ else _)))=_
 rw[if_neg (by decide),if_neg (by decide),if_neg (by decide)];rfl
variable{u:HO}
theorem V5{o q:Addr}(h:upd H o u q=none):q≠o/\H q=none:=by
 by_cases e:q=o
 ·subst e;rw[A6] at h;cases h
 ·rw[B7 e] at h;exact⟨e,h⟩
abbrev wr5(K:Fg):TS :=
 (C0 (wf2 K (A3 0) (A3 2) "place")
 (C0 (wf2 K (A3 0) (qd5 B0) "parts")
 (wf2 K (A3 0) (qd5 B0) "waiting")))
def V6(K:Fg):Sp:=fun vs H Q _=>∃ (kB o x p:Addr) (n:Str) (pl:List Int),vs=[.ref o,.str n,.ref p]/\PySem.W.nsIn K mainGlobals "Branch"=some (some (.ref kB))/\H o=some (.ins kB x [])/\SqT K H p (qd7 pl)/\∀ (q w:Addr) (H':Hp),H q=none->H w=none->q≠w->But [o] H H'->BrO K H' kB ⟨o,x,p,q,w⟩ ⟨n,pl,[],[]⟩->(∀ z,H' z=none->H z=none)->Q .non H'
def qe7(K:Fg):TS :=
 (C0 (wf2 K (A3 0) (A3 1) "name")
 (wr5 K))
theorem ww0(cz:Cz K k_Branch k_Reader)(h:V6 K vs H Q E):qe7 K {nx:=fun _ H'=>Q .non H',rt:=Q} (E8 ["self","name","place"] vs) H:=by
 obtain⟨kB,o,x,p,n,pl,rfl,hkB,ho,hp,q⟩:=h
 obtain rfl:=N6 cz.ns_Branch hkB
 show qe7 K _ [some (.ref o),some (.str n),some (.ref p)] H
 unfold qe7
 have c:=cz.cl_Branch
 refine qg3 (ql7 ?_)
 lk
 refine⟨o,_,x,_,rfl,ho,c,cz.na_Branch_name,by simp,?_⟩
 rw[zu6]
 show C0 (wf2 K (A3 0) (A3 2) "place") _ _ _ _
 refine qg3 (ql7 ?_)
 lk
 refine⟨o,_,x,_,rfl,A6,c,cz.na_Branch_place,by simp,?_⟩
 rw[zu7]
 show C0 (wf2 K (A3 0) (qd5 B0) "parts") _ _ _ _
 refine qg3 (ql7 ?_)
 lk
 refine⟨E1 (by z_go),fun q1 hq1=>?_⟩
 lk
 obtain⟨n1,hq2⟩:=V5 hq1
 obtain⟨_,hq⟩:=V5 hq2
 refine⟨o,_,x,_,rfl,by rw[B7 (Ne.symm n1),A6],c,cz.na_Branch_parts,by simp,?_⟩
 rw[zu8]
 show wf2 K (A3 0) (qd5 B0) "waiting" _ _ _
 refine ql7 ?_
 lk
 refine⟨E1 (by z_go),fun w1 hw1=>?_⟩
 lk
 obtain⟨n2,hw2⟩:=V5 hw1
 obtain⟨n3,hw3⟩:=V5 hw2
 obtain⟨_,hw4⟩:=V5 hw3
 obtain⟨_,hw⟩:=V5 hw4
 refine⟨o,_,x,_,rfl,by rw[B7 (Ne.symm n2),A6],c,cz.na_Branch_waiting,by simp,?_⟩
 rw[zu9]
 have bt:∀ z u,H z=some u->z≠o->(upd (upd (upd (upd (upd (upd H o (.ins k_Branch x [(("name":Str),.str n)])) o (.ins k_Branch x [(("name":Str),.str n),(("place":Str),.ref p)])) q1 (.lst [])) o (.ins k_Branch x [(("name":Str),.str n),(("place":Str),.ref p),(("parts":Str),.ref q1)])) w1 (.lst [])) o (.ins k_Branch x [(("name":Str),.str n),(("place":Str),.ref p),(("parts":Str),.ref q1),(("waiting":Str),.ref w1)])) z=some u:=fun z u e no=>by
  have a1:z≠q1:=fun y=>by rw[y,hq] at e;cases e
  have a2:z≠w1:=fun y=>by rw[y,hw] at e;cases e
  rw[B7 no,B7 a2,B7 no,B7 a1,B7 no,B7 no];exact e
 have b1:But [o] H _:=fun z u e nz=>bt z u e (by simpa using nz)
 refine q q1 w1 _ hq hw (Ne.symm n3) b1 ⟨A6,(wr4 b1 fun z hz=>?_).sqT hp,⟨[],by rw[B7 n1,B7 (Ne.symm n3),B7 n1,A6],by rw[Tr.das];exact J7⟩,by rw[B7 n2,A6];rfl⟩ fun z hz=>?_
 ·rw[List.mem_singleton.mp hz];exact .inr ⟨_,_,_,ho⟩
 ·obtain⟨a1,hz⟩:=V5 hz
  obtain⟨_,hz⟩:=V5 hz
  obtain⟨_,hz⟩:=V5 hz
  obtain⟨_,hz⟩:=V5 hz
  obtain⟨_,hz⟩:=V5 hz
  exact(V5 hz).2
theorem ql8{xs:List α}{v:α}{n:Nat}(hn:xs.length=n+1)(e:xs[n]?=some v):atI xs (-1)=some v:=by
 unfold atI ixN
 rw[if_neg (by decide),if_pos (by omega)]
 show xs[((xs.length:Int) + -1).toNat]?=some v
 rw[show((xs.length:Int) + -1).toNat=n by omega];exact e
section
variable{kR kB r:Addr}{bv:V}{a:RAd}{st:Rst}
theorem RdO.apart(h:RdO K H kR kB r bv a st):r≠a.L/\r≠a.M/\r≠a.A/\a.L≠a.M/\a.L≠a.A/\a.M≠a.A/\r∉fpA a.as/\a.L∉fpA a.as/\a.M∉fpA a.as/\a.A∉fpA a.as/\(fpA a.as).Nodup:=by
 have:=h.nd
 simp only[RAd.fp,List.nodup_cons,List.mem_cons,not_or] at this
 obtain⟨⟨a1,a2,a3,a4⟩,⟨b1,b2,b3⟩,⟨c1,c2⟩,d1,e1⟩:=this
 exact⟨a1,a2,a3,b1,b2,c1,a4,b3,c2,d1,e1⟩
theorem But.upd1:But [p] H (upd H p o):=fun z u e n=>by rw[B7 (by simpa using n)];exact e
theorem N7(h:xg7 H p):T5 H (upd H p o):=wr4 (ps:=[p]) But.upd1 fun z hz=>by rw[List.mem_singleton.mp hz];exact h
theorem RdO.setM{ms:List Mnd}(h:RdO K H kR kB r bv a st)(hd:Dvs K H (ms.map Mnd.da) us):RdO K (upd H a.M (.lst us)) kR kB r bv a {st with ms:=ms}:=by
 obtain⟨a1,a2,a3,b1,b2,c1,d1,d2,d3,d4,e1⟩:=h.apart
 obtain⟨us0,m1,_⟩:=h.m
 obtain⟨vs,l1,l2⟩:=h.d
 have tk:T5 H (upd H a.M (.lst us)):=N7 (.inl ⟨_,m1⟩)
 exact⟨h.kr,h.kb,by rw[B7 a2];exact h.o,by rw[B7 b1];exact h.l,h.b.but But.upd1 tk fun x hx z=>d3 (by rw[List.mem_singleton.mp z] at hx;exact hx),⟨us,A6,Dvs.tupK tk _ _ (Q9 Mnd.fix ms) hd⟩,⟨vs,by rw[B7 (Ne.symm c1)];exact l1,Dvs.tupK tk _ _ (Q9 Lad.fix _) l2⟩,h.nd⟩
theorem RdO.setA{ls:List Lad}(h:RdO K H kR kB r bv a st)(hd:Dvs K H (ls.map Lad.da) us):RdO K (upd H a.A (.lst us)) kR kB r bv a {st with ls:=ls}:=by
 obtain⟨a1,a2,a3,b1,b2,c1,d1,d2,d3,d4,e1⟩:=h.apart
 obtain⟨us0,m1,m2⟩:=h.m
 obtain⟨vs,l1,_⟩:=h.d
 have tk:T5 H (upd H a.A (.lst us)):=N7 (.inl ⟨_,l1⟩)
 exact⟨h.kr,h.kb,by rw[B7 a3];exact h.o,by rw[B7 b2];exact h.l,h.b.but But.upd1 tk fun x hx z=>d4 (by rw[List.mem_singleton.mp z] at hx;exact hx),⟨us0,by rw[B7 c1];exact m1,Dvs.tupK tk _ _ (Q9 Mnd.fix _) m2⟩,⟨us,A6,Dvs.tupK tk _ _ (Q9 Lad.fix ls) hd⟩,h.nd⟩
def C2(H H':Hp):Prop:=∀ z,H' z=none->H z=none
theorem A7.grow(s:A7 H H'):C2 H H':=fun z hz=>by
 cases e:H z with
 | none=>rfl
 | some u=>rw[s z u e] at hz;cases hz
theorem C2.upd:C2 H (upd H p o):=fun z hz=>(V5 hz).2
theorem C2.tr(g1:C2 H H1)(g2:C2 H1 H2):C2 H H2:=fun z hz=>g1 z (g2 z hz)
theorem Rup.keep{st':Rst}(ok:RdO K H' kR kB r bv a st')(bt:But (RAd.fp r a) H H'):Rup K kR kB r bv H a H' a st':=⟨ok,bt,fun x hx=>.inl hx⟩
end
def M5(K:Fg):Sp:=fun vs H Q _=>∃ (kR kB r:Addr) (bv:V) (a:RAd) (st:Rst) (i:Int) (g rule:Str),vs=[.ref r,.int i,.str g,.str rule]/\RdO K H kR kB r bv a st/\st.ms.length<=9000000/\g.length<=1000000/\∀ H',Rup K kR kB r bv H a H' a {st with ms:=st.ms++[⟨i,i+g.length, "",rule⟩]}->C2 H H'->Q .non H'
def qe8(K:Fg):TS :=
 (L7 (tBM K "list" N2 (T3 K (A3 0) "mends") (A2 (M2 (A2 (A3 1) (A2 (tOp (J0 K) (A3 1) (tCB (O6 K) (A2 (A3 2) B0))) (A2 (tC (.str "")) (A2 (A3 3) B0))))) B0)))
theorem ww1(cz:Cz K k_Branch k_Reader)(h:M5 K vs H Q E):qe8 K {nx:=fun _ H'=>Q .non H',rt:=Q} (E8 ["self","start","signs","rule"] vs) H:=by
 obtain⟨kR,kB,r,bv,a,st,i,g,rule,rfl,h,hl,hg,q⟩:=h
 obtain rfl:=N6 cz.ns_Reader h.kr
 show qe8 K _ [some (.ref r),some (.int i),some (.str g),some (.str rule)] H
 unfold qe8
 obtain⟨us,m1,m2⟩:=h.m
 have hul:us.length=st.ms.length:=by have:=m2.length;rw[List.length_map] at this;exact this
 lk
 refine J9 ?_
 lk
 refine⟨r,_,a.x,_,_,rfl,h.o,cz.cl_Reader,cz.na_Reader_mends,rfl,?_⟩
 lk
 refine⟨.inl ⟨rfl,_,SqL.of m1⟩,?_⟩
 lk
 refine .inr (.inl ⟨g,rfl,by rw[sizeLine_eq];omega,?_⟩)
 lk
 refine⟨E1 (by z_go),fun p hp=>?_⟩
 have s1:=A7.new hp (.tup [.int i,.int (i+g.length),.str "",.str rule])
 have e1:(upd H p (.tup [.int i,.int (i+g.length),.str "",.str rule])) p=some (.tup [.int i,.int (i+g.length),.str "",.str rule]):=A6
 generalize upd H p (.tup [.int i,.int (i+g.length),.str "",.str rule])=H1 at *
 have h1:=h.same s1
 lk
 refine N5 (s1 _ _ m1) (by rw[sizeLine_eq];omega) ?_
 refine q _ (.keep (h1.setM ?_) fun c o e n=>?_) (C2.tr (A7.grow s1) C2.upd)
 ·rw[List.map_append]
  refine Dvs.append (Dvs.same s1 _ _ m2) (Dvs.one (C7.mpr ⟨p,_,rfl,SqT.of e1,B4 (O1.mpr rfl) (B4 (O1.mpr rfl) (B4 (E6.mpr rfl) (B4 (E6.mpr rfl) J7)))⟩))
 ·rw[B7 (fun z=>n (by rw[z];simp[RAd.fp]))];exact s1 c o e
section
variable{kR kB r:Addr}{bv:V}{a:RAd}{st:Rst}
theorem R0(as bs:List BA):fpA (as++bs)=fpA as++fpA bs:=by unfold fpA;rw[List.flatMap_append]
theorem RdO.dom(h:RdO K H kR kB r bv a st):∀ p∈RAd.fp r a,H p≠none:=fun p hp e=>by
 rcases h.mut p hp with⟨xs,e2⟩|⟨C,dx,fs,e2⟩ <;> rw[e] at e2 <;> cases e2
theorem RdO.push{H4:Hp}{x:BA}{b:Brn}(h:RdO K H kR kB r bv a st)(s:A7 H H4)(hb:BrO K H4 kB x b)(hn:∀ z∈x.fp,H z=none)(hd:x.fp.Nodup) :
 RdO K (upd H4 a.L (.lst ((a.as++[x]).map fun z=>V.ref z.o))) kR kB r bv {a with as:=a.as++[x]} {st with bs:=st.bs++[b]}:=by
 have h4:=h.same s
 obtain⟨a1,a2,a3,b1,b2,c1,d1,d2,d3,d4,e1⟩:=h.apart
 obtain⟨us,m1,m2⟩:=h4.m
 obtain⟨vs,l1,l2⟩:=h4.d
 have tk:T5 H4 (upd H4 a.L (.lst ((a.as++[x]).map fun z=>V.ref z.o))):=N7 (.inl ⟨_,h4.l⟩)
 have nx:∀ z∈RAd.fp r a,z∉x.fp:=fun z hz hx=>h.dom z hz (hn z hx)
 have nL:∀ z∈x.fp,z≠a.L:=fun z hz e=>nx a.L (by simp[RAd.fp]) (e▸hz)
 refine⟨h.kr,h.kb,by rw[B7 a1];exact h4.o,A6,(h4.b.but But.upd1 tk fun z hz w=>d2 (by rw[List.mem_singleton.mp w] at hz;exact hz)).app (.cons (hb.but But.upd1 tk fun z hz w=>nL z hz (List.mem_singleton.mp w)) .nil),⟨us,by rw[B7 (Ne.symm b1)];exact m1,Dvs.tupK tk _ _ (Q9 Mnd.fix _) m2⟩,⟨vs,by rw[B7 (Ne.symm b2)];exact l1,Dvs.tupK tk _ _ (Q9 Lad.fix _) l2⟩,?_⟩
 have e:RAd.fp r {a with as:=a.as++[x]}=RAd.fp r a++x.fp:=by
  unfold RAd.fp
  show r::a.L::a.M::a.A::fpA (a.as++[x])=_
  rw[R0]
  show _=r::a.L::a.M::a.A::(fpA a.as++x.fp)
  have:fpA [x]=x.fp:=by unfold fpA;rw[List.flatMap_cons,List.flatMap_nil,List.append_nil]
  rw[this]
 rw[e,List.nodup_append]
 exact⟨h.nd,hd,fun p hp q hq e=>nx p hp (e▸hq)⟩
end
abbrev wn9(K:Fg)(k_Branch:Addr):TS :=
 (L7 (tBM K "list" N2 (T3 K (A3 0) "branches") (A2 (xy3 k_Branch (V6 K) [] E0 (A2 (A3 1) (A2 (tOp (qy3 K) (T3 K (A3 2) "place") (M2 (A2 (tCB (O6 K) (A2 (T3 K (A3 2) "parts") B0)) B0))) B0))) B0)))
def T6(K:Fg):Sp:=fun vs H Q _=>∃ (kR kB r:Addr) (bv:V) (a:RAd) (st:Rst) (n:Str) (bs:List Brn) (b0:Brn),vs=[.ref r,.str n]/\RdO K H kR kB r bv a st/\st.bs=bs++[b0]/\bs.length<=1000/\b0.pl.length<=1000/\b0.ps.length<=9000000/\∀ a' H',Rup K kR kB r bv H a H' a' {st with bs:=st.bs++[⟨n,b0.pl++[(b0.ps.length:Int)],[],[]⟩]}->C2 H H'->Q .non H'
def qa1(K:Fg)(k_Branch:Addr):TS :=
 (C0 (E9 (tOp (M7 K) (T3 K (A3 0) "branches") (tUn (rU fun i=>.int (-i)) (tC (.int 1)))) (B2 2))
 (wn9 K k_Branch))
theorem wr8(cz:Cz K k_Branch k_Reader)(h:T6 K vs H Q E):qa1 K k_Branch {nx:=fun _ H'=>Q .non H',rt:=Q} (E8 ["self","name","above"] vs) H:=by
 obtain⟨kR,kB,r,bv,a,st,n,bs,b0,rfl,h,eb,hl,hp,hz,q⟩:=h
 obtain rfl:=N6 cz.ns_Reader h.kr
 obtain rfl:=N6 cz.ns_Branch h.kb
 show qa1 K _ _ [some (.ref r),some (.str n),none] H
 unfold qa1
 have hb:=h.b
 rw[eb] at hb
 obtain⟨as',x,ea,hb1,hx⟩:=hb.snoc
 obtain⟨us,q1,q2⟩:=hx.q
 have hul:=wj2 q2
 have hal:=hb1.len
 have hLl:(a.as.map fun z=>V.ref z.o).length=as'.length+1:=by rw[ea];simp
 lk
 refine J9 ?_
 lk
 refine⟨r,_,a.x,_,_,rfl,h.o,cz.cl_Reader,cz.na_Reader_branches,rfl,?_⟩
 lk
 refine⟨1,rfl,?_⟩
 refine O0 (SqL.of h.l) (v:=.ref x.o) (ql8 hLl (by rw[ea];simp)) ?_
 lk
 refine J9 ?_
 lk
 refine⟨r,_,a.x,_,_,rfl,h.o,cz.cl_Reader,cz.na_Reader_branches,rfl,?_⟩
 lk
 refine⟨.inl ⟨rfl,_,SqL.of h.l⟩,?_⟩
 lk
 refine xt0 ?_
 lk
 refine J9 ?_
 lk
 refine⟨x.o,_,x.x,_,_,rfl,hx.o,cz.cl_Branch,cz.na_Branch_place,rfl,?_⟩
 lk
 refine J9 ?_
 lk
 refine⟨x.o,_,x.x,_,_,rfl,hx.o,cz.cl_Branch,cz.na_Branch_parts,rfl,?_⟩
 lk
 refine Q3 (.inl (SqL.of q1)) ?_
 rw[hul]
 lk
 refine⟨E1 (by z_go),fun p1 h1=>?_⟩
 have s1:=A7.new h1 (.tup [.int b0.ps.length])
 refine wn7 (s1.sqT hx.p) (SqT.of A6) (by rw[qm7];exact E1 (by show _+1<=_;omega)) fun p2 H2 s2 hp2=>?_
 rw[show qd7 b0.pl++[V.int b0.ps.length]=qd7 (b0.pl++[(b0.ps.length:Int)]) by simp[qd7]] at hp2
 have s12:=A7.tr s1 s2
 lk
 intro o dx ho hdx ne
 have s3:A7 H2 (upd (upd H2 dx (.own o)) o (.ins k_Branch dx [])):=fun z u e=>by rw[B7 (fun y=>by rw[y,ho] at e;cases e),B7 (fun y=>by rw[y,hdx] at e;cases e)];exact e
 have g3:C2 H2 (upd (upd H2 dx (.own o)) o (.ins k_Branch dx [])):=C2.tr C2.upd C2.upd
 have e3:(upd (upd H2 dx (.own o)) o (.ins k_Branch dx [])) o=some (.ins k_Branch dx []):=A6
 generalize upd (upd H2 dx (.own o)) o (.ins k_Branch dx [])=H3 at *
 refine⟨k_Branch,o,dx,p2,n,_,rfl,cz.ns_Branch,e3,s3.sqT hp2,fun qq ww H4 hq hw hqw bt hB g4=>⟨rfl,?_⟩⟩
 have s4:A7 H2 H4:=fun z u e=>bt z u (s3 z u e) (by simp;intro y;rw[y,ho] at e;cases e)
 have s14:=A7.tr s12 s4
 lk
 refine N5 (s14 _ _ h.l) (by rw[hLl,sizeLine_eq];omega) ?_
 have nH:∀ z,H2 z=none->H z=none:=A7.grow s12
 have fq:∀ z∈BA.fp ⟨o,dx,p2,qq,ww⟩,H z=none:=fun z hz=>by
  simp only[BA.fp,List.mem_cons,List.not_mem_nil,or_false] at hz
  rcases hz with rfl|rfl|rfl
  ·exact nH _ ho
  ·exact nH _ (g3 _ hq)
  ·exact nH _ (g3 _ hw)
 have nd:(BA.fp ⟨o,dx,p2,qq,ww⟩).Nodup:=by
  have n1:o≠qq:=fun y=>by rw[<-y,e3] at hq;cases hq
  have n2:o≠ww:=fun y=>by rw[<-y,e3] at hw;cases hw
  simp[BA.fp,n1,n2,hqw]
 have hp:=h.push s14 hB fq nd
 rw[List.map_append] at hp
 refine q _ _ ⟨hp,fun c u e nc=>?_,fun z hz=>?_⟩ (C2.tr (C2.tr (C2.tr (A7.grow s12) g3) g4) C2.upd)
 ·rw[B7 (fun y=>nc (by rw[y];simp[RAd.fp]))];exact s14 c u e
 ·have:z∈RAd.fp r a\/z∈BA.fp ⟨o,dx,p2,qq,ww⟩:=by
   simp only[RAd.fp,R0,List.mem_cons,List.mem_append] at hz ⊢
   rcases hz with h|h|h|h|h|h
   ·exact .inl (.inl h)
   ·exact .inl (.inr (.inl h))
   ·exact .inl (.inr (.inr (.inl h)))
   ·exact .inl (.inr (.inr (.inr (.inl h))))
   ·exact .inl (.inr (.inr (.inr (.inr h))))
   ·exact .inr (by simpa [fpA] using h)
  exact this.imp id fun h=>fq z h
def qe9(K:Fg):Sp:=fun vs H Q _=>∃ (a:Addr) (ns:List Int) (k:Int),vs=[.ref a,.int k]/\SqL K H a (ns.map V.int)/\0<=k/\∀ n:Int,Q (.int n) H
def qh4(K:Fg):TS :=
 (C0 (T2 (L0 (tOp xs4 (A3 1) (tCB (O6 K) (A2 (A3 0) B0))))
 (M0 (tOp (M7 K) (A3 0) (A3 1))) O5)
 (M0 (tC (.int 0))))
theorem xc0(h:qe9 K vs H Q E):qh4 K {nx:=fun _ H'=>Q .non H',rt:=Q} (E8 ["_law_script","_law_k"] vs) H:=by
 obtain⟨a,ns,k,rfl,hS,h0,q⟩:=h
 show qh4 K _ [some (.ref a),some (.int k)] H
 unfold qh4
 lk
 refine Q3 (.inl hS) ?_
 lk
 rw[List.length_map]
 by_cases hk:k<(ns.length:Int)
 ·rw[decide_eq_true hk];refine qt4 ?_
  have hk':k.toNat<ns.length:=by omega
  lk
  refine O0 hS (v:=.int ns[k.toNat]) ?_ (q _)
  have ek:k=((k.toNat:Nat):Int):=by omega
  have e:atI (ns.map V.int) ((k.toNat:Nat):Int)=some (.int ns[k.toNat]):=U7 (by rw[List.getElem?_map,List.getElem?_eq_getElem hk'] <;> rfl)
  rw[<-ek] at e
  exact e
 ·rw[decide_eq_false hk];refine Z2 ?_
  exact q 0
end
theorem yo9{α:Type}[BEq α][LawfulBEq α]:∀ {l m:List α},l.Nodup->(∀ x∈l,x∈m)->l.length<=m.length
 | [],_,_,_=>Nat.zero_le _
 | x::l,m,hn,hs=>by
   rw[List.nodup_cons] at hn
   have hm:=hs x (by simp)
   have h2:∀ y∈l,y∈m.erase x:=fun y hy=>(List.mem_erase_of_ne (fun e=>hn.1 (by rw[<-e];exact hy))).mpr (hs y (by simp[hy]))
   have:=yo9 hn.2 h2
   have e:=List.length_erase_of_mem hm
   have hp:=List.length_pos_of_mem hm
   rw[List.length_cons];omega
def X5(K:Fg):Sp:=fun vs H Q _=>∃ c k:Int,vs=[.int c,.int k]/\0<=k/\k<=1000/\∀ n:Int,0<=n->Q (.int n) H
def qp3(K:Fg):TS :=
 (C0 (E9 (tOp (rI xe5 fun i j=>.int (i / j)) (A3 0) (tC (.int 2))) (B2 2))
 (C0 (T2 (L0 (tOp (qg1 K) (tOp (rI (fun _ j=>0<j) fun i j=>.int (i % j)) (A3 0) (tC (.int 2))) (tC (.int 0))))
 (M0 (tOp (rI (fun _ j=>0<j) fun i j=>.int (i % j)) (tOp (rI (fun _ j=>0<=j) fun i j=>.int (i / 2 ^ j.toNat)) (A3 2) (tOp qr1 (tC (.int 64)) (A3 1))) (tOp (rI yx4 fun i j=>.int (i*2 ^ j.toNat)) (tC (.int 1)) (tC (.int 64))))) O5)
 (C0 (E9 (tOp (J0 K) (tOp (rI (fun _ j=>0<j) fun i j=>.int (i % j)) (A3 2) (tC (.int 2147483647))) (tOp qr1 (tC (.int 48271)) (tOp (J0 K) (A3 1) (tC (.int 1))))) (B2 3))
 (C0 (E9 (tOp (rI (fun _ j=>0<j) fun i j=>.int (i % j)) (tOp (J0 K) (tOp qr1 (A3 3) (A3 3)) (tOp qr1 (tC (.int 69621)) (A3 1))) (tC (.int 2147483647))) (B2 3))
 (M0 (tOp (rI (fun _ j=>0<j) fun i j=>.int (i % j)) (tOp (J0 K) (tOp (J0 K) (tOp qr1 (A3 3) (A3 3)) (tOp qr1 (tC (.int 16807)) (A3 1))) (tC (.int 1))) (tC (.int 2147483629))))))))
theorem xl6(h:X5 K vs H Q E):qp3 K {nx:=fun _ H'=>Q .non H',rt:=Q} (E8 ["_law_cell","_law_k","_law_half","_law_number"] vs) H:=by
 obtain⟨c,k,rfl,hk0,hk1,q⟩:=h
 show qp3 K _ [some (.int c),some (.int k),none,none] H
 unfold qp3
 lk
 by_cases hc:c % 2=0
 ·rw[decide_eq_true hc];refine qt4 ?_
  lk
  refine qw7 (.inl ⟨by decide,by decide⟩) ?_
  refine zp9 (by omega) ?_
  lk
  refine zq0 ⟨by decide,by decide,by decide⟩ ?_
  refine yn8 (by decide) ?_
  exact q _ (Int.emod_nonneg _ (by decide))
 ·rw[decide_eq_false hc];refine Z2 ?_
  lk
  refine qw7 (.inl ⟨by decide,by decide⟩) ?_
  lk
  have a0:=Int.emod_nonneg (c / 2) (show(2147483647:Int)≠0 by decide)
  have a1:=Int.emod_lt_of_pos (c / 2) (show(0:Int)<2147483647 by decide)
  generalize hm:c / 2 % 2147483647+48271*(k+1)=m at *
  refine qw7 (.inl ⟨by omega,by omega⟩) ?_
  lk
  refine qw7 (.inl ⟨by decide,by decide⟩) ?_
  lk
  have b0:=Int.emod_nonneg (m*m+69621*k) (show(2147483647:Int)≠0 by decide)
  have b1:=Int.emod_lt_of_pos (m*m+69621*k) (show(0:Int)<2147483647 by decide)
  generalize hm2:(m*m+69621*k) % 2147483647=m2 at *
  refine qw7 (.inl ⟨by omega,by omega⟩) ?_
  lk
  refine qw7 (.inl ⟨by decide,by decide⟩) ?_
  lk
  exact q _ (Int.emod_nonneg _ (by decide))
def Sg(ns:List Int):Prop:=(∀ x∈ns,0<=x/\x<26)/\1<=ns.length/\ns.length<=8
def R9(K:Fg):Sp:=fun vs H Q _=>∃ n:Int,vs=[.int n]/\∀ (p:Addr) (ns:List Int) (H':Hp),A7 H H'->H p=none->H' p=some (.lst (qd7 ns))->Sg ns->Q (.ref p) H'
def qh5(K:Fg):TS :=
 (C0 (E9 (qd5 B0) (B2 1))
 (C0 (E9 (tOp (J0 K) (tC (.int 1)) (tOp (rI (fun _ j=>0<j) fun i j=>.int (i % j)) (A3 0) (tC (.int 8)))) (B2 2))
 (C0 (E9 (tOp (rI xe5 fun i j=>.int (i / j)) (A3 0) (tC (.int 8))) (B2 0))
 (C0 (qx9 (ym4 (A2 (A3 2) B0)) (B2 3)
 (C0 (L7 (tBM K "list" N2 (A3 1) (A2 (tOp (rI (fun _ j=>0<j) fun i j=>.int (i % j)) (A3 0) (tC (.int 26))) B0)))
 (E9 (tOp (rI xe5 fun i j=>.int (i / j)) (A3 0) (tC (.int 26))) (B2 0))))
 (M0 (A3 1))))))
theorem xc1(h:R9 K vs H Q E):qh5 K {nx:=fun _ H'=>Q .non H',rt:=Q} (E8 ["_law_number","_law_signs","_law_width","_law_j"] vs) H:=by
 obtain⟨n,rfl,q⟩:=h
 show qh5 K _ [some (.int n),none,none,none] H
 unfold qh5
 lk
 refine⟨E1 (by z_go),fun d hd=>?_⟩
 lk
 have a0:=Int.emod_nonneg n (show(8:Int)≠0 by decide)
 have a1:=Int.emod_lt_of_pos n (show(0:Int)<8 by decide)
 generalize hm:(1:Int)+n % 8=m at *
 refine xz2 (by omega) (by omega) (fun i σ H'=>∃ (y:Int) (a:Option V) (ns:List Int),σ=[some (.int y),some (.ref d),some (.int m),a]/\A7 H H'/\H' d=some (.lst (qd7 ns))/\ns.length=i/\∀ x∈ns,0<=x/\x<26) ⟨_,none,[],rfl,A7.new hd _,A6,rfl,by simp⟩ ?_ ?_
 ·rintro i σ H' hi ⟨y,a,ns,rfl,s1,h1,hl,hns⟩
  lk
  refine⟨.inl ⟨rfl,_,SqL.of h1⟩,?_⟩
  lk
  refine N5 h1 (by rw[qm7,sizeLine_eq];omega) ?_
  lk
  refine⟨_,_,ns++[y % 26],rfl,A7.put s1 hd _,by rw[<-zc9];exact A6,by simp[hl],fun x hx=>?_⟩
  rcases List.mem_append.mp hx with h|h
  ·exact hns x h
  ·rw[List.mem_singleton.mp h];exact⟨Int.emod_nonneg _ (by decide),Int.emod_lt_of_pos _ (by decide)⟩
 ·rintro σ H' ⟨y,a,ns,rfl,s1,h1,hl,hns⟩
  lk
  exact q d ns H' s1 hd h1 ⟨hns,by omega,by omega⟩
def xt3(K:Fg):TS :=
 (C0 (E9 (tBM K "str" (zp2 K) (tC (.str "")) (A2 (wl7 [some 1,none] (wf8 K (A3 4)) (B2 1) tTT (tOp (M7 K) (A3 0) (A3 1))) B0)) (B2 5))
 (C0 (E9 (wl7 [some 2,none] (zk8 (A3 1)) (B2 1) (L0 (tOp (xl4 K true) (tOp qr1 (A3 1) (tC (.int 8))) (A3 0))) (tOp qr1 (A3 1) (tC (.int 8)))) (B2 6))
 (L7 (tBM K "list" N2 (A3 2) (A2 (tOp (M7 K) (qd5 (A2 (A3 5) (A2 (tOp (M7 K) (A3 6) (tC (.int 0))) B0))) (tCB yz7 (A2 (tOp (xl4 K false) (A3 5) (tOp (J0 K) (A3 2) (qd5 (A2 (tC (.str "bars")) (A2 (tC (.str "shuts")) B0))))) B0))) B0)))))
def xt4(K:Fg):TS :=
 (C0 (T2 (L0 (tOp (qg1 K) (tOp (rI (fun _ j=>0<j) fun i j=>.int (i % j)) (A3 0) (tC (.int 4))) (tC (.int 3))))
 (C0 (E9 (tSl (wq8 K) (E2 (R9 K) [] E0 (A2 (tOp (J0 K) (tC (.int 7)) (tOp qr1 (tC (.int 8)) (E2 (X5 K) [] E0 (A2 (A3 0) (A2 (tC (.int 2)) B0))))) B0)) qh1 (Z4 (tOp (J0 K) (tOp (rI (fun _ j=>0<j) fun i j=>.int (i % j)) (A3 3) (tC (.int 8))) (tC (.int 1))))) (B2 4))
 (E9 (tOp (rI (fun _ j=>0<j) fun i j=>.int (i % j)) (tOp (J0 K) (tOp (M7 K) (A3 4) (tC (.int 0))) (tCB yz7 (A2 (tOp wv4 (A3 3) (tC (.int 7))) B0))) (tC (.int 26))) (yx2 (A3 4) (tC (.int 0)) yo0))) O5)
 (xt3 K))
structure Nms(names:List Str):Prop where
 nd:names.Nodup
 ne:∀ x∈names,x≠("":Str)
 le:∀ x∈names,x.length<=8
 lt:∀ x∈names,∀ c∈x.cps.toList,97<=c/\c<=122
theorem zm1(c:Nat):PySem.Txt.mul (ch c) 8≠("":Str):=fun e=>by
 have h1:(PySem.Txt.mul (ch c) 8).cps.toList=List.replicate 8 c:=xg4 (by decide)
 rw[e] at h1
 cases h1
theorem zd4{d:Nat}(e:PySem.Txt.mul (ch c) 8=PySem.Txt.mul (ch d) 8):c=d:=by
 have h1:(PySem.Txt.mul (ch c) 8).cps.toList=List.replicate 8 c:=xg4 (by decide)
 have h2:(PySem.Txt.mul (ch d) 8).cps.toList=List.replicate 8 d:=xg4 (by decide)
 rw[e,h2] at h1
 injection h1 with h1
 exact h1.symm
def qn4(names:List Str)(cs:List Nat):List Str:=(cs.map fun c=>PySem.Txt.mul (ch c) 8).filter fun x=>!decide (x∈names)
theorem zd5:Lt.cps.toList.Nodup:=by decide +kernel
theorem wm0{α β:Type}{f:α->β}(hf:∀ x y,f x=f y->x=y):∀ {l:List α},l.Nodup->(l.map f).Nodup
 | [],_=>by simp
 | x::l,h=>by
   rw[List.nodup_cons] at h
   rw[List.map_cons,List.nodup_cons]
   refine⟨fun hm=>?_,wm0 hf h.2⟩
   obtain⟨y,hy,e⟩:=List.mem_map.mp hm
   exact h.1 (by rw[<-hf _ _ e];exact hy)
variable{names:List Str}
theorem yv3(h:names.length<26):qn4 names Lt.cps.toList≠[]:=fun e=>by
 unfold qn4 at e
 rw[List.filter_eq_nil_iff] at e
 have hs:∀ x∈Lt.cps.toList.map (fun c=>PySem.Txt.mul (ch c) 8),x∈names:=fun x hx=>by
  have:=e x hx
  simpa using this
 have:=yo9 (wm0 (fun _ _=>zd4) zd5) hs
 rw[List.length_map] at this
 have l26:Lt.cps.toList.length=26:=by decide +kernel
 omega
def wrd(ns:List Int):Str:=PySem.Txt.join ("":Str) (ns.map fun x=>ch (97+x.toNat))
theorem zv0(h:1<=ns.length):wrd ns≠("":Str):=fun e=>by
 have e2:(wrd ns).cps.toList=ns.map fun x=>97+x.toNat:=by
  unfold wrd
  have:=xt2 (ns.map fun x=>97+x.toNat)
  rw[List.map_map] at this
  exact this
 rw[e] at e2
 cases ns with
 | nil=>simp at h
 | cons x l=>cases e2
theorem zv1:∀ e∈Lt.cps.toList,97<=e/\e<=122:=by decide +kernel
theorem zv2(hS:Sg ns):∀ c∈(wrd ns).cps.toList,97<=c/\c<=122:=by
 have e2:(wrd ns).cps.toList=ns.map fun x=>97+x.toNat:=by
  unfold wrd
  have:=xt2 (ns.map fun x=>97+x.toNat)
  rw[List.map_map] at this
  exact this
 rw[e2]
 intro c hc
 obtain⟨x,hx,rfl⟩:=List.mem_map.mp hc
 have:=hS.1 x hx
 exact⟨by omega,by omega⟩
theorem zd6(c:Nat):(PySem.Txt.mul (ch c) 8).length=8:=by
 show(PySem.Txt.mul (ch c) 8).cps.size=8
 rw[<-Array.length_toList,xg4 (by decide)];rfl
theorem zm2:(wrd ns).length=ns.length:=by
 show(wrd ns).cps.size=_
 rw[<-Array.length_toList]
 unfold wrd
 have:=xt2 (ns.map fun x=>97+x.toNat)
 rw[List.map_map] at this
 rw[show(PySem.Txt.join ("":Str) (ns.map fun x=>ch (97+x.toNat))).cps.toList=_ from this,List.length_map]
variable{a5 a6:Option V}
theorem xa5{c:Int}{k:Nat}(s0:A7 H0 H)(hd0:H0 d=none)(hd:H d=some (.lst (C1 names)))(hp:H p=some (.lst (qd7 ns)))(hS:Sg ns)(hN:Nms names)(hl:names.length<12)(q:∀ (x:Str) (b1 b2:Option V) (H':Hp),A7 H0 H'->H' d=some (.lst (C1 (names++[x])))->Nms (names++[x])->D.nx [some (.int c),some (.str Lt),some (.ref d),some (.int k),some (.ref p),b1,b2] H') :
 xt3 K D [some (.int c),some (.str Lt),some (.ref d),some (.int k),some (.ref p),a5,a6] H:=by
 unfold xt3
 lk
 refine⟨rfl,?_⟩
 lk
 refine xp2 (xs:=qd7 ns) (SqL.of hp) (fun i ys H'=>H'=H/\ys=C1 ((ns.take i).map fun x=>ch (97+x.toNat))) ⟨rfl,rfl⟩ ?_ ?_ ?_ ?_
 ·rintro i ys H' hi ⟨rfl,rfl⟩
  rw[C3,List.length_map,List.length_take]
  have:=hS.2.2
  exact E1 (by omega)
 ·rintro i ys H' hi ⟨rfl,rfl⟩
  exact SqL.of hp
 ·rintro i x ys H' hx ⟨rfl,rfl⟩
  unfold qd7 at hx
  rw[List.getElem?_map] at hx
  obtain⟨y,hy,rfl⟩:=Option.map_eq_some_iff.mp hx
  obtain⟨y0,y1⟩:=hS.1 y (List.mem_of_getElem? hy)
  lk
  refine zb0 (E1 (by rw[zu5];decide)) (Ab6 y0 y1) ?_
  refine⟨rfl,?_⟩
  rw[List.take_add_one,hy]
  simp[C1,ch]
 ·rintro ys H' ⟨rfl,rfl⟩ l hl'
  rw[qm7,List.take_length]
  lk
  refine⟨"",l,ns.map fun x=>ch (97+x.toNat),rfl,rfl,.inl (SqL.of A6),?_,?_⟩
  ·rw[List.map_map,show("":Str).length=0 from rfl,Nat.mul_zero,Nat.add_zero]
   have:(ns.map ((fun x=>x.length)∘fun x=>ch (97+x.toNat))).sum=ns.length:=by
    clear hp hS hl' q hd
    induction ns with
    | nil=>rfl
    | cons x l ih=>rw[List.map_cons,List.sum_cons,ih,List.length_cons];show 1+_=_;omega
   rw[this]
   have:=hS.2.2
   omega
  have e1:PySem.Txt.join ("":Str) (ns.map fun x=>ch (97+x.toNat))=wrd ns:=rfl
  rw[e1]
  lk
  have hd1:(upd H' l (.lst (C1 (ns.map fun x=>ch (97+x.toNat))))) d=some (.lst (C1 names)):=by rw[B7 (qp2 hd hl')];exact hd
  have s1:A7 H0 (upd H' l (.lst (C1 (ns.map fun x=>ch (97+x.toNat))))):=A7.tr s0 (A7.new hl' _)
  generalize upd H' l (.lst (C1 (ns.map fun x=>ch (97+x.toNat))))=H1 at *
  refine ya1 (z:=Lt) (fun i ys H'=>H'=H1/\ys=C1 (qn4 names (Lt.cps.toList.take i))) ⟨rfl,rfl⟩ ?_ ?_ ?_
  ·rintro i ys H' hi ⟨rfl,rfl⟩
   rw[C3]
   have h1:(qn4 names (Lt.cps.toList.take i)).length<=26:=by
    unfold qn4
    refine Nat.le_trans (List.length_filter_le _ _) ?_
    rw[List.length_map,List.length_take]
    have l26:Lt.cps.toList.length=26:=by decide +kernel
    omega
   exact E1 (by omega)
  ·rintro i e ys H' he ⟨rfl,rfl⟩
   have hsp:qn4 names (Lt.cps.toList.take (i+1))=qn4 names (Lt.cps.toList.take i)++(if PySem.Txt.mul (ch e) 8∈names then[] else[PySem.Txt.mul (ch e) 8]):=by
    unfold qn4
    rw[List.take_add_one,he,List.map_append,List.filter_append]
    congr 1
    by_cases hm:PySem.Txt.mul (ch e) 8∈names <;> simp[hm]
   lk
   refine za9 (by decide) (by decide) (show(1:Nat)<=1000 by decide) ?_
   lk
   refine .inl (yn9 (.inl (SqL.of hd1)) rfl (qg8 _) ?_)
   rw[qh3]
   lk
   by_cases hm:PySem.Txt.mul (ch e) 8∈names
   ·rw[show(⟨#[e]⟩:Str)=ch e from rfl,decide_eq_true hm]
    k_go
    refine⟨rfl,?_⟩
    rw[hsp,if_pos hm,List.append_nil]
   ·rw[show(⟨#[e]⟩:Str)=ch e from rfl,decide_eq_false hm]
    x_go
    lk
    refine za9 (by decide) (by decide) (show(1:Nat)<=1000 by decide) ?_
    refine⟨rfl,?_⟩
    rw[hsp,if_neg hm];simp[C1]
  rintro ys H' ⟨rfl,rfl⟩ t ht
  have hls:Lt.cps.toList.take Lt.cps.size=Lt.cps.toList:=List.take_of_length_le (by rw[Array.length_toList];exact Nat.le_refl _)
  rw[hls]
  have hne:=yv3 (names:=names) (by omega)
  obtain⟨x0,xr,hx0⟩:∃ x r,qn4 names Lt.cps.toList=x::r:=by
   cases h:qn4 names Lt.cps.toList with
   | nil=>exact absurd h hne
   | cons x r=>exact⟨x,r,rfl⟩
  have hx0m:x0∈qn4 names Lt.cps.toList:=by rw[hx0];simp
  unfold qn4 at hx0m
  rw[List.mem_filter] at hx0m
  have hx0n:x0∉names:=by simpa using hx0m.2
  have hx0e:x0≠("":Str):=by
   obtain⟨e,_,he⟩:=List.mem_map.mp hx0m.1
   rw[<-he];exact zm1 e
  have hx0l:x0.length<=8:=by
   obtain⟨e,_,he⟩:=List.mem_map.mp hx0m.1
   rw[<-he,zd6];exact Nat.le_refl _
  have hx0t:∀ c∈x0.cps.toList,97<=c/\c<=122:=by
   obtain⟨e,he1,he⟩:=List.mem_map.mp hx0m.1
   intro c hc
   rw[<-he,xg4 (by decide)] at hc
   rw[(List.mem_replicate.mp hc).2]
   exact zv1 e he1
  rw[hx0]
  lk
  have hd2:(upd H' t (.lst (C1 (x0::xr)))) d=some (.lst (C1 names)):=by rw[B7 (qp2 hd1 ht)];exact hd1
  refine⟨.inl ⟨rfl,_,SqL.of hd2⟩,?_⟩
  lk
  refine O0 (SqL.of A6) (v:=.str x0) (U7 (j:=0) rfl) ?_
  lk
  refine⟨E1 (by z_go),fun t2 ht2=>?_⟩
  lk
  refine⟨E1 (by z_go),fun t3 ht3=>?_⟩
  lk
  have n32:t3≠t2:=fun e=>by rw[e,A6] at ht3;cases ht3
  have hd3:(upd (upd (upd H' t (.lst (C1 (x0::xr)))) t2 (.lst [.str (wrd ns),.str x0])) t3 (.lst [.str "bars",.str "shuts"])) d=some (.lst (C1 names)):=by
   rw[B7 (qp2 (by rw[B7 (qp2 hd2 ht2)];exact hd2) ht3),B7 (qp2 hd2 ht2)];exact hd2
  refine xz5 hd3 A6 (by rw[C3];exact E1 (by simp;omega)) fun t4 ht4=>?_
  have ex:C1 names++[V.str "bars",V.str "shuts"]=C1 (names++[("bars":Str),("shuts":Str)]):=by simp[C1]
  refine .inl (yt7 (.inl (SqL.of A6)) rfl (by rw[ex];exact qg8 _) ?_)
  rw[ex,qh3]
  lk
  have n42:t2≠t4:=fun e=>by rw[<-e,B7 n32.symm,A6] at ht4;cases ht4
  have hd4:(upd (upd (upd (upd H' t (.lst (C1 (x0::xr)))) t2 (.lst [.str (wrd ns),.str x0])) t3 (.lst [.str "bars",.str "shuts"])) t4 (.lst (C1 (names++[("bars":Str),("shuts":Str)])))) d=some (.lst (C1 names)):=by
   rw[B7 (qp2 hd3 ht4)];exact hd3
  have hq2:(upd (upd (upd (upd H' t (.lst (C1 (x0::xr)))) t2 (.lst [.str (wrd ns),.str x0])) t3 (.lst [.str "bars",.str "shuts"])) t4 (.lst (C1 (names++[("bars":Str),("shuts":Str)])))) t2=some (.lst [.str (wrd ns),.str x0]):=by
   rw[B7 n42,B7 n32.symm];exact A6
  have s4:A7 H0 (upd (upd (upd (upd H' t (.lst (C1 (x0::xr)))) t2 (.lst [.str (wrd ns),.str x0])) t3 (.lst [.str "bars",.str "shuts"])) t4 (.lst (C1 (names++[("bars":Str),("shuts":Str)])))) :=
   A7.tr s1 (A7.tr (A7.new ht _) (A7.tr (A7.new ht2 _) (A7.tr (A7.new ht3 _) (A7.new ht4 _))))
  generalize (upd (upd (upd (upd H' t (.lst (C1 (x0::xr)))) t2 (.lst [.str (wrd ns),.str x0])) t3 (.lst [.str "bars",.str "shuts"])) t4 (.lst (C1 (names++[("bars":Str),("shuts":Str)]))))=H4 at *
  have app:∀ x:Str,x∉names->x≠("":Str)->x.length<=8->(∀ c∈x.cps.toList,97<=c/\c<=122)->Nms (names++[x]):=fun x hx hxe hxl hxt=>⟨by
   rw[List.nodup_append];refine⟨hN.nd,by simp,?_⟩
   intro a ha b hb e
   rw[List.mem_singleton.mp hb] at e
   exact hx (e▸ha),fun y hy=>by
   rcases List.mem_append.mp hy with h|h
   ·exact hN.ne y h
   ·rw[List.mem_singleton.mp h];exact hxe,fun y hy=>by
   rcases List.mem_append.mp hy with h|h
   ·exact hN.le y h
   ·rw[List.mem_singleton.mp h];exact hxl,fun y hy=>by
   rcases List.mem_append.mp hy with h|h
   ·exact hN.lt y h
   ·rw[List.mem_singleton.mp h];exact hxt⟩
  have fin:∀ x:Str,x∉names->x≠("":Str)->x.length<=8->(∀ c∈x.cps.toList,97<=c/\c<=122)->N2 (.ref d) [.str x] H4 (fun _ H1=>D.nx [some (.int c),some (.str Lt),some (.ref d),some (.int k),some (.ref p),some (.str (wrd ns)),some (.ref t)] H1):=fun x hx hxe hxl hxt=>by
   refine N5 hd4 (by rw[C3,sizeLine_eq];omega) ?_
   exact q x _ _ _ (A7.put s4 hd0 _) (by rw[show C1 (names++[x])=C1 names++[V.str x] by simp[C1]];exact A6) (app x hx hxe hxl hxt)
  by_cases hm:wrd ns∈names++[("bars":Str),("shuts":Str)]
  ·rw[decide_eq_true hm]
   refine .inr ⟨true,rfl,?_⟩
   refine O0 (SqL.of hq2) (v:=.str x0) (U7 (j:=1) rfl) ?_
   lk
   exact fin x0 hx0n hx0e hx0l hx0t
  ·rw[decide_eq_false hm]
   refine .inr ⟨false,rfl,?_⟩
   refine O0 (SqL.of hq2) (v:=.str (wrd ns)) (U7 (j:=0) rfl) ?_
   lk
   exact fin _ (fun h=>hm (List.mem_append_left _ h)) (zv0 hS.2.1) (by rw[zm2];exact hS.2.2) (zv2 hS)
theorem Sg.set(h:Sg ns)(i:Nat){x:Int}(h0:0<=x)(h1:x<26):Sg (ns.set i x):=by
 refine⟨fun y hy=>?_,by rw[List.length_set];exact h.2.1,by rw[List.length_set];exact h.2.2⟩
 rcases List.mem_or_eq_of_mem_set hy with h' | h'
 ·exact h.1 y h'
 ·rw[h'];exact⟨h0,h1⟩
theorem xa6{c:Int}{k:Nat}(s0:A7 H0 H)(hd0:H0 d=none)(hd:H d=some (.lst (C1 names)))(hp:H p=some (.lst (qd7 ns)))(hS:Sg ns)(hN:Nms names)(hl:names.length<12)(q:∀ (x:Str) (b0 b1 b2:Option V) (H':Hp),A7 H0 H'->H' d=some (.lst (C1 (names++[x])))->Nms (names++[x])->D.nx [some (.int c),some (.str Lt),some (.ref d),some (.int k),b0,b1,b2] H') :
 xt4 K D [some (.int c),some (.str Lt),some (.ref d),some (.int k),some (.ref p),a5,a6] H:=by
 unfold xt4
 lk
 by_cases h4:c % 4=3
 ·rw[decide_eq_true h4];refine qt4 ?_
  lk
  refine⟨c,2,rfl,by decide,by decide,fun m hm=>?_⟩
  refine qw7 (.inl ⟨by decide,by decide⟩) ?_
  lk
  refine⟨_,rfl,fun p1 ns1 H1 s1 hp1 h1 hS1=>?_⟩
  lk
  refine .inr (.inr ⟨p1,_,rfl,SqL.of h1,fun p2 hp2=>?_⟩)
  obtain⟨u,hu⟩:∃ u:Nat,(k:Int) % 8+1=(u:Int)/\1<=u:=⟨((k:Int) % 8+1).toNat,by omega,by omega⟩
  have ec:qn3 (qd7 ns1) none (some ((k:Int) % 8+1))=qd7 (ns1.take u):=by
   unfold qn3
   rw[hu.1,HT.wb1]
   show((qd7 ns1).drop 0).take (min u (qd7 ns1).length-0)=_
   rw[List.drop_zero,Nat.sub_zero]
   unfold qd7
   rw[List.map_take,List.length_map]
   by_cases hh:u<=ns1.length
   ·rw[Nat.min_eq_left hh]
   ·rw[Nat.min_eq_right (by omega),List.take_of_length_le (by rw[List.length_map];exact Nat.le_refl _),List.take_of_length_le (by rw[List.length_map];omega)]
  rw[ec]
  have hS2:Sg (ns1.take u):=⟨fun x hx=>hS1.1 x (List.mem_of_mem_take hx),by rw[List.length_take];have:=hS1.2.1;omega,by rw[List.length_take];have:=hS1.2.2;omega⟩
  generalize ns1.take u=ns2 at *
  have hd2:(upd H1 p2 (.lst (qd7 ns2))) d=some (.lst (C1 names)):=by rw[B7 (qp2 (s1 _ _ hd) hp2)];exact s1 _ _ hd
  have npd:p2≠d:=(qp2 (s1 _ _ hd) hp2).symm
  lk
  refine O0 (SqL.of A6) (v:=.int (ns2[0]'hS2.2.1)) (U7 (j:=0) (yo6 hS2.2.1)) ?_
  lk
  refine .inr ⟨_,rfl,?_⟩
  lk
  refine .inl (yi0 A6 (j:=0) (Ab7 (by rw[qm7];exact hS2.2.1)) ?_)
  rw[yb0]
  refine xa5 (H0:=H0) ?_ hd0 ?_ A6 (hS2.set 0 (Int.emod_nonneg _ (by decide)) (Int.emod_lt_of_pos _ (by decide))) hN hl fun x b1 b2 H'=>q x _ b1 b2 H'
  ·exact A7.put (A7.tr s0 (A7.tr s1 (A7.new hp2 _))) (A7.free s0 (A7.free s1 hp2)) _
  ·rw[B7 npd.symm];exact hd2
 ·rw[decide_eq_false h4];refine Z2 ?_
  lk
  exact xa5 s0 hd0 hd hp hS hN hl fun x b1 b2 H'=>q x _ b1 b2 H'
def ql9(K:Fg):Sp:=fun vs H Q _=>∃ c:Int,vs=[.int c]/\∀ (d:Addr) (names:List Str) (H':Hp),A7 H H'->H d=none->H' d=some (.lst (C1 names))->names.length=12->Nms names->Q (.ref d) H'
def qp4(K:Fg):TS :=
 (C0 (E9 (tC (.str "abcdefghijklmnopqrstuvwxyz")) (B2 1))
 (C0 (E9 (qd5 B0) (B2 2))
 (C0 (qx9 (ym4 (A2 (tC (.int 12)) B0)) (B2 3)
 (C0 (E9 (E2 (R9 K) [] E0 (A2 (tOp (rI (fun _ j=>0<j) fun i j=>.int (i % j)) (tOp (rI (fun _ j=>0<=j) fun i j=>.int (i / 2 ^ j.toNat)) (tOp (rI xe5 fun i j=>.int (i / j)) (A3 0) (tC (.int 2))) (tOp qr1 (tC (.int 41)) (A3 3))) (tOp (rI yx4 fun i j=>.int (i*2 ^ j.toNat)) (tC (.int 1)) (tC (.int 41)))) B0)) (B2 4))
 (C0 (T2 (L0 (tOp (qg1 K) (tOp (rI (fun _ j=>0<j) fun i j=>.int (i % j)) (A3 0) (tC (.int 2))) (tC (.int 1))))
 (C0 (E9 (E2 (R9 K) [] E0 (A2 (E2 (X5 K) [] E0 (A2 (A3 0) (A2 (tC (.int 1)) B0))) B0)) (B2 4))
 (E9 (tOp (rI (fun _ j=>0<j) fun i j=>.int (i % j)) (tOp (J0 K) (tOp (M7 K) (A3 4) (tUn (rU fun i=>.int (-i)) (tC (.int 1)))) (A3 3)) (tC (.int 26))) (yx2 (A3 4) (tUn (rU fun i=>.int (-i)) (tC (.int 1))) yo0))) O5)
 (xt4 K))))
 (M0 (A3 2)))))
theorem xl7(h:ql9 K vs H Q E):qp4 K {nx:=fun _ H'=>Q .non H',rt:=Q} (E8 ["_law_cell","_law_letters_here","_law_names_here","_law_k","_law_signs","_law_name","_law_spare"] vs) H:=by
 obtain⟨c,rfl,q⟩:=h
 show qp4 K _ [some (.int c),none,none,none,none,none,none] H
 unfold qp4
 lk
 refine⟨E1 (by z_go),fun d hd=>?_⟩
 lk
 refine xz2 (by decide) (by decide) (fun i σ H'=>∃ (a3 a4 a5 a6:Option V) (names:List Str),σ=[some (.int c),some (.str Lt),some (.ref d),a3,a4,a5,a6]/\A7 H H'/\H' d=some (.lst (C1 names))/\names.length=i/\Nms names) ⟨none,none,none,none,[],rfl,A7.new hd _,A6,rfl,⟨by simp,by simp,by simp,by simp⟩⟩ ?_ ?_
 ·rintro i σ H' hi ⟨a3,a4,a5,a6,names,rfl,s1,h1,hl,hN⟩
  lk
  refine qw7 (.inl ⟨by decide,by decide⟩) ?_
  refine zp9 (by omega) ?_
  lk
  refine zq0 ⟨by decide,by decide,by decide⟩ ?_
  refine yn8 (by decide) ?_
  lk
  refine⟨_,rfl,fun p ns H2 s2 hp hp2 hS=>?_⟩
  lk
  have fin:∀ (x:Str) (b0 b1 b2:Option V) (H':Hp),A7 H H'->H' d=some (.lst (C1 (names++[x])))->Nms (names++[x])->(fun σ H'=>∃ (a3 a4 a5 a6:Option V) (names:List Str),σ=[some (.int c),some (.str Lt),some (.ref d),a3,a4,a5,a6]/\A7 H H'/\H' d=some (.lst (C1 names))/\names.length=i+1/\Nms names) [some (.int c),some (.str Lt),some (.ref d),some (.int i),b0,b1,b2] H' :=
   fun x b0 b1 b2 H' s h n=>⟨_,_,_,_,_,rfl,s,h,by simp[hl],n⟩
  by_cases h2:c % 2=1
  ·rw[decide_eq_true h2];refine qt4 ?_
   lk
   refine⟨c,1,rfl,by decide,by decide,fun m hm=>?_⟩
   lk
   refine⟨_,rfl,fun p1 ns1 H3 s3 hp1 h3 hS1=>?_⟩
   have hd3:=s3 _ _ (s2 _ _ h1)
   have npd:p1≠d:=(qp2 (s2 _ _ h1) hp1).symm
   lk
   refine⟨1,rfl,?_⟩
   refine O0 (SqL.of h3) (yo7 (by rw[qm7];exact hS1.2.1) (by rw[qm7];exact yo6 (by have:=hS1.2.1;omega))) ?_
   lk
   refine⟨1,rfl,?_⟩
   refine .inl (yi0 h3 (yb1 (by rw[qm7];exact hS1.2.1)) ?_)
   rw[yb0]
   refine xa6 (H0:=H) ?_ hd ?_ A6 (hS1.set _ (Int.emod_nonneg _ (by decide)) (Int.emod_lt_of_pos _ (by decide))) hN (by omega) fin
   ·exact A7.put (A7.tr s1 (A7.tr s2 s3)) (A7.free s1 (A7.free s2 hp1)) _
   ·rw[B7 npd.symm];exact hd3
  ·rw[decide_eq_false h2];refine Z2 ?_
   lk
   exact xa6 (H0:=H) (A7.tr s1 s2) hd (s2 _ _ h1) hp2 hS hN (by omega) fin
 ·rintro σ H' ⟨a3,a4,a5,a6,names,rfl,s1,h1,hl,hN⟩
  lk
  exact q d names H' s1 hd h1 hl hN
def gd(l:List Str)(i:Nat):Str:=l.getD i ("":Str)
def xh0(x:Str):Prop:=x=("bare":Str)\/x=("plain":Str)\/x=("anew":Str)\/x=("room":Str)\/x=("frame":Str)
theorem ww4{l:List Str}{i:Nat}(h:i<l.length):l[i]?=some (gd l i):=by
 unfold gd;rw[List.getD_eq_getElem?_getD];simp[h]
theorem W6{l:List Str}{i:Nat}(h:i<l.length):gd l i∈l:=List.mem_of_getElem? (ww4 h)
variable{j:Nat}
theorem zd7(hn:names.Nodup){i:Nat}(hi:i<names.length)(hj:j<names.length)(e:gd names i=gd names j):i=j:=by
 have e1:gd names i=names[i]:=by have:=ww4 hi;rw[List.getElem?_eq_getElem hi] at this;exact(Option.some.inj this).symm
 have e2:gd names j=names[j]:=by have:=ww4 hj;rw[List.getElem?_eq_getElem hj] at this;exact(Option.some.inj this).symm
 have h1:=hn.idxOf_getElem i hi
 have h2:=hn.idxOf_getElem j hj
 rw[<-e1,e,e2,h2] at h1
 exact h1.symm
theorem qh6{xs:List Str}{i:Nat}(h:i<xs.length):atI (C1 xs) ((i:Nat):Int)=some (.str (gd xs i)):=U7 (by unfold C1;rw[List.getElem?_map,ww4 h];rfl)
def yb5(js:List Nat):List V:=js.map fun(j:Nat)=>.int (j:Int)
def Ac1(x:Str):Prop:=x=("plain":Str)\/x=("frame":Str)
instance (x:Str):Decidable (Ac1 x):=inferInstanceAs (Decidable (_\/_))
theorem yb6:∀ xs:List Str,Q0 (sDa xs)=true
 | []=>by show Q0 []=true;rw[Q0]
 | x::xs=>by show Q0 (.str x::sDa xs)=true;rw[Q0,yb6 xs,fix];rfl
theorem zm3(r:Row):fix r.da=true:=by
 unfold Row.da
 simp[fix,Q0,yb6]
theorem yb7:∀ rs:List Row,Q0 (rs.map Row.da)=true
 | []=>by show Q0 []=true;rw[Q0]
 | r::rs=>by show Q0 (r.da::rs.map Row.da)=true;rw[Q0,zm3,yb7 rs];rfl
structure Boo(rs:List Row):Prop where
 l1:1<=rs.length
 l2:rs.length<=12
 nd:(rs.map (·.name)).Nodup
 ne:∀ r∈rs,r.name≠("":Str)
 rk:∃ rk:Str->Nat,(∀ r∈rs,rk r.name<12)/\∀ r∈rs,r.sort=("frame":Str)->(∃ r'∈rs,r'.name=r.host/\Ac1 r'.sort)/\rk r.name<rk r.host
 noh:∀ r∈rs,r.sort≠("frame":Str)->r.host=("":Str)
 uq:∀ r∈rs,∀ r'∈rs,r.sort=("frame":Str)->r'.sort=("frame":Str)->r.host=r'.host->r.name=r'.name
 srt:∀ r∈rs,xh0 r.sort
 nosh:∀ r∈rs,∀ x∈r.shuts,∀ f∈rs,f.sort=("frame":Str)->f.host≠x
theorem Rws.same(h:Rws K H v rs)(s:A7 H H'):Rws K H' v rs:=by
 obtain⟨a,vs,rfl,hq,hd⟩:=h
 exact⟨a,vs,rfl,hq.imp s.sqL s.sqT,Dvs.same s _ _ hd⟩
variable{r:Row}
theorem wg7(h:qb2 rs (some n)=some r):r∈rs/\r.name=n:=by
 refine⟨List.mem_of_find?_eq_some h,?_⟩
 have:=List.find?_some h
 simpa using this
theorem xt5(h:∃ r∈rs,r.name=n):∃ r,qb2 rs (some n)=some r/\r∈rs/\r.name=n:=by
 cases e:qb2 rs (some n) with
 | none =>
   obtain⟨r,hr,hn⟩:=h
   have:=List.find?_eq_none.mp e r hr
   simp[hn] at this
 | some r=>exact⟨r,rfl,wg7 e⟩
theorem zv3(nd:(rs.map (·.name)).Nodup){r':Row}(h:r∈rs)(h':r'∈rs)(e:r.name=r'.name):r=r':=by
 induction rs with
 | nil=>cases h
 | cons x l ih =>
   rw[List.map_cons,List.nodup_cons] at nd
   rcases List.mem_cons.mp h with h|h
   ·rcases List.mem_cons.mp h' with h' | h'
    ·rw[h,h']
    ·exact absurd (List.mem_map.mpr ⟨r',h',by rw[<-e,h]⟩) nd.1
   ·rcases List.mem_cons.mp h' with h' | h'
    ·exact absurd (List.mem_map.mpr ⟨r,h,by rw[e,h']⟩) nd.1
    ·exact ih nd.2 h h'
theorem yv4(nd:(rs.map (·.name)).Nodup)(h:r∈rs):qb2 rs (some r.name)=some r:=by
 obtain⟨r',e,h',en⟩:=xt5 ⟨r,h,rfl⟩
 rw[e,zv3 nd h' h en]
def X8(rs:List Row)(n:Str):Bool:=match qb2 rs (some n) with|none=>false|some r=>decide (r.sort∈[("room":Str),("frame":Str)])
def qd8(rs:List Row)(ns:List Str):List Str:=ns.foldl (fun acc n=>if X8 rs n then[] else acc++[n]) []
theorem ww5(rs:List Row)(ns:List Str)(n:Str):qd8 rs (ns++[n])=if X8 rs n then[] else qd8 rs ns++[n]:=by
 unfold qd8;rw[List.foldl_append];rfl
theorem qy6(rs:List Row):∀ (k:Nat) (ns:List Str),ns.length=k->(qd8 rs ns).length<=k
 | 0,ns,h=>by rw[List.length_eq_zero_iff.mp h];exact Nat.le_refl _
 | k+1,ns,h=>by
   have hp:ns≠[]:=fun e=>by rw[e] at h;cases h
   rw[<-List.dropLast_concat_getLast hp,ww5]
   have:=qy6 rs k ns.dropLast (by rw[List.length_dropLast];omega)
   split
   ·exact Nat.zero_le _
   ·rw[List.length_append,List.length_singleton];omega
theorem xt6(h:Dv K H r.da v):∃ b ps pb,v=.ref b/\SqT K H b [.str r.name,.str r.sort,.str r.host,.ref ps,.ref pb]/\SqT K H ps (C1 r.shuts)/\SqT K H pb (C1 r.bars):=by
 obtain⟨b,sv,bv,rfl,hb,h1,h2⟩:=qy5 h
 obtain⟨ps,vs,rfl,q1,d1⟩:=C7.mp h1
 obtain⟨pb,ws,rfl,q2,d2⟩:=C7.mp h2
 rw[qe4.mp d1] at q1
 rw[qe4.mp d2] at q2
 exact⟨b,ps,pb,rfl,hb,q1,q2⟩
def V7(ys:List Str):Str:=gd ys (ys.length-1)
def qh7(rs:List Row):Nat->Option Str->List Str
 | 0,_=>[]
 | k+1,n=>match Q8 rs n with
   | none=>[]
   | some y=>y::qh7 rs k (some y)
def zv4(rs:List Row)(rk:Str->Nat):Prop:=∀ x y,Q8 rs (some x)=some y->rk x<rk y/\rk y<12
theorem Boo.rise(B:Boo rs):∃ rk,zv4 rs rk:=by
 obtain⟨rk,h1,h2⟩:=B.rk
 refine⟨rk,fun x y e=>?_⟩
 unfold Q8 at e
 cases er:qb2 rs (some x) with
 | none=>rw[er] at e;cases e
 | some r =>
   rw[er] at e
   obtain⟨hr,hn⟩:=wg7 er
   by_cases hf:r.sort=("frame":Str)
   ·have e:some r.host=some y:=by simpa [hf] using e
    injection e with e
    obtain⟨⟨r',hr',en,_⟩,h⟩:=h2 r hr hf
    subst e hn
    exact⟨h,by rw[<-en];exact h1 r' hr'⟩
   ·simp[hf] at e
theorem xh1{rs:List Row}{rk:Str->Nat}(f:zv4 rs rk):∀ (k m:Nat) (x:Str),12-rk x<=k->k<=m->qh7 rs m (some x)=qh7 rs k (some x)
 | k, 0, x, h, hm => by have:k=0:=by omega
                        rw[this]
 | k,m+1,x,h,hm=>by
   cases e:Q8 rs (some x) with
   | none =>
     have e1:∀ k,qh7 rs k (some x)=[]:=fun k=>by cases k with|zero=>rfl|succ k=>rw[qh7,e]
     rw[e1,e1]
   | some y =>
     obtain⟨hy,hy2⟩:=f x y e
     cases k with
     | zero=>omega
     | succ k =>
       rw[qh7,e,qh7,e]
       show y::qh7 rs m (some y)=y::qh7 rs k (some y)
       rw[xh1 f k m y (by omega) (by omega)]
def M9(rs:List Row)(x:Str):List Str:=qh7 rs 12 (some x)
theorem ql1(rs:List Row):∀ (k:Nat) (n:Option Str),(qh7 rs k n).length<=k
 | 0,_=>Nat.le_refl _
 | k+1,n=>by
   rw[qh7]
   split
   ·exact Nat.zero_le _
   ·rw[List.length_cons];have:=ql1 rs k;exact Nat.succ_le_succ (this _)
theorem xh2(e:Q8 rs (some x)=none):M9 rs x=[]:=by
 unfold M9;rw[qh7,e]
theorem xh3(f:zv4 rs rk)(e:Q8 rs (some x)=some y):M9 rs x=y::M9 rs y:=by
 unfold M9
 rw[qh7,e]
 show y::qh7 rs 11 (some y)=y::qh7 rs 12 (some y)
 obtain⟨h1,h2⟩:=f x y e
 rw[xh1 f 11 12 y (by omega) (by omega)]
def P3(K:Fg):Sp:=fun vs H Q _=>∃ (a:Addr) (ys:List Str),vs=[.ref a]/\(SqL K H a (C1 ys)\/SqT K H a (C1 ys))/\Q (.str (V7 ys)) H
def qa2(K:Fg):TS :=
 (M0 (tIf (L0 (tOp wv4 (tCB (O6 K) (A2 (A3 0) B0)) (tC (.int 0)))) (tOp (M7 K) (A3 0) (tUn (rU fun i=>.int (-i)) (tC (.int 1)))) (tC (.str ""))))
theorem wr9(h:P3 K vs H Q E):qa2 K {nx:=fun _ H'=>Q .non H',rt:=Q} (E8 ["names"] vs) H:=by
 obtain⟨a,ys,rfl,hq,q⟩:=h
 show qa2 K _ [some (.ref a)] H
 unfold qa2
 lk
 refine Q3 hq ?_
 rw[C3]
 lk
 by_cases h0:(0:Int)<(ys.length:Int)
 ·rw[decide_eq_true h0]
  x_go
  lk
  refine⟨1,rfl,?_⟩
  have e1:(C1 ys)[(C1 ys).length-1]?=some (.str (V7 ys)):=by
   rw[C3];unfold C1 V7;rw[List.getElem?_map,ww4 (by omega)];rfl
  have e2:=yo7 (by rw[C3];omega) e1
  rcases hq with hq|hq
  ·exact O0 hq e2 q
  ·exact W3 hq e2 q
 ·rw[decide_eq_false h0]
  k_go
  lk
  have:ys=[]:=List.length_eq_zero_iff.mp (by omega)
  subst this
  exact q
def X1(K:Fg):Sp:=fun vs H Q _=>∃ (v:V) (x:Str) (rs:List Row),vs=[v,.str x]/\Rws K H v rs/\Boo rs/\∀ (p:Addr) (H':Hp),A7 H H'->SqT K H' p (C1 (M9 rs x))->Q (.ref p) H'
def qh8(K:Fg):TS :=
 (C0 (E9 (qd5 B0) (B2 2))
 (C0 (E9 (E2 (qr5 K) [] E0 (A2 (A3 0) (A2 (A3 1) B0))) (B2 3))
 (C0 (wa8 (L0 (tOp wj1 (A3 3) (tC .non)))
 (C0 (L7 (tBM K "list" N2 (A3 2) (A2 (A3 3) B0)))
 (E9 (E2 (qr5 K) [] E0 (A2 (A3 0) (A2 (A3 3) B0))) (B2 3))))
 (M0 (tCB (qp1 K) (A2 (A3 2) B0))))))
theorem xc2(h:X1 K vs H Q E):qh8 K {nx:=fun _ H'=>Q .non H',rt:=Q} (E8 ["book","name","hosts","host"] vs) H:=by
 obtain⟨v,x,rs,rfl,hR,B,q⟩:=h
 show qh8 K _ [some v,some (.str x),none,none] H
 unfold qh8
 obtain⟨rk,f⟩:=B.rise
 lk
 refine⟨E1 (by z_go),fun d hd=>?_⟩
 lk
 refine⟨v,some x,rs,rfl,hR.same (A7.new hd _),?_⟩
 lk
 refine xx9 (fun σ H'=>∃ (n:Option Str) (ys:List Str),σ=[some v,some (.str x),some (.ref d),some (oV n)]/\A7 H H'/\H' d=some (.lst (C1 ys))/\M9 rs x=ys++(match n with|none=>[]|some y=>y::M9 rs y)/\ys.length<=12/\∀ y,n=some y->∃ x,Q8 rs (some x)=some y)
  (fun σ _=>match σ with | [_,_,_,some (.str y)]=>13-rk y|_=>0) ?_ ?_ ?_
 ·refine⟨Q8 rs (some x),[],rfl,A7.new hd _,A6,?_,Nat.zero_le _,fun y e=>⟨x,e⟩⟩
  cases e:Q8 rs (some x) with
  | none=>rw[xh2 e];rfl
  | some y=>rw[xh3 f e];rfl
 ·rintro σ H' ⟨n,ys,rfl,s1,h1,eh,hl,hn⟩
  have hlen:(M9 rs x).length<=12:=ql1 rs 12 _
  cases n with
  | none =>
    refine⟨_,rfl,rfl,_,rfl,?_⟩
    show(if(!decide (V.non=V.non))=true then _ else _)
    rw[decide_eq_true rfl,Bool.not_true];refine Z2 ?_
    lk
    refine⟨d,_,rfl,.inl ⟨SqL.of h1,fun p hp=>?_⟩⟩
    have:M9 rs x=ys:=by rw[eh];exact List.append_nil _
    exact q p _ (A7.tr s1 (A7.new hp _)) (by rw[this];exact SqT.of A6)
  | some y =>
    refine⟨_,rfl,rfl,_,rfl,?_⟩
    show(if(!decide (V.str y=V.non))=true then _ else _)
    rw[decide_eq_false (by simp),Bool.not_false];refine qt4 ?_
    have hl2:ys.length+1<=12:=by
     rw[eh,List.length_append] at hlen
     simp at hlen;omega
    lk
    refine⟨.inl ⟨rfl,_,SqL.of h1⟩,?_⟩
    lk
    refine N5 h1 (by rw[C3,sizeLine_eq];omega) ?_
    rw[show(oV (some y))=V.str y from rfl,wg6]
    lk
    refine⟨v,some y,rs,rfl,hR.same (A7.put s1 hd _),?_⟩
    lk
    refine⟨⟨Q8 rs (some y),ys++[y],rfl,A7.put s1 hd _,A6,?_,by rw[List.length_append,List.length_singleton];omega,fun z e=>⟨y,e⟩⟩,?_⟩
    ·rw[eh,List.append_assoc]
     congr 1
     cases e:Q8 rs (some y) with
     | none=>show y::M9 rs y=_;rw[xh2 e];rfl
     | some z=>show y::M9 rs y=_;rw[xh3 f e];rfl
    ·show(match [some v,some (V.str x),some (V.ref d),some (oV (Q8 rs (some y)))] with | [_,_,_,some (.str y)]=>13-rk y|_=>0)<13-rk y
     obtain⟨w,hw⟩:=hn y rfl
     have:=(f _ _ hw).2
     cases e2:Q8 rs (some y) with
     | none=>show 0<13-rk y;omega
     | some z=>have:=f y z e2;show 13-rk z<13-rk y;omega
 ·rintro σ H' Q1 Q2 hQ ⟨v1,e1,e2,k,e3,q1⟩
  exact⟨v1,e1,e2,k,e3,hQ _ _ q1⟩
def qp5(K:Fg):Sp:=fun vs H Q _=>∃ (v:V) (a:Addr) (ys:List Str) (rs:List Row),vs=[v,.ref a]/\Rws K H v rs/\Boo rs/\(SqL K H a (C1 ys)\/SqT K H a (C1 ys))/\(20<ys.length+(M9 rs (V7 ys)).length->∀ H',A7 H H'->Q .non H')/\(¬20<ys.length+(M9 rs (V7 ys)).length->∀ (p:Addr) (H':Hp),A7 H H'->SqT K H' p (C1 (M9 rs (V7 ys)))->Q (.ref p) H')
def qu2(K:Fg):TS :=
 (C0 (E9 (E2 (X1 K) [] E0 (A2 (A3 0) (A2 (E2 (P3 K) [] E0 (A2 (A3 1) B0)) B0))) (B2 2))
 (M0 (tIf (L0 (tOp wv4 (tOp (J0 K) (tCB (O6 K) (A2 (A3 1) B0)) (tCB (O6 K) (A2 (A3 2) B0))) (tC (.int 20)))) (tC .non) (A3 2))))
theorem xt7(h:qp5 K vs H Q E):qu2 K {nx:=fun _ H'=>Q .non H',rt:=Q} (E8 ["book","names","hosts"] vs) H:=by
 obtain⟨v,a,ys,rs,rfl,hR,B,hq,q1,q2⟩:=h
 show qu2 K _ [some v,some (.ref a),none] H
 unfold qu2
 lk
 refine⟨a,ys,rfl,hq,?_⟩
 lk
 refine⟨v,_,rs,rfl,hR,B,fun p H1 s1 hp=>?_⟩
 lk
 refine Q3 (hq.imp s1.sqL s1.sqT) ?_
 rw[C3]
 lk
 refine Q3 (.inr hp) ?_
 rw[C3]
 lk
 by_cases h:20<ys.length+(M9 rs (V7 ys)).length
 ·rw[decide_eq_true (by omega)]
  x_go
  lk
  exact q1 h _ s1
 ·rw[decide_eq_false (by omega)]
  k_go
  lk
  exact q2 h p _ s1 hp
variable{ys:List Str}
theorem xh4(k:Nat):qn3 (C1 ys) none (some ((k:Nat):Int))=C1 (ys.take k):=by
 unfold qn3
 rw[HT.wb1]
 show((C1 ys).drop 0).take (min k (C1 ys).length-0)=_
 rw[List.drop_zero,Nat.sub_zero]
 unfold C1
 rw[List.map_take,List.length_map]
 by_cases hh:k<=ys.length
 ·rw[Nat.min_eq_left hh]
 ·rw[Nat.min_eq_right (by omega),List.take_of_length_le (by rw[List.length_map];exact Nat.le_refl _),List.take_of_length_le (by rw[List.length_map];omega)]
theorem ww7(e:N4 rs (some x)=some y):∃ r∈rs,r.name=y/\r.sort=("frame":Str)/\r.host=x:=by
 unfold N4 at e
 obtain⟨r,hr,rfl⟩:=Option.map_eq_some_iff.mp e
 have hm:=List.mem_of_find?_eq_some hr
 have hp:=List.find?_some hr
 rw[Bool.and_eq_true,decide_eq_true_eq,decide_eq_true_eq] at hp
 exact⟨r,hm,rfl,hp.1,Option.some.inj hp.2⟩
def bel(rs:List Row)(rk:Str->Nat)(y x:Str):Bool:=decide (x∈ups rs (rk y) (some y))
def clo(rs:List Row)(rk:Str->Nat)(ys:List Str)(x:Str):Nat->Option Nat
 | 0=>none
 | k+1=>if gd ys k=x then some k else if X8 rs (gd ys k) && !(bel rs rk (gd ys k) x) then none else clo rs rk ys x k
def nV:Option Nat->V
 | some k=>.int (k:Int)
 | none=>.non
theorem zm4(xs:List Str):inV .non (C1 xs)=false:=by
 induction xs with
 | nil=>rfl
 | cons x l ih =>
   unfold inV at ih ⊢
   show(eqV (.str x) .non || (C1 l).any fun z=>eqV z .non)=false
   rw[ih];rfl
def qg4(K:Fg):Sp:=fun vs H Q _=>∃ v n rs,vs=[v,.str n]/\Rws K H v rs/\Q (.bl (X8 rs n)) H
def wj4(K:Fg)(c_WALL_SORTS:Addr):TS :=
 (M0 (tOp (xl4 K false) (E2 (Z5 K) [] E0 (A2 (A3 0) (A2 (A3 1) B0))) (tC (.ref c_WALL_SORTS))))
theorem yj5{c_WALL_SORTS:Addr}(q_WALL_SORTS:∀ H:Hp,SqT K H c_WALL_SORTS [.str "room",.str "frame"])(h:qg4 K vs H Q E):wj4 K c_WALL_SORTS {nx:=fun _ H'=>Q .non H',rt:=Q} (E8 ["book","name"] vs) H:=by
 obtain⟨v,n,rs,rfl,hR,q⟩:=h
 show wj4 K c_WALL_SORTS _ [some v,some (.str n)] H
 unfold wj4
 lk
 refine⟨v,some n,rs,rfl,hR,?_⟩
 lk
 have hw:X8 rs n=inV (oV (L9 rs (some n))) (C1 [("room":Str),("frame":Str)]):=by
  unfold X8 L9
  cases qb2 rs (some n) with
  | none=>exact(zm4 _).symm
  | some r=>exact(qh3 _ _).symm
 refine .inl (yt7 (xs:=C1 [("room":Str),("frame":Str)]) (.inr (q_WALL_SORTS H)) ?_ (qg8 _) ?_)
 ·cases L9 rs (some n) <;> rfl
 ·rw[<-hw];exact q
def qr7(K:Fg):Sp:=fun vs H Q _=>∃ (v:V) (a:Addr) (ys:List Str) (x:Str) (rs:List Row) (rk:Str->Nat),vs=[v,.ref a,.str x]/\Rws K H v rs/\wr3 rs rk/\(SqL K H a (C1 ys)\/SqT K H a (C1 ys))/\ys.length<=1000/\Q (nV (clo rs rk ys x ys.length)) H
def wj5(K:Fg):TS :=
 (C0 (qx9 (zc2 (A2 (tOp (rI0 fun i j=>.int (i-j)) (tCB (O6 K) (A2 (A3 1) B0)) (tC (.int 1))) (A2 (tUn (rU fun i=>.int (-i)) (tC (.int 1))) (A2 (tUn (rU fun i=>.int (-i)) (tC (.int 1))) B0)))) (B2 3)
 (C0 (T2 (L0 (tOp (qg1 K) (tOp (M7 K) (A3 1) (A3 3)) (A3 2)))
 (M0 (A3 3)) O5)
 (T2 (xb4 (tB (E2 (qg4 K) [] E0 (A2 (A3 0) (A2 (tOp (M7 K) (A3 1) (A3 3)) B0)))) (yr7 (tB (E2 (wb3 K) [] E0 (A2 (A3 0) (A2 (tOp (M7 K) (A3 1) (A3 3)) (A2 (A3 2) B0)))))))
 (M0 (tC .non)) O5)))
 (M0 (tC .non)))
theorem yj6(h:qr7 K vs H Q E):wj5 K {nx:=fun _ H'=>Q .non H',rt:=Q} (E8 ["book","names","name","number"] vs) H:=by
 obtain⟨v,a,ys,x,rs,rk,rfl,hR,f,hq,hl,q⟩:=h
 show wj5 K _ [some v,some (.ref a),some (.str x),none] H
 unfold wj5
 lk
 refine Q3 hq ?_
 rw[C3]
 lk
 refine⟨1,rfl,?_⟩
 lk
 refine⟨1,rfl,?_⟩
 lk
 refine zc4 (by omega) (fun i σ H'=>H'=H/\(∃ w,σ=[some v,some (.ref a),some (.str x),w])/\clo rs rk ys x ys.length=clo rs rk ys x (ys.length-i)) ⟨rfl,⟨_,rfl⟩,rfl⟩ ?_ ?_
 ·rintro i σ H' hi ⟨rfl,⟨w,rfl⟩,hc⟩
  obtain⟨k,hk⟩:∃ k:Nat,ys.length-i=k+1:=⟨ys.length-i-1,by omega⟩
  have ek:(ys.length:Int)-1-(i:Int)=((k:Nat):Int):=by omega
  have hk2:ys.length-(i+1)=k:=by omega
  have ix:∀ Q':VK,Q' (.str (gd ys k)) H'->M7 K (.ref a) (.int ((k:Nat):Int)) H' Q':=fun Q' h=>by
   rcases hq with hq|hq
   ·exact O0 hq (qh6 (by omega)) h
   ·exact W3 hq (qh6 (by omega)) h
  rw[hk,clo] at hc
  rw[ek]
  lk
  refine ix _ ?_
  lk
  by_cases e:gd ys k=x
  ·rw[decide_eq_true e]
   x_go
   lk
   rw[hc,if_pos e] at q
   exact q
  ·rw [decide_eq_false e]
   k_go
   rw[if_neg e] at hc
   lk
   refine ix _ ?_
   lk
   refine⟨v,_,rs,rfl,hR,?_⟩
   lk
   cases hw:X8 rs (gd ys k) with
   | false =>
     rw[hw,Bool.false_and,if_neg Bool.false_ne_true] at hc
     k_go
     k_go
     lk
     exact⟨rfl,⟨_,rfl⟩,by rw[hk2];exact hc⟩
   | true =>
     rw[hw,Bool.true_and] at hc
     x_go
     lk
     refine ix _ ?_
     lk
     refine⟨v,_,x,rs,rk,rfl,hR,f,?_⟩
     show ∃ k_1,V.bl (bel rs rk (gd ys k) x)=V.bl k_1/\_
     lk
     cases hb:bel rs rk (gd ys k) x with
     | true =>
       rw[hb,Bool.not_true,if_neg Bool.false_ne_true] at hc
       rw[Bool.not_true]
       k_go
       lk
       exact⟨rfl,⟨_,rfl⟩,by rw[hk2];exact hc⟩
     | false =>
       rw[hb,Bool.not_false,if_pos rfl] at hc
       rw[Bool.not_false]
       x_go
       lk
       rw[hc] at q
       exact q
 ·rintro σ H' ⟨rfl,⟨w,rfl⟩,hc⟩
  lk
  rw[Nat.sub_self] at hc
  rw[hc] at q
  exact q
def qp6(rs:List Row)(x:Str):List Str:=match qb2 rs (some x) with|none=>[]|some r=>r.shuts
def wg8(rs:List Row)(x:Str):List Str:=match qb2 rs (some x) with|none=>[]|some r=>r.bars
def kpt(ys sh:List Str):Nat->Nat->Nat
 | k,0=>k
 | k,m+1=>if gd ys k∈sh then k else kpt ys sh (k+1) m
theorem zd8(ys sh:List Str):∀ m k,kpt ys sh k m<=k+m
 | 0,k=>Nat.le_refl _
 | m+1,k=>by
   rw[kpt]
   split
   ·omega
   ·have:=zd8 ys sh m (k+1);omega
def xa7(rs:List Row)(ys:List Str)(x:Str):Nat:=kpt ys (qp6 rs x) (ys.length-(qd8 rs ys).length) (qd8 rs ys).length
def qn5(rs:List Row)(ys:List Str)(x:Str):Nat×List Str:=if M9 rs (V7 ys)=[] then(xa7 rs ys x,[x]) else(ys.length,M9 rs (V7 ys)++[x])
def ws0(rs:List Row)(rk:Str->Nat)(ys:List Str)(rec:Str->Nat×List Str)(x:Str):Nat×List Str :=
 match N4 rs (some x) with
 | none=>qn5 rs ys x
 | some y=>match clo rs rk ys y ys.length with
   | some k=>(k+1,[x])
   | none=>((rec y).1,(rec y).2++[x])
def N3(rs:List Row)(rk:Str->Nat)(ys:List Str):Nat->Str->Nat×List Str
 | 0=>ws0 rs rk ys fun _=>(0,[])
 | n+1=>ws0 rs rk ys (N3 rs rk ys n)
theorem xh5{rs:List Row}{rk:Str->Nat}{ys:List Str}{x:Str}:∀ {m k:Nat},clo rs rk ys x m=some k->k<m
 | 0,k,h=>by cases h
 | m+1,k,h=>by
   rw[clo] at h
   split at h
   ·injection h with h;omega
   ·split at h
    ·cases h
    ·have:=xh5 h;omega
theorem qy7 {rs:List Row} (B:Boo rs):∀ (m:Nat) (n:Option Str),∀ z∈qh7 rs m n,∃ r∈rs,r.name=z
 | 0,_,z,h=>by cases h
 | m + 1,n,z,h=>by
   rw[qh7] at h
   split at h
   ·cases h
   ·rename_i y e
    rcases List.mem_cons.mp h with h|h
    ·subst h
     unfold Q8 at e
     cases er:qb2 rs n with
     | none=>rw[er] at e;cases e
     | some r =>
       rw[er] at e
       have hr:r∈rs:=List.mem_of_find?_eq_some er
       by_cases hf:r.sort=("frame":Str)
       ·have e:some r.host=some z:=by simpa [hf] using e
        injection e with e
        obtain⟨rk,_,h2⟩:=B.rk
        obtain⟨⟨r',hr',en,_⟩,_⟩:=h2 r hr hf
        exact⟨r',hr',by rw[en,e]⟩
       ·simp[hf] at e
    ·exact qy7 B m _ z h
structure Wok(rs:List Row)(ys:List Str)(n:Nat)(w:Nat×List Str):Prop where
 k:w.1<=ys.length
 m:∀ z∈w.2,∃ r∈rs,r.name=z
 l:w.2.length<=13+n
theorem zd9(rs:List Row)(ys:List Str)(x:Str):xa7 rs ys x<=ys.length:=by
 have:=zd8 ys (qp6 rs x) (qd8 rs ys).length (ys.length-(qd8 rs ys).length)
 have:=qy6 rs ys.length ys rfl
 unfold xa7
 omega
theorem ze0(B:Boo rs)(hx:∃ r∈rs,r.name=x)(n:Nat):Wok rs ys n (qn5 rs ys x):=by
 unfold qn5
 split
 ·exact⟨zd9 rs ys x,fun z hz=>by rw[List.mem_singleton.mp hz];exact hx,by simp;omega⟩
 ·refine⟨Nat.le_refl _,fun z hz=>?_,?_⟩
  ·rcases List.mem_append.mp hz with h|h
   ·exact qy7 B 12 _ z h
   ·rw[List.mem_singleton.mp h];exact hx
  ·show(M9 rs (V7 ys)++[x]).length<=_
   rw[List.length_append,List.length_singleton]
   have:(M9 rs (V7 ys)).length<=12:=ql1 rs 12 _
   omega
theorem wj6 {rs:List Row} (B:Boo rs) {rk:Str->Nat} (f:wr3 rs rk) {ys:List Str}:∀ (n:Nat) (x:Str),(∃ r∈rs,r.name=x)->rk x<=n->Wok rs ys n (N3 rs rk ys n x)
 | n, x, hx,hn=>by
   have go:∀ rec:Str->Nat×List Str,(∀ y,N4 rs (some x)=some y->∃ m,n=m+1/\Wok rs ys m (rec y))->Wok rs ys n (ws0 rs rk ys rec x):=by
    intro rec hrec
    unfold ws0
    cases e:N4 rs (some x) with
    | none=>exact ze0 B hx n
    | some y =>
      dsimp only
      cases ec:clo rs rk ys y ys.length with
      | some k =>
        have:=xh5 ec
        exact⟨by show k+1<=_;omega,fun z hz=>by rw[List.mem_singleton.mp hz];exact hx,by simp;omega⟩
      | none =>
        obtain⟨m,rfl,w⟩:=hrec y e
        refine⟨w.k,fun z hz=>?_,?_⟩
        ·rcases List.mem_append.mp hz with h|h
         ·exact w.m z h
         ·rw[List.mem_singleton.mp h];exact hx
        ·show((rec y).2++[x]).length<=_
         rw[List.length_append,List.length_singleton];have:=w.l;omega
   cases n with
   | zero=>exact go _ fun y e=>absurd (f x y e) (by omega)
   | succ m=>exact go _ fun y e=>⟨m,rfl,wj6 B f m y (let ⟨r,h1,h2,_⟩:=ww7 e;⟨r,h1,h2⟩) (by have:=f x y e;omega)⟩
def bar(rs:List Row):List Str->List Str->Bool
 | _,[]=>false
 | there,x::xs=>(qd8 rs there).any (fun y=>decide (y∈wg8 rs x)) || bar rs (there++[x]) xs
def xh6(rs:List Row)(rk:Str->Nat)(ys:List Str)(x:Str):PyData :=
 if bar rs (ys.take (N3 rs rk ys 13 x).1) (N3 rs rk ys 13 x).2=true then .tuple [.str "drop",.str "barred"]
 else if 20<(N3 rs rk ys 13 x).1+(N3 rs rk ys 13 x).2.length then .tuple [.str "drop",.str "deep"]
 else .tuple [.str "open",.int (N3 rs rk ys 13 x).1,.tuple (sDa (N3 rs rk ys 13 x).2)]
def ql2(K:Fg):Sp:=fun vs H Q _=>∃ v a ys rs,vs=[v,.ref a]/\Rws K H v rs/\SqT K H a (C1 ys)/\ys.length<=1000/\∀ p H',A7 H H'->SqT K H' p (C1 (qd8 rs ys))->Q (.ref p) H'
def wj7(K:Fg):TS :=
 (C0 (E9 (tC (.int 0)) (B2 2))
 (C0 (qx9 (xs9 K (A2 (A3 1) B0)) (yf4 K 2 (qr0 (B2 3) (qr0 (B2 4) yf3)))
 (T2 (tB (E2 (qg4 K) [] E0 (A2 (A3 0) (A2 (A3 4) B0))))
 (E9 (tOp (qy3 K) (A3 3) (tC (.int 1))) (B2 2)) O5))
 (M0 (tCB (qp1 K) (A2 (tSl (yi6 K) (A3 1) (Z4 (A3 2)) qh1) B0)))))
theorem yj7(h:ql2 K vs H Q E):wj7 K {nx:=fun _ H'=>Q .non H',rt:=Q} (E8 ["book","names","start","number","name"] vs) H:=by
 obtain⟨v,a,ys,rs,rfl,hR,hq,hl,q⟩:=h
 show wj7 K _ [some v,some (.ref a),none,none,none] H
 unfold wj7
 lk
 refine xp8 hq (fun i σ H'=>A7 H H'/\∃ (st:Nat) (a3 a4:Option V),σ=[some v,some (.ref a),some (.int st),a3,a4]/\st<=i/\qd8 rs (ys.take i)=(ys.take i).drop st) ⟨A7.refl _,0,none,none,rfl,Nat.le_refl _,rfl⟩ (fun i σ H' p=>p.1.sqT hq) ?_ ?_
 ·rintro i x σ H' p hx ⟨s1,st,a3,a4,rfl,hst,hnr⟩ hp
  obtain⟨y,hy,rfl⟩:=qm8 hx
  have il:=(List.getElem?_eq_some_iff.mp hy).1
  have etk:ys.take (i+1)=ys.take i++[y]:=by rw[List.take_add_one,hy];rfl
  have s2:A7 H (upd H' p (.tup [.int (i:Int),.str y])):=A7.tr s1 (A7.new hp _)
  refine⟨p,_,rfl,SqT.of A6,rfl,_,_,rfl,L3 ⟨_,_,rfl,L3 ⟨rfl,?_⟩⟩⟩
  lk
  refine⟨v,y,rs,rfl,hR.same s2,?_⟩
  lk
  cases hw:X8 rs y with
  | true =>
    x_go
    lk
    refine .inl (xs7 ?_)
    lk
    refine⟨s2,i+1,_,_,rfl,Nat.le_refl _,?_⟩
    rw[etk,ww5,if_pos hw,List.drop_eq_nil_of_le (by rw[List.length_append,List.length_take,List.length_singleton];omega)]
  | false =>
    k_go
    lk
    refine⟨s2,st,_,_,rfl,by omega,?_⟩
    rw[etk,ww5,if_neg (by rw[hw];exact Bool.false_ne_true),hnr,List.drop_append_of_le_length (by rw[List.length_take];omega)]
 ·rintro σ H' ⟨s1,st,a3,a4,rfl,hst,hnr⟩
  rw[C3,List.take_length] at hnr
  lk
  refine ya2 (s1.sqT hq) fun p H2 s2 hp=>?_
  have e:qn3 (C1 ys) (some (st:Int)) none=C1 (qd8 rs ys):=by
   unfold qn3
   rw[HT.wb1]
   show((C1 ys).drop (min st (C1 ys).length)).take ((C1 ys).length-min st (C1 ys).length)=_
   rw[C3] at hst ⊢
   rw[Nat.min_eq_left hst,List.take_of_length_le (by rw[List.length_drop,C3];exact Nat.le_refl _),hnr]
   unfold C1
   rw[List.map_drop]
  rw[e] at hp
  lk
  refine⟨p,_,rfl,.inr ⟨hp,?_⟩⟩
  exact q p H2 (A7.tr s1 s2) hp
def X2(K:Fg):Sp:=fun vs H Q _=>∃ (a b:Addr) (ys zs:List Str),vs=[.ref a,.ref b]/\SqT K H a (C1 ys)/\SqT K H b (C1 zs)/\ys.length<=1000/\∀ H',A7 H H'->Q (.bl (ys.any fun y=>decide (y∈zs))) H'
def qh9(K:Fg):TS :=
 (M0 (tCB (zc0 K) (A2 (wl7 [some 1,none] (wf8 K (A3 0)) (B2 1) tTT (tOp (xl4 K false) (A3 1) (A3 0))) B0)))
theorem xc3(h:X2 K vs H Q E):qh9 K {nx:=fun _ H'=>Q .non H',rt:=Q} (E8 ["names","others"] vs) H:=by
 obtain⟨a,b,ys,zs,rfl,ha,hb,hl,q⟩:=h
 show qh9 K _ [some (.ref a),some (.ref b)] H
 unfold qh9
 lk
 refine yv2 (H0:=H) (.inr ha) (A7.refl _) (fun i us H'=>H'=H/\us=((ys.take i).map fun y=>decide (y∈zs)).map V.bl) ⟨rfl,rfl⟩ ?_ (fun i us H' p=>p.1▸A7.refl _) ?_ ?_
 ·rintro i us H' hi ⟨_,rfl⟩
  rw[List.length_map,List.length_map,List.length_take];exact E1 (by omega)
 ·rintro i x us H' hx ⟨rfl,rfl⟩
  obtain⟨y,hy,rfl⟩:=qm8 hx
  lk
  refine .inl (yt7 (.inr hb) rfl (qg8 _) ?_)
  rw[qh3]
  refine⟨rfl,?_⟩
  rw[List.take_add_one,hy]
  simp
 ·rintro us H' ⟨rfl,rfl⟩ p hp
  rw[C3,List.take_length]
  lk
  refine Ab4 (SqL.of A6) ?_
  rw[List.any_map]
  exact q _ (A7.new hp _)
def qa3(K:Fg):Sp:=fun vs H Q _=>∃ v a ys x rs,vs=[v,.ref a,.str x]/\Rws K H v rs/\SqT K H a (C1 ys)/\ys.length<=1000/\(∃ r∈rs,Row.name r=x)/\∀ H',A7 H H'->Q (.int (xa7 rs ys x)) H'
def qf0(K:Fg):TS :=
 (C0 (E9 (tOp (M7 K) (E2 (qg6 K) [] E0 (A2 (A3 0) (A2 (A3 2) B0))) (tC (.int 3))) (B2 3))
 (C0 (E9 (tOp (rI0 fun i j=>.int (i-j)) (tCB (O6 K) (A2 (A3 1) B0)) (tCB (O6 K) (A2 (E2 (ql2 K) [] E0 (A2 (A3 0) (A2 (A3 1) B0))) B0))) (B2 4))
 (C0 (qx9 (yx3 (A2 (A3 4) (A2 (tCB (O6 K) (A2 (A3 1) B0)) B0))) (B2 5)
 (T2 (L0 (tOp (xl4 K false) (tOp (M7 K) (A3 1) (A3 5)) (A3 3)))
 (M0 (A3 5)) O5))
 (M0 (tCB (O6 K) (A2 (A3 1) B0))))))
theorem ww9(h:qa3 K vs H Q E):qf0 K {nx:=fun _ H'=>Q .non H',rt:=Q} (E8 ["book","names","name","shuts","first_near","number"] vs) H:=by
 obtain⟨v,a,ys,x,rs,rfl,hR,hq,hl,hx,q⟩:=h
 show qf0 K _ [some v,some (.ref a),some (.str x),none,none,none] H
 unfold qf0
 obtain⟨r,er,mr,nr⟩:=xt5 hx
 have hsh:qp6 rs x=r.shuts:=by unfold qp6;rw[er]
 lk
 refine⟨v,some x,rs,rfl,hR,fun e=>(by rw[er] at e;cases e),fun r2 u e hu=>?_⟩
 rw[er] at e
 injection e with e
 subst e
 obtain⟨b,ps,pb,rfl,hb,h1,h2⟩:=xt6 hu
 lk
 refine W3 hb rfl ?_
 lk
 refine Q3 (.inr hq) ?_
 rw[C3]
 lk
 refine⟨v,a,ys,rs,rfl,hR,hq,hl,fun p H1 s1 hp=>?_⟩
 have nl:=qy6 rs ys.length ys rfl
 lk
 refine Q3 (.inr hp) ?_
 rw[C3]
 lk
 refine Q3 (.inr (s1.sqT hq)) ?_
 rw[C3]
 have e1:(ys.length:Int)-((qd8 rs ys).length:Int)=((ys.length-(qd8 rs ys).length:Nat):Int):=by omega
 rw[e1]
 refine yz9 (by omega) (by omega) (by omega) (fun i σ H'=>H'=H1/\(∃ w,σ=[some v,some (.ref a),some (.str x),some (.ref ps),some (.int ((ys.length-(qd8 rs ys).length:Nat):Int)),w])/\xa7 rs ys x=kpt ys r.shuts (ys.length-(qd8 rs ys).length+i) ((qd8 rs ys).length-i)) ⟨rfl,⟨_,rfl⟩,by unfold xa7;rw[hsh];rfl⟩ ?_ ?_
 ·rintro i σ H' hi ⟨rfl,⟨w,rfl⟩,hk⟩
  obtain⟨m,hm⟩:∃ m:Nat,(qd8 rs ys).length-i=m+1:=⟨(qd8 rs ys).length-i-1,by omega⟩
  have e2:((ys.length-(qd8 rs ys).length:Nat):Int)+(i:Int)=((ys.length-(qd8 rs ys).length+i:Nat):Int):=by omega
  rw[hm,kpt] at hk
  rw[e2]
  lk
  refine W3 (s1.sqT hq) (qh6 (by omega)) ?_
  lk
  refine .inl (yt7 (.inr (s1.sqT h1)) rfl (qg8 _) ?_)
  rw[qh3]
  lk
  by_cases hs:gd ys (ys.length-(qd8 rs ys).length+i)∈r.shuts
  ·rw[decide_eq_true hs]
   x_go
   lk
   rw[if_pos hs] at hk
   rw[hk] at q
   exact q _ s1
  ·rw[decide_eq_false hs]
   k_go
   lk
   rw[if_neg hs] at hk
   exact⟨rfl,⟨_,rfl⟩,by rw[hk,show(qd8 rs ys).length-(i+1)=m by omega];rfl⟩
 ·rintro σ H' ⟨rfl,⟨w,rfl⟩,hk⟩
  lk
  refine Q3 (.inr (s1.sqT hq)) ?_
  rw[C3]
  have e3:(((ys.length:Int)-((ys.length-(qd8 rs ys).length:Nat):Int))).toNat=(qd8 rs ys).length:=by omega
  rw[e3,Nat.sub_self,kpt,show ys.length-(qd8 rs ys).length+(qd8 rs ys).length=ys.length by omega] at hk
  rw[hk] at q
  exact q _ s1
def qp7(K:Fg):Sp:=fun vs H Q _=>∃ v a b ks ps rs,vs=[v,.ref a,.ref b]/\Rws K H v rs/\SqT K H a (C1 ks)/\SqT K H b (C1 ps)/\ks.length<=100/\ps.length<=100/\(∀ z∈ps,∃ r∈rs,Row.name r=z)/\∀ H',A7 H H'->Q (.bl (bar rs ks ps)) H'
def qu3(K:Fg):TS :=
 (C0 (qx9 (xs9 K (A2 (A3 2) B0)) (yf4 K 2 (qr0 (B2 3) (qr0 (B2 4) yf3)))
 (C0 (E9 (E2 (ql2 K) [] E0 (A2 (A3 0) (A2 (tOp (qy3 K) (A3 1) (tSl (yi6 K) (A3 2) qh1 (Z4 (A3 3)))) B0))) (B2 5))
 (T2 (tB (E2 (X2 K) [] E0 (A2 (A3 5) (A2 (tOp (M7 K) (E2 (qg6 K) [] E0 (A2 (A3 0) (A2 (A3 4) B0))) (tC (.int 4))) B0))))
 (M0 (tC (.bl true))) O5)))
 (M0 (tC (.bl false))))
theorem xt8(h:qp7 K vs H Q E):qu3 K {nx:=fun _ H'=>Q .non H',rt:=Q} (E8 ["book","kept","put","number","name","near"] vs) H:=by
 obtain⟨v,a,b,ks,ps,rs,rfl,hR,ha,hb,hlk,hlp,hps,q⟩:=h
 show qu3 K _ [some v,some (.ref a),some (.ref b),none,none,none] H
 unfold qu3
 lk
 refine xp8 hb (fun i σ H'=>A7 H H'/\∃ (a3 a4 a5:Option V),σ=[some v,some (.ref a),some (.ref b),a3,a4,a5]/\bar rs ks ps=bar rs (ks++ps.take i) (ps.drop i)) ⟨A7.refl _,none,none,none,rfl,by simp⟩ (fun i σ H' p=>p.1.sqT hb) ?_ ?_
 ·rintro i x σ H' p hx ⟨s1,a3,a4,a5,rfl,hbr⟩ hp
  obtain⟨y,hy,rfl⟩:=qm8 hx
  have il:=(List.getElem?_eq_some_iff.mp hy).1
  have etk:ps.take (i+1)=ps.take i++[y]:=by rw[List.take_add_one,hy];rfl
  have edr:ps.drop i=y::ps.drop (i+1):=by
   obtain⟨hil,he⟩:=List.getElem?_eq_some_iff.mp hy
   rw[List.drop_eq_getElem_cons hil,he]
  rw[edr,bar] at hbr
  have s2:A7 H (upd H' p (.tup [.int (i:Int),.str y])):=A7.tr s1 (A7.new hp _)
  obtain⟨r,er,mr,nr⟩:=xt5 (hps y (List.mem_of_getElem? hy))
  have hba:wg8 rs y=r.bars:=by unfold wg8;rw[er]
  refine⟨p,_,rfl,SqT.of A6,rfl,_,_,rfl,L3 ⟨_,_,rfl,L3 ⟨rfl,?_⟩⟩⟩
  lk
  refine ya2 (s2.sqT hb) fun p3 H3 s3 hp3=>?_
  rw[xh4] at hp3
  have s23:=A7.tr s2 s3
  refine wn7 (s23.sqT ha) hp3 (by rw[C3,C3,List.length_take];exact E1 (by omega)) fun p4 H4 s4 hp4=>?_
  have e4:C1 ks++C1 (ps.take i)=C1 (ks++ps.take i):=by simp[C1]
  rw[e4] at hp4
  have s24:=A7.tr s23 s4
  lk
  refine⟨v,p4,ks++ps.take i,rs,rfl,hR.same s24,hp4,by rw[List.length_append,List.length_take];omega,fun p5 H5 s5 hp5=>?_⟩
  have s25:=A7.tr s24 s5
  have nl:=qy6 rs _ (ks++ps.take i) rfl
  rw[List.length_append,List.length_take] at nl
  lk
  refine⟨v,some y,rs,rfl,hR.same s25,fun e=>(by rw[er] at e;cases e),fun r2 u e hu=>?_⟩
  rw[er] at e
  injection e with e
  subst e
  obtain⟨b6,p6,p7,rfl,hb6,_,h7⟩:=xt6 hu
  lk
  refine W3 hb6 rfl ?_
  lk
  refine⟨p5,p7,qd8 rs (ks++ps.take i),r.bars,rfl,hp5,h7,by omega,fun H8 s8=>?_⟩
  have s28:=A7.tr s25 s8
  lk
  rw[hba] at hbr
  cases hc:(qd8 rs (ks++ps.take i)).any (fun z=>decide (z∈r.bars)) with
  | true =>
    x_go
    lk
    rw[hc,Bool.true_or] at hbr
    rw[hbr] at q
    exact q _ s28
  | false =>
    k_go
    lk
    rw[hc,Bool.false_or] at hbr
    exact⟨s28,_,_,_,rfl,by rw[hbr,etk,List.append_assoc]⟩
 ·rintro σ H' ⟨s1,a3,a4,a5,rfl,hbr⟩
  lk
  rw[C3,List.drop_length,bar] at hbr
  rw[hbr] at q
  exact q _ s1
def W7(K:Fg):Sp:=fun vs H Q _=>∃ v a ys x rs,vs=[v,.ref a,.str x]/\Rws K H v rs/\Boo rs/\SqT K H a (C1 ys)/\ys.length<=1000/\(∃ r∈rs,Row.name r=x)/\∀ p p2 H',A7 H H'->SqT K H' p [.int (qn5 rs ys x).1,.ref p2]->SqT K H' p2 (C1 (qn5 rs ys x).2)->Q (.ref p) H'
def Y1(K:Fg):TS :=
 (C0 (E9 (E2 (X1 K) [] E0 (A2 (A3 0) (A2 (E2 (P3 K) [] E0 (A2 (A3 1) B0)) B0))) (B2 3))
 (C0 (T2 (L0 (tOp wv4 (tCB (O6 K) (A2 (A3 3) B0)) (tC (.int 0))))
 (M0 (M2 (A2 (tCB (O6 K) (A2 (A3 1) B0)) (A2 (tOp (qy3 K) (A3 3) (M2 (A2 (A3 2) B0))) B0)))) O5)
 (M0 (M2 (A2 (E2 (qa3 K) [] E0 (A2 (A3 0) (A2 (A3 1) (A2 (A3 2) B0)))) (A2 (M2 (A2 (A3 2) B0)) B0))))))
theorem wo2(h:W7 K vs H Q E):Y1 K {nx:=fun _ H'=>Q .non H',rt:=Q} (E8 ["book","names","name","hosts"] vs) H:=by
 obtain⟨v,a,ys,x,rs,rfl,hR,B,hq,hl,hx,q⟩:=h
 show Y1 K _ [some v,some (.ref a),some (.str x),none] H
 unfold Y1
 lk
 refine⟨a,ys,rfl,.inr hq,?_⟩
 lk
 refine⟨v,_,rs,rfl,hR,B,fun p H1 s1 hp=>?_⟩
 have hlen:(M9 rs (V7 ys)).length<=12:=ql1 rs 12 _
 lk
 refine Q3 (.inr hp) ?_
 rw[C3]
 lk
 by_cases h0:M9 rs (V7 ys)=[]
 ·rw[decide_eq_false (by rw[h0];simp)]
  k_go
  have eg:qn5 rs ys x=(xa7 rs ys x,[x]):=by unfold qn5;rw[if_pos h0]
  lk
  refine⟨v,a,ys,x,rs,rfl,hR.same s1,s1.sqT hq,hl,hx,fun H2 s2=>?_⟩
  lk
  refine⟨E1 (by z_go),fun p3 hp3=>?_⟩
  lk
  refine⟨E1 (by z_go),fun p4 hp4=>?_⟩
  rw[eg] at q
  exact q p4 p3 _ (A7.tr s1 (A7.tr s2 (A7.tr (A7.new hp3 _) (A7.new hp4 _)))) (SqT.of A6) ((A7.new hp4 _).sqT (SqT.of A6))
 ·rw[decide_eq_true (by have:=List.length_pos_iff.mpr h0;omega)]
  x_go
  have eg:qn5 rs ys x=(ys.length,M9 rs (V7 ys)++[x]):=by unfold qn5;rw[if_neg h0]
  lk
  refine Q3 (.inr (s1.sqT hq)) ?_
  rw[C3]
  lk
  refine⟨E1 (by z_go),fun p3 hp3=>?_⟩
  refine wn7 ((A7.new hp3 _).sqT hp) (SqT.of A6) (by rw[C3];exact E1 (by simp;omega)) fun p4 H4 s4 hp4=>?_
  rw[wg6] at hp4
  lk
  refine⟨E1 (by z_go),fun p5 hp5=>?_⟩
  rw[eg] at q
  exact q p5 p4 _ (A7.tr s1 (A7.tr (A7.new hp3 _) (A7.tr s4 (A7.new hp5 _)))) (SqT.of A6) ((A7.new hp5 _).sqT hp4)
def qr8(n:Nat)(K:Fg):Sp:=fun vs H Q _=>∃ v a ys x rs rk,vs=[v,.ref a,.str x]/\Rws K H v rs/\Boo rs/\wr3 rs rk/\SqT K H a (C1 ys)/\ys.length<=1000/\(∃ r∈rs,Row.name r=x)/\rk x<=n/\n<=50/\∀ p p2 H',A7 H H'->SqT K H' p [.int (N3 rs rk ys n x).1,.ref p2]->SqT K H' p2 (C1 (N3 rs rk ys n x).2)->Q (.ref p) H'
def xq0(K:Fg):Sp:=qr8 13 K
def qm9(K:Fg):Nat->Sp
 | 0=>fun _ _ _ _=>False
 | n+1=>qr8 n K
def wg9(K:Fg)(spr:Sp):TS :=
 (C0 (E9 (E2 (qg7 K) [] E0 (A2 (A3 0) (A2 (A3 2) B0))) (B2 3))
 (C0 (T2 (L0 (tOp xz1 (A3 3) (tC .non)))
 (M0 (E2 (W7 K) [] E0 (A2 (A3 0) (A2 (A3 1) (A2 (A3 2) B0))))) O5)
 (C0 (E9 (E2 (qr7 K) [] E0 (A2 (A3 0) (A2 (A3 1) (A2 (A3 3) B0)))) (B2 4))
 (C0 (T2 (L0 (tOp wj1 (A3 4) (tC .non)))
 (M0 (M2 (A2 (tOp (qy3 K) (A3 4) (tC (.int 1))) (A2 (M2 (A2 (A3 2) B0)) B0)))) O5)
 (C0 (E9 (E2 spr [] E0 (A2 (A3 0) (A2 (A3 1) (A2 (A3 3) B0)))) (B2 5))
 (M0 (M2 (A2 (tOp (M7 K) (A3 5) (tC (.int 0))) (A2 (tOp (qy3 K) (tOp (M7 K) (A3 5) (tC (.int 1))) (M2 (A2 (A3 2) B0))) B0)))))))))
theorem xq1(n:Nat)(h:qr8 n K vs H Q E):wg9 K (qm9 K n) {nx:=fun _ H'=>Q .non H',rt:=Q} (E8 ["book","names","name","frame","number","plan"] vs) H:=by
 obtain⟨v,a,ys,x,rs,rk,rfl,hR,B,f,hq,hl,hx,hn,hn50,q⟩:=h
 show wg9 K _ _ [some v,some (.ref a),some (.str x),none,none,none] H
 unfold wg9
 have ew:∃ rec,N3 rs rk ys n x=ws0 rs rk ys rec x/\∀ m,n=m+1->rec=N3 rs rk ys m:=by
  cases n with
  | zero=>exact⟨_,rfl,fun m h=>by cases h⟩
  | succ m=>exact⟨_,rfl,fun k h=>by injection h with h;rw[h]⟩
 obtain⟨rec,ew,hrec⟩:=ew
 rw[ew] at q
 unfold ws0 at q
 lk
 refine⟨v,some x,rs,rfl,hR,?_⟩
 lk
 cases ef:N4 rs (some x) with
 | none =>
   rw[ef] at q
   dsimp only at q
   rw[decide_eq_true (show oV none=V.non from rfl)]
   x_go
   lk
   exact⟨v,a,ys,x,rs,rfl,hR,B,hq,hl,hx,q⟩
 | some y =>
   rw[ef] at q
   dsimp only at q
   have hyx:=f x y ef
   obtain⟨ry,my,ny,_⟩:=ww7 ef
   rw[decide_eq_false (show ¬oV (some y)=V.non by simp[oV])]
   k_go
   lk
   refine⟨v,a,ys,y,rs,rk,rfl,hR,f,.inr hq,hl,?_⟩
   lk
   cases ec:clo rs rk ys y ys.length with
   | some k =>
     rw[ec] at q
     dsimp only at q
     rw[decide_eq_false (show ¬nV (some k)=V.non by simp[nV]),Bool.not_false]
     x_go
     lk
     refine .inl (xs7 ?_)
     lk
     refine⟨E1 (by z_go),fun p3 hp3=>?_⟩
     lk
     refine⟨E1 (by z_go),fun p4 hp4=>?_⟩
     exact q p4 p3 _ (A7.tr (A7.new hp3 _) (A7.new hp4 _)) (SqT.of A6) ((A7.new hp4 _).sqT (SqT.of A6))
   | none =>
     rw[ec] at q
     dsimp only at q
     rw[decide_eq_true (show nV none=V.non from rfl),Bool.not_true]
     k_go
     obtain⟨m,rfl⟩:∃ m,n=m+1:=⟨n-1,by omega⟩
     rw[hrec m rfl] at q
     have wk:=wj6 B f (ys:=ys) m y ⟨ry,my,ny⟩ (by omega)
     lk
     refine⟨v,a,ys,y,rs,rk,rfl,hR,B,f,hq,hl,⟨ry,my,ny⟩,by omega,by omega,fun p p2 H1 s1 hp hp2=>?_⟩
     lk
     refine W3 hp rfl ?_
     lk
     refine W3 hp rfl ?_
     lk
     refine⟨E1 (by z_go),fun p3 hp3=>?_⟩
     refine wn7 ((A7.new hp3 _).sqT hp2) (SqT.of A6) (by rw[C3];exact E1 (by have:=wk.l;simp;omega)) fun p4 H4 s4 hp4=>?_
     rw[wg6] at hp4
     lk
     refine⟨E1 (by z_go),fun p5 hp5=>?_⟩
     exact q p5 p4 _ (A7.tr s1 (A7.tr (A7.new hp3 _) (A7.tr s4 (A7.new hp5 _)))) (SqT.of A6) ((A7.new hp5 _).sqT hp4)
def wb5(K:Fg):Sp:=fun vs H Q _=>∃ v a ys x rs rk,vs=[v,.ref a,.str x]/\Rws K H v rs/\Boo rs/\wr3 rs rk/\SqT K H a (C1 ys)/\ys.length<=50/\(∃ r∈rs,Row.name r=x)/\rk x<=13/\∀ p H',A7 H H'->Dv K H' (xh6 rs rk ys x) (.ref p)->Q (.ref p) H'
def wj8(K:Fg):TS :=
 (C0 (E9 (E2 (xq0 K) [] E0 (A2 (A3 0) (A2 (A3 1) (A2 (A3 2) B0)))) (B2 3))
 (C0 (E9 (tCB (qp1 K) (A2 (tSl (yi6 K) (A3 1) qh1 (Z4 (tOp (M7 K) (A3 3) (tC (.int 0))))) B0)) (B2 4))
 (C0 (E9 (tOp (M7 K) (A3 3) (tC (.int 1))) (B2 5))
 (C0 (T2 (tB (E2 (qp7 K) [] E0 (A2 (A3 0) (A2 (A3 4) (A2 (A3 5) B0)))))
 (M0 (M2 (A2 (tC (.str "drop")) (A2 (tC (.str "barred")) B0)))) O5)
 (C0 (T2 (L0 (tOp wv4 (tOp (qy3 K) (tCB (O6 K) (A2 (A3 4) B0)) (tCB (O6 K) (A2 (A3 5) B0))) (tC (.int 20))))
 (M0 (M2 (A2 (tC (.str "drop")) (A2 (tC (.str "deep")) B0)))) O5)
 (M0 (M2 (A2 (tC (.str "open")) (A2 (tCB (O6 K) (A2 (A3 4) B0)) (A2 (A3 5) B0))))))))))
theorem yj8(h:wb5 K vs H Q E):wj8 K {nx:=fun _ H'=>Q .non H',rt:=Q} (E8 ["book","names","name","plan","kept","put"] vs) H:=by
 obtain⟨v,a,ys,x,rs,rk,rfl,hR,B,f,hq,hl,hx,hn,q⟩:=h
 show wj8 K _ [some v,some (.ref a),some (.str x),none,none,none] H
 unfold wj8
 have wk:=wj6 B f (ys:=ys) 13 x hx hn
 lk
 refine⟨v,a,ys,x,rs,rk,rfl,hR,B,f,hq,by omega,hx,hn,by decide,fun p p2 H1 s1 hp hp2=>?_⟩
 have wkk:=wk.k
 have wkl:=wk.l
 have il:(ys.take (N3 rs rk ys 13 x).1).length=(N3 rs rk ys 13 x).1:=by rw[List.length_take];omega
 unfold xh6 at q
 generalize N3 rs rk ys 13 x=W at *
 lk
 refine W3 hp rfl ?_
 lk
 refine ya2 (s1.sqT hq) fun p3 H3 s3 hp3=>?_
 rw[xh4] at hp3
 lk
 refine⟨p3,_,rfl,.inr ⟨hp3,?_⟩⟩
 lk
 refine W3 (s3.sqT hp) rfl ?_
 lk
 refine⟨v,p3,p2,_,_,rs,rfl,hR.same (A7.tr s1 s3),hp3,s3.sqT hp2,by omega,by omega,wk.m,fun H4 s4=>?_⟩
 have s14:=A7.tr s1 (A7.tr s3 s4)
 lk
 cases hb:bar rs (ys.take W.1) W.2 with
 | true =>
   rw[hb,if_pos rfl] at q
   x_go
   lk
   refine⟨E1 (by z_go),fun p5 hp5=>?_⟩
   exact q p5 _ (A7.tr s14 (A7.new hp5 _)) (C7.mpr ⟨p5,_,rfl,SqT.of A6,B4 (E6.mpr rfl) (B4 (E6.mpr rfl) J7)⟩)
 | false =>
   rw[hb,if_neg Bool.false_ne_true] at q
   k_go
   lk
   refine Q3 (.inr (s4.sqT hp3)) ?_
   rw[C3,il]
   lk
   refine Q3 (.inr ((A7.tr s3 s4).sqT hp2)) ?_
   rw[C3]
   refine .inl (xs7 ?_)
   lk
   by_cases h20:20<W.1+W.2.length
   ·rw[if_pos h20] at q
    rw[decide_eq_true (by omega)]
    x_go
    lk
    refine⟨E1 (by z_go),fun p5 hp5=>?_⟩
    exact q p5 _ (A7.tr s14 (A7.new hp5 _)) (C7.mpr ⟨p5,_,rfl,SqT.of A6,B4 (E6.mpr rfl) (B4 (E6.mpr rfl) J7)⟩)
   ·rw[if_neg h20] at q
    rw[decide_eq_false (by omega)]
    k_go
    lk
    refine Q3 (.inr (s4.sqT hp3)) ?_
    rw[C3,il]
    lk
    refine⟨E1 (by z_go),fun p5 hp5=>?_⟩
    have s5:=A7.new hp5 (.tup [.str "open",.int (W.1:Int),.ref p2])
    exact q p5 _ (A7.tr s14 s5) (C7.mpr ⟨p5,_,rfl,SqT.of A6,B4 (E6.mpr rfl) (B4 (O1.mpr rfl) (B4 (C7.mpr ⟨p2,_,rfl,(A7.tr (A7.tr s3 s4) s5).sqT hp2,qe4.mpr rfl⟩) J7))⟩)
namespace TX
open PySem PySem.StrLaws PySem.Builtin PySem.Builtin.Str
def rep(Y Z:List Nat):Nat->List Nat->List Nat
 | _,[]=>[]
 | k+1,_::l=>rep Y Z k l
 | 0,c::l=>if Y.isPrefixOf (c::l)=true then Z++rep Y Z (Y.length-1) l else c::rep Y Z 0 l
theorem yc2(Y Z:List Nat):∀ (k:Nat) (l:List Nat),rep Y Z k l=rep Y Z 0 (l.drop k)
 | 0,l=>by simp
 | k+1,[]=>by simp[rep]
 | k+1,_::l=>by rw[rep,yc2 Y Z k l];simp
theorem rep_yes{Y Z l:List Nat}(h0:1<=Y.length)(h:Y <+: l):rep Y Z 0 l=Z++rep Y Z 0 (l.drop Y.length):=by
 cases l with
 | nil=>rw[List.prefix_nil] at h;subst h;simp at h0
 | cons c l =>
   rw[rep,if_pos (List.isPrefixOf_iff_prefix.mpr h),yc2]
   congr 2
   cases Y with
   | nil=>simp at h0
   | cons y Y=>simp
theorem rep_no{Y Z l:List Nat}{c:Nat}(h:¬Y <+: c::l):rep Y Z 0 (c::l)=c::rep Y Z 0 l:=by
 rw[rep,if_neg (by rw[List.isPrefixOf_iff_prefix];exact h)]
theorem yc3{Y Z:List Nat}:∀ (l:List Nat),(∀ j,j<l.length->¬Y <+: l.drop j)->rep Y Z 0 l=l
 | [],_=>rfl
 | c::l,h=>by
   rw[rep_no (h 0 (by simp)),yc3 l fun j hj=>by have:=h (j+1) (by simpa using hj);simpa using this]
theorem ze1{Y Z:List Nat}(h0:1<=Y.length):∀ (d:Nat) (l:List Nat),(∀ j,j<d->¬Y <+: l.drop j)->Y <+: l.drop d->rep Y Z 0 l=l.take d++Z++rep Y Z 0 (l.drop (d+Y.length))
 | 0,l,_,h=>by simpa using rep_yes h0 (by simpa using h)
 | d+1,[],_,h=>by rw[List.drop_nil,List.prefix_nil] at h;subst h;simp at h0
 | d+1,c::l,hn,h=>by
   rw[rep_no (hn 0 (by omega)),ze1 h0 d l (fun j hj=>by have:=hn (j+1) (by omega);simpa using this) (by simpa using h)]
   have e:d+1+Y.length=(d+Y.length)+1:=by omega
   rw[e]
   simp
theorem yj9{x y:Str}(h0:1<=y.length)(k:Nat):At x y x.length k↔y.cps.toList <+: x.cps.toList.drop k:=by
 have hn:x.cps.toList.length=x.length:=by simp[Str.length]
 have hy:y.cps.toList.length=y.length:=by simp[Str.length]
 unfold At
 rw[subAt_eq,beq_iff_eq,List.prefix_iff_eq_take,hy]
 constructor
 ·rintro⟨_,h⟩;exact h.symm
 ·intro h
  refine⟨?_,h.symm⟩
  have:=congrArg List.length h
  rw[List.length_take,List.length_drop,hy,hn] at this
  omega
theorem ze2(sep a y:Str)(r:List Str):Str.join sep (a::y::r)=a++sep++Str.join sep (y::r):=by
 rfl
theorem xq2{x y z:Str}(h0:1<=y.length):∀ (cuts:List Nat) (a f:Nat),ChainG x y x.length a cuts f->(∀ k,f<=k->¬At x y x.length k) ->
 (Str.join z (partsFrom x y.length a cuts)).cps.toList=rep y.cps.toList z.cps.toList 0 (x.cps.toList.drop a)
 | [],a,f,h,hn=>by
   have e:f=a:=h
   subst e
   have hx:x.cps.toList.length=x.length:=by simp[Str.length]
   rw[yc3 _ fun j hj hp=>hn (f+j) (by omega) ((yj9 h0 _).mpr (by rw[<-List.drop_drop];exact hp))]
   show(strSub x f x.length).cps.toList=_
   rw[strSub_toList,List.take_of_length_le (by rw[List.length_drop,hx];exact Nat.le_refl _)]
 | c::r,a,f,h,hn=>by
   obtain⟨h1,h2,h3,h4⟩:=h
   have hy:y.cps.toList.length=y.length:=by simp[Str.length]
   have hp:y.cps.toList <+: (x.cps.toList.drop a).drop (c-a):=by
    rw[List.drop_drop,show a+(c-a)=c by omega]
    exact(yj9 h0 c).mp h2
   rw[ze1 (by rw[hy];exact h0) (c-a) _ (fun j hj hq=>h3 (a+j) (by omega) (by omega) ((yj9 h0 _).mpr (by rw[<-List.drop_drop];exact hq))) hp]
   rw[List.drop_drop,hy,show a+(c-a+y.length)=c+y.length by omega,<-xq2 h0 r (c+y.length) f h4 hn]
   obtain⟨p,q,e⟩:=partsFrom_ne x y.length (c+y.length) r
   show(Str.join z (strSub x a c::partsFrom x y.length (c+y.length) r)).cps.toList=_
   rw[e,ze2]
   simp only[Str.cps_append,Array.toList_append,strSub_toList]
theorem replace_rep(x y z:Str)(h0:1<=y.length):(Txt.replace x y z).cps.toList=rep y.cps.toList z.cps.toList 0 x.cps.toList:=by
 obtain⟨f,h1,h2⟩:=occ_tight x y h0
 have hy:(y.length == 0)=false:=by simp;omega
 have key:=xq2 (z:=z) h0 _ 0 f h1 h2
 rw[List.drop_zero] at key
 unfold Txt.replace
 rw[hy,Bool.false_and,Bool.or_false]
 cases ho:occurrences x y 0 x.length (x.length+1) with
 | nil =>
   rw[if_pos (by simp),<-key,ho]
   show _=(strSub x 0 x.length).cps.toList
   rw[sub_whole]
 | cons c r =>
   rw[if_neg (by simp),glued_eq_join,partsBetween_eq,<-ho,key]
abbrev El:List Nat:=[38,108,59]
abbrev Ea:List Nat:=[38,97,59]
def told:Nat->List Nat->List Nat
 | _,[]=>[]
 | k+1,_::l=>told k l
 | 0,c::l=>if El.isPrefixOf (c::l)=true then 60::told 2 l else if Ea.isPrefixOf (c::l)=true then 38::told 2 l else c::told 0 l
theorem wx0:∀ (k:Nat) (l:List Nat),told k l=told 0 (l.drop k)
 | 0,l=>by simp
 | k+1,[]=>by simp[told]
 | k+1,_::l=>by rw[told,wx0 k l];simp
theorem zv5{l:List Nat}:told 0 (38::108::59::l)=60::told 0 l:=by
 rw[told,if_pos (by simp[List.isPrefixOf]),wx0];rfl
theorem zv6{l:List Nat}:told 0 (38::97::59::l)=38::told 0 l:=by
 rw[told,if_neg (by simp[List.isPrefixOf]),if_pos (by simp[List.isPrefixOf]),wx0];rfl
theorem zv7{c:Nat}{l:List Nat}(h1:¬El <+: c::l)(h2:¬Ea <+: c::l):told 0 (c::l)=c::told 0 l:=by
 rw[told,if_neg (by rw[List.isPrefixOf_iff_prefix];exact h1),if_neg (by rw[List.isPrefixOf_iff_prefix];exact h2)]
theorem yv5{a b c:Nat}{l:List Nat}:[a,b,c] <+: l↔∃ r,l=a::b::c::r:=by
 constructor
 ·rintro⟨r,e⟩;exact⟨r,e.symm⟩
 ·rintro⟨r,rfl⟩;exact⟨r,rfl⟩
theorem yk0{a b c d:Nat}{l:List Nat}(h:d≠a):¬[a,b,c] <+: d::l:=by
 rw[yv5];rintro⟨r,e⟩;injection e with e _;exact h e
theorem yc4{c:Nat}{l r:List Nat}(hc:c≠60)(h:rep El [60] 0 l=c::r):∃ l',l=c::l'/\r=rep El [60] 0 l':=by
 cases l with
 | nil=>cases h
 | cons d l =>
   by_cases hp:El <+: d::l
   ·rw[rep_yes (by simp) hp] at h
    injection h with e _
    exact absurd e.symm hc
   ·rw[rep_no hp] at h
    injection h with e1 e2
    subst e1
    exact⟨l,rfl,e2.symm⟩
theorem two_reps:∀ (n:Nat) (l:List Nat),l.length<=n->rep Ea [38] 0 (rep El [60] 0 l)=told 0 l
 | _,[],_=>rfl
 | 0,_::_,h=>by simp at h
 | n + 1,c::l,h=>by
   have h:l.length<=n:=by simpa using h
   by_cases h1:El <+: c::l
   ·obtain⟨r,e⟩:=yv5.mp h1
    rw[e] at h1 ⊢
    have hr:r.length<=n:=by
     injection e with _ e
     rw[e] at h
     simp at h;omega
    rw[rep_yes (by simp) h1,zv5]
    show rep Ea [38] 0 (60::rep El [60] 0 r)=_
    rw[rep_no (yk0 (by decide)),two_reps n r hr]
   ·rw[rep_no h1]
    by_cases h2:Ea <+: c::l
    ·obtain⟨r,e⟩:=yv5.mp h2
     have hr:r.length<=n:=by
      injection e with _ e
      rw[e] at h
      simp at h;omega
     injection e with ec e
     subst ec e
     rw[zv6,rep_no (Y:=El) (Z:=[60]) (c:=97) (l:=59::r) (yk0 (by decide)),rep_no (Y:=El) (Z:=[60]) (c:=59) (l:=r) (yk0 (by decide)),rep_yes (Y:=Ea) (Z:=[38]) (by simp) (yv5.mpr ⟨_,rfl⟩)]
     show 38::rep Ea [38] 0 (rep El [60] 0 r)=_
     rw[two_reps n r hr]
    ·rw[zv7 h1 h2,rep_no fun hp=>?_,two_reps n l h]
     obtain⟨r,e⟩:=yv5.mp hp
     injection e with ec e
     obtain⟨l',rfl,e2⟩:=yc4 (by decide) e
     obtain⟨l'',rfl,e3⟩:=yc4 (by decide) e2.symm
     subst ec
     exact h2 (yv5.mpr ⟨l'',rfl⟩)
end TX
namespace TX
open PySem
def letter(c:Nat):Bool:=decide (97<=c) && decide (c<=122)
def nm(d:List Nat):Option Nat:=if 1<=(d.takeWhile letter).length/\(d.takeWhile letter).length<=8/\d[(d.takeWhile letter).length]?=some 62 then some (d.takeWhile letter).length else none
def nst(l:List Nat)(k:Nat):Nat:=if l[k+1]?=some 47 then k+2 else k+1
def tagAt(l:List Nat)(k:Nat):Option (Nat×Nat):=if l[k]?=some 60 then(nm (l.drop (nst l k))).map fun n=>(nst l k,nst l k+n+1) else none
theorem nst_gt(l:List Nat)(k:Nat):k<nst l k:=by unfold nst;split <;> omega
theorem ze3{p:Nat->Bool}:∀ (d:List Nat) (n:Nat),(∀ i,i<n->∃ c,d[i]?=some c/\p c=true)->(∀ c,d[n]?=some c->p c=false)->(d.takeWhile p).length=n
 | [],0,_,_=>rfl
 | [],n+1,h,_=>by obtain⟨c,e,_⟩:=h 0 (by omega);simp at e
 | c::d,0,_,h=>by rw[List.takeWhile_cons,h c rfl];rfl
 | c::d,n+1,h,h2=>by
   obtain⟨c',e,hc⟩:=h 0 (by omega)
   have:c=c':=by simpa using e
   subst this
   rw[List.takeWhile_cons,hc]
   simp only[if_true,List.length_cons]
   rw[ze3 d n (fun i hi=>by have:=h (i+1) (by omega);simpa using this) (fun c e=>h2 c (by simpa using e))]
theorem ze4{p:Nat->Bool}:∀ (d:List Nat) (i:Nat),i<(d.takeWhile p).length->∃ c,d[i]?=some c/\p c=true
 | [],i,h=>by simp at h
 | c::d,0,h=>by
   rw[List.takeWhile_cons] at h
   cases hc:p c with
   | true=>exact⟨c,rfl,hc⟩
   | false=>rw[hc] at h;simp at h
 | c::d,i+1,h=>by
   rw[List.takeWhile_cons] at h
   cases hc:p c with
   | true=>rw[hc] at h;simp at h;obtain⟨c',e,h'⟩:=ze4 d i h;exact⟨c',by simpa using e,h'⟩
   | false=>rw[hc] at h;simp at h
theorem yk1:letter 62=false:=by decide
theorem nm_iff{d:List Nat}{n:Nat}:nm d=some n↔1<=n/\n<=8/\(∀ i,i<n->∃ c,d[i]?=some c/\letter c=true)/\d[n]?=some 62:=by
 constructor
 ·intro h
  unfold nm at h
  split at h
  ·rename_i hc
   have e:(d.takeWhile letter).length=n:=by simpa using h
   rw[e] at hc
   exact⟨hc.1,hc.2.1,fun i hi=>ze4 d i (by rw[e];exact hi),hc.2.2⟩
  ·cases h
 ·rintro⟨h1,h2,h3,h4⟩
  have e:(d.takeWhile letter).length=n:=ze3 d n h3 fun c e=>by rw[h4] at e;cases e;exact yk1
  unfold nm
  rw[e,if_pos ⟨h1,h2,h4⟩]
theorem tagAt_gt{l:List Nat}{k f e:Nat}(h:tagAt l k=some (f,e)):k<e/\e<=l.length/\f=nst l k/\f<e-1/\l[k]?=some 60/\nm (l.drop f)=some (e-1-f):=by
 unfold tagAt at h
 split at h
 ·rename_i h60
  obtain⟨n,hn,e1⟩:=Option.map_eq_some_iff.mp h
  injection e1 with ef ee
  subst ef ee
  obtain⟨h1,h2,h3,h4⟩:=nm_iff.mp hn
  have:=nst_gt l k
  rw[List.getElem?_drop] at h4
  have:=(List.getElem?_eq_some_iff.mp h4).1
  exact⟨by omega,by omega,rfl,by omega,h60,by rw[hn];congr 1;omega⟩
 ·cases h
def ofL(xs:List Nat):Str:=⟨xs.toArray⟩
def runD(l:List Nat)(a b:Nat):PyData:=.tuple [.str "run",.int a,.int b,.str (ofL (told 0 ((l.drop a).take (b-a))))]
def tagD(l:List Nat)(k f e:Nat):PyData:=.tuple [.str (if f=k+1 then "open" else "close"),.int k,.int e,.str (ofL ((l.drop f).take (e-1-f)))]
def runs(l:List Nat)(a b:Nat):List PyData:=if a<b then[runD l a b] else[]
def cutAt(l:List Nat):Nat->Nat->Nat->List PyData
 | 0,_,s=>runs l s l.length
 | n+1,k,s=>if l.length<=k then runs l s l.length else match tagAt l k with
   | none=>cutAt l n (k+1) s
   | some (f,e)=>runs l s k++tagD l k f e::cutAt l n e e
def toks(l:List Nat)(k s:Nat):List PyData:=cutAt l (l.length-k) k s
theorem wb6(l:List Nat):∀ (n m k s:Nat),l.length-k<=n->n<=m->cutAt l m k s=cutAt l n k s
 | 0,0,_,_,_,_=>rfl
 | 0,m+1,k,s,h,_=>by show(if l.length<=k then _ else _)=runs l s l.length;rw[if_pos (by omega)]
 | n+1,0,_,_,_,h=>by omega
 | n+1,m+1,k,s,h,hm=>by
   rw[cutAt,cutAt]
   split
   ·rfl
   ·cases ht:tagAt l k with
    | none=>exact wb6 l n m (k+1) s (by omega) (by omega)
    | some fe =>
      obtain⟨f,e⟩:=fe
      have:=(tagAt_gt ht).1
      show _++_::cutAt l m e e=_++_::cutAt l n e e
      rw[wb6 l n m e e (by omega) (by omega)]
theorem toks_end{l:List Nat}{k s:Nat}(h:l.length<=k):toks l k s=runs l s l.length:=by
 unfold toks
 rw[show l.length-k=0 by omega];rfl
theorem toks_none{l:List Nat}{k s:Nat}(h:k<l.length)(ht:tagAt l k=none):toks l k s=toks l (k+1) s:=by
 unfold toks
 obtain⟨n,hn⟩:∃ n,l.length-k=n+1:=⟨l.length-k-1,by omega⟩
 rw[hn,cutAt,if_neg (by omega),ht]
 exact(wb6 l _ _ _ _ (by omega) (by omega))
theorem toks_some{l:List Nat}{k s f e:Nat}(ht:tagAt l k=some (f,e)):toks l k s=runs l s k++tagD l k f e::toks l e e:=by
 obtain⟨h1,h2,_⟩:=tagAt_gt ht
 unfold toks
 obtain⟨n,hn⟩:∃ n,l.length-k=n+1:=⟨l.length-k-1,by omega⟩
 rw[hn,cutAt,if_neg (by omega),ht]
 show _++_::cutAt l n e e=_
 rw[wb6 l (l.length-e) n e e (by omega) (by omega)]
theorem toks_skip{l:List Nat}{s:Nat}:∀ (d k:Nat),k+d<=l.length->(∀ j,k<=j->j<k+d->l[j]?≠some 60)->toks l k s=toks l (k+d) s
 | 0,k,_,_=>rfl
 | d+1,k,h,hn=>by
   rw[toks_none (by omega) (by unfold tagAt;rw[if_neg (hn k (Nat.le_refl _) (by omega))]),toks_skip d (k+1) (by omega) fun j h1 h2=>hn j (by omega) (by omega)]
   congr 1;omega
end TX
theorem A7.refl(H:Hp):A7 H H:=fun _ _ e=>e
theorem Y2(x y:Str):x=y↔x.cps.toList=y.cps.toList:=⟨fun e=>by rw[e],fun e=>PySem.Str.ext' (Array.toList_inj.mp e)⟩
variable{z:Str}
theorem wb7{a b:Int}{i:Nat}(ha:a=(i:Int))(hb:b=(j:Int)):(qh2 z (some a) (some b)).cps.toList=(z.cps.toList.drop i).take (j-i):=by
 subst ha hb
 unfold qh2
 rw[HT.wb1,HT.wb1]
 show(z.cps.toList.drop (min i z.cps.toList.length)).take _=_
 by_cases hi:i<=z.cps.toList.length
 ·rw[Nat.min_eq_left hi]
  by_cases hj:j<=z.cps.toList.length
  ·rw[Nat.min_eq_left hj]
  ·rw[Nat.min_eq_right (by omega),List.take_of_length_le (by rw[List.length_drop];exact Nat.le_refl _),List.take_of_length_le (by rw[List.length_drop];omega)]
 ·rw[Nat.min_eq_right (Nat.le_of_lt (Nat.lt_of_not_le hi)),List.drop_eq_nil_of_le (Nat.le_refl _),List.drop_eq_nil_of_le (Nat.le_of_lt (Nat.lt_of_not_le hi))]
  simp
theorem xd6(Y Z:List Nat):∀ (k:Nat) (l:List Nat),(TX.rep Y Z k l).length<=l.length*(Z.length+1)
 | _,[]=>by simp[TX.rep]
 | k+1,_::l=>by
   rw[TX.rep,List.length_cons,Nat.succ_mul]
   exact Nat.le_trans (xd6 Y Z k l) (Nat.le_add_right _ _)
 | 0,c::l=>by
   have h1:=xd6 Y Z (Y.length-1) l
   have h2:=xd6 Y Z 0 l
   rw[TX.rep,List.length_cons,Nat.succ_mul]
   split
   ·rw[List.length_append];omega
   ·rw[List.length_cons];omega
theorem yc5(x y z:Str)(h0:1<=y.length):(PySem.Txt.replace x y z).length<=x.length*(z.length+1):=by
 have e:=TX.replace_rep x y z h0
 have h:=xd6 y.cps.toList z.cps.toList 0 x.cps.toList
 rw[<-e,Array.length_toList,Array.length_toList,Array.length_toList] at h
 exact h
def yk2(l:List Nat)(i:Nat):Bool:=decide (l[i]?=some 60) || (decide (l[i]?=some 38) && (!decide ((l.drop (i+1)).take 2=[108,59]) && !decide ((l.drop (i+1)).take 2=[97,59])))
def qd9(l:List Nat)(i:Nat):List Nat:=(List.range i).filter (yk2 l)
theorem yk3(l:List Nat)(i:Nat):qd9 l (i+1)=if yk2 l i=true then qd9 l i++[i] else qd9 l i:=by
 unfold qd9
 rw[List.range_succ,List.filter_append]
 by_cases h:yk2 l i=true
 ·rw[if_pos h];simp[h]
 ·rw[if_neg h];simp[h]
theorem wj9(l:List Nat)(i:Nat):(qd9 l i).length<=i:=by
 unfold qd9
 exact Nat.le_trans (List.length_filter_le _ _) (Nat.le_of_eq (List.length_range))
variable{l:List Nat}
theorem wx1{i:Nat}(h:l[i]?=some c):l.drop i=c::l.drop (i+1):=by
 obtain⟨hi,e⟩:=List.getElem?_eq_some_iff.mp h
 rw[List.drop_eq_getElem_cons hi,e]
theorem zm5{i:Nat}{a b:Int}(h:z.cps.toList[i]?=some c)(ha:a=(i:Int))(hb:b=((i+3:Nat):Int)) :
 (decide ((⟨#[c]⟩:Str)∈(["<","&"]:List Str)) && !decide (qh2 z (some a) (some b)∈(["&l;","&a;"]:List Str)))=yk2 z.cps.toList i:=by
 have e:=wb7 (z:=z) ha hb
 rw[show i+3-i=3 by omega,wx1 h,List.take_succ_cons] at e
 have e1:(⟨#[c]⟩:Str) = "<"↔c=60:=by
  rw[Y2];show[c]=[60]↔_;simp
 have e2:(⟨#[c]⟩:Str) = "&"↔c=38:=by
  rw[Y2];show[c]=[38]↔_;simp
 have e3:qh2 z (some a) (some b) = "&l;"↔c=38/\(z.cps.toList.drop (i+1)).take 2=[108,59]:=by
  rw[Y2,e];show c::_=[38,108,59]↔_;simp
 have e4:qh2 z (some a) (some b) = "&a;"↔c=38/\(z.cps.toList.drop (i+1)).take 2=[97,59]:=by
  rw[Y2,e];show c::_=[38,97,59]↔_;simp
 unfold yk2
 rw[h]
 simp only[List.mem_cons,List.not_mem_nil,or_false,e1,e2,e3,e4,Option.some.injEq]
 by_cases h1:c=60
 ·subst h1;simp
 ·by_cases h2:c=38
  ·subst h2;simp
  ·simp[h1,h2]
def wb8(K:Fg):Sp:=fun vs H Q _=>∃ z:Str,vs=[.str z]/\z.length<=100000/\∀ w:Str,w.cps.toList=TX.told 0 z.cps.toList->Q (.str w) H
def wk0(K:Fg):TS :=
 (M0 (xp4 (xp4 (A3 0) ("&l;":Str) ("<":Str)) ("&a;":Str) ("&":Str)))
theorem yk4(h:wb8 K vs H Q E):wk0 K {nx:=fun _ H'=>Q .non H',rt:=Q} (E8 ["run"] vs) H:=by
 obtain⟨z,rfl,hz,q⟩:=h
 show wk0 K _ [some (.str z)] H
 unfold wk0
 lk
 refine⟨z,rfl,by omega,?_⟩
 have l1:=yc5 z "&l;" "<" (by decide)
 rw[show("<":Str).length=1 from rfl] at l1
 refine⟨_,rfl,by omega,?_⟩
 refine q _ ?_
 rw[TX.replace_rep _ _ _ (by decide),TX.replace_rep _ _ _ (by decide)]
 exact TX.two_reps _ _ (Nat.le_refl _)
def qp8(K:Fg):Sp:=fun vs H Q _=>∃ z:Str,vs=[.str z]/\z.length<=100000/\∀ (p:Addr) (H':Hp),A7 H H'->H p=none->H' p=some (.lst (yb5 (qd9 z.cps.toList z.cps.toList.length)))->Q (.ref p) H'
def qu4(K:Fg)(c_TOLD_FOR:Addr)(c_ESCAPED:Addr):TS :=
 (M0 (wl7 [some 0,none,none] (yi3 (A2 (A3 0) B0)) (yf4 K 2 (qr0 (B2 1) (qr0 (B2 2) yf3))) (xb4 (L0 (tOp (xl4 K false) (A3 2) (tC (.ref c_ESCAPED)))) (L0 (tOp (xl4 K true) (tSl (wq8 K) (A3 0) (Z4 (A3 1)) (Z4 (tOp (J0 K) (A3 1) (tC (.int 3))))) (tC (.ref c_TOLD_FOR))))) (A3 1)))
variable{c_ESCAPED:Addr}
theorem xt9{c_TOLD_FOR:Addr}(q_TOLD_FOR:∀ H:Hp,SqT K H c_TOLD_FOR [.str "&l;",.str "&a;"])(q_ESCAPED:∀ H:Hp,SqT K H c_ESCAPED [.str "<",.str "&"])(h:qp8 K vs H Q E):qu4 K c_TOLD_FOR c_ESCAPED {nx:=fun _ H'=>Q .non H',rt:=Q} (E8 ["run"] vs) H:=by
 obtain⟨z,rfl,hz,q⟩:=h
 show qu4 K _ _ _ [some (.str z)] H
 unfold qu4
 lk
 have hl:z.cps.toList.length=z.cps.size:=Array.length_toList
 have hz':z.cps.size<=100000:=hz
 refine yi4 (fun i ys H'=>A7 H H'/\ys=yb5 (qd9 z.cps.toList i)) ⟨A7.refl H,rfl⟩ ?_ ?_ ?_
 ·rintro i ys H' hi ⟨_,rfl⟩
  have:=wj9 z.cps.toList i
  rw[yb5,List.length_map]
  exact E1 (by omega)
 ·rintro i c p ys H' hc hp ⟨hs,rfl⟩
  refine⟨p,_,rfl,SqT.of A6,rfl,_,_,rfl,L3 ⟨_,_,rfl,L3 ⟨rfl,?_⟩⟩⟩
  have hs2:A7 H (upd H' p (.tup [.int i,.str ⟨#[c]⟩])):=A7.tr hs (A7.new hp _)
  lk
  refine .inl (yt7 (xs:=C1 ["<","&"]) (.inr (q_ESCAPED _)) rfl (qg8 _) ?_)
  rw[qh3]
  lk
  have key:=zm5 hc (a:=(i:Int)) (b:=(i:Int)+3) rfl (by omega)
  simp only[PAt]
  rw[yk3]
  by_cases h1:(⟨#[c]⟩:Str)∈(["<","&"]:List Str)
  ·rw[decide_eq_true h1];refine qt4 ?_
   rw[decide_eq_true h1,Bool.true_and] at key
   lk
   refine xp5 (E1 hz) ?_
   lk
   refine .inl (yn9 (xs:=C1 ["&l;","&a;"]) (.inr (q_TOLD_FOR _)) rfl (qg8 _) ?_)
   rw[qh3,key]
   lk
   by_cases h2:yk2 z.cps.toList i=true
   ·rw[h2];refine qt4 ?_
    rw[if_pos rfl]
    lk
    exact⟨hs2,by simp[yb5]⟩
   ·rw[Bool.eq_false_iff.mpr h2];refine Z2 ?_
    rw[if_neg Bool.false_ne_true]
    exact⟨hs2,rfl⟩
  ·rw[decide_eq_false h1];refine Z2 ?_
   rw[decide_eq_false h1,Bool.false_and] at key
   rw[<-key]
   k_go
   rw[if_neg Bool.false_ne_true]
   exact⟨hs2,rfl⟩
 ·rintro ys H' ⟨hs,rfl⟩ p hp
  refine q p _ (A7.tr hs (A7.new hp _)) ?_ ?_
  ·cases e:H p with
   | none=>rfl
   | some u=>rw[hs _ _ e] at hp;cases hp
  ·rw[hl];exact A6
section
open PySem.StrLaws PySem.Builtin.Str
theorem xd7{n k:Nat}(h:i=(k:Int)):fromIndex n i=k:=by
 subst h;unfold fromIndex
 rw[if_neg (by omega)];omega
theorem yk5(x:Str)(c hi i:Nat)(hh:hi<=x.length):At x ⟨#[c]⟩ hi i↔i<hi/\x.cps.toList[i]?=some c:=by
 have h:=subAt_one x c i
 have e:(⟨#[c]⟩:Str).length=1:=rfl
 unfold At
 rw[e] at h ⊢
 constructor
 ·rintro⟨a,b⟩;exact⟨by omega,h.mp ⟨by omega,b⟩⟩
 ·rintro⟨a,b⟩;exact⟨by omega,(h.mpr b).2⟩
theorem zm6{lo n a:Nat}{pre post:List Nat}(e:List.range' lo n=pre++a::post):lo<=a/\a<lo+n/\∀ k,lo<=k->k<a->k∈pre:=by
 have h:=range'_split_from e
 have:a∈List.range' lo n:=by rw[e];simp
 have:=List.mem_range'_1.mp this
 exact⟨h.1,this.2,h.2⟩
theorem ze5(x:Str)(c lo hi:Nat)(hh:hi<=x.length) :
 (occurrences x ⟨#[c]⟩ lo hi 1=[]/\∀ i,lo<=i->i<hi->x.cps.toList[i]?≠some c) \/
 ∃ i r,occurrences x ⟨#[c]⟩ lo hi 1=i::r/\lo<=i/\i<hi/\x.cps.toList[i]?=some c/\∀ k,lo<=k->k<i->x.cps.toList[k]?≠some c:=by
 have go:=occ_first x ⟨#[c]⟩ hi 1 (Nat.le_refl 1) (List.range' lo (hi+1-lo)) lo (fun i hi'=>(List.mem_range'_1.mp hi').1)
 rw[occ_eq]
 rcases go with⟨e,hn⟩|⟨pre,a,post,e,h0,ha,hn⟩
 ·refine .inl ⟨by rw[e],fun i h1 h2 hc=>?_⟩
  exact hn i (List.mem_range'_1.mpr ⟨h1,by omega⟩) ((yk5 x c hi i hh).mpr ⟨h2,hc⟩)
 ·obtain⟨s1,s2,s3⟩:=zm6 e
  obtain⟨a1,a2⟩:=(yk5 x c hi a hh).mp ha
  generalize (forIn (List.range' lo (hi+1-lo)) ((#[]:Array Nat),lo) (occBody x ⟨#[c]⟩ hi 1)).run.fst=arr at h0 ⊢
  have g0:arr.toList[0]?=some a:=by rw[<-h0];simp
  refine .inr ⟨a,arr.toList.tail,?_,s1,a1,a2,fun k k1 k2 hc=>hn k (s3 k k1 k2) ((yk5 x c hi k hh).mpr ⟨by omega,hc⟩)⟩
  cases hL:arr.toList with
  | nil=>rw[hL] at g0;cases g0
  | cons b t=>rw[hL] at g0;simp at g0;rw[g0];rfl
theorem ze6{j:Int}{f g:Nat}(hi:i=(f:Int))(hj:j=(g:Int)) :
 (xp6 z ⟨#[c]⟩ i j=-1/\∀ k,f<=k->k<g->z.cps.toList[k]?≠some c) \/
 ∃ k:Nat,xp6 z ⟨#[c]⟩ i j=(k:Int)/\f<=k/\k<g/\z.cps.toList[k]?=some c/\∀ m,f<=m->m<k->z.cps.toList[m]?≠some c:=by
 have hl:z.cps.toList.length=z.length:=Array.length_toList
 unfold xp6
 rw[xd7 hi,xd7 hj]
 rcases ze5 z c f (min g z.length) (Nat.min_le_right _ _) with⟨e,hn⟩|⟨k,r,e,h1,h2,h3,h4⟩
 ·rw[e]
  refine .inl ⟨rfl,fun k k1 k2 hc=>?_⟩
  have:=(List.getElem?_eq_some_iff.mp hc).1
  exact hn k k1 (by omega) hc
 ·rw[e];exact .inr ⟨k,rfl,h1,by omega,h3,h4⟩
theorem ze7{f:Nat}(hi:i=(f:Int)) :
 (PySem.Txt.find3 z ⟨#[c]⟩ i=-1/\∀ k,f<=k->z.cps.toList[k]?≠some c) \/
 ∃ k:Nat,PySem.Txt.find3 z ⟨#[c]⟩ i=(k:Int)/\f<=k/\z.cps.toList[k]?=some c/\∀ m,f<=m->m<k->z.cps.toList[m]?≠some c:=by
 have hl:z.cps.toList.length=z.length:=Array.length_toList
 unfold PySem.Txt.find3
 rw[xd7 hi]
 rcases ze5 z c f z.length (Nat.le_refl _) with⟨e,hn⟩|⟨k,r,e,h1,h2,h3,h4⟩
 ·rw[e]
  refine .inl ⟨rfl,fun k k1 hc=>?_⟩
  have:=(List.getElem?_eq_some_iff.mp hc).1
  exact hn k k1 (by omega) hc
 ·rw[e];exact .inr ⟨k,rfl,h1,h3,h4⟩
theorem yv6{k:Nat}(hi:i=(k:Int))(h:z.cps.toList[k]?=some 60):PySem.Txt.startswith3 z "</" i=decide (z.cps.toList[k+1]?=some 47):=by
 have hl:z.cps.toList.length=z.length:=Array.length_toList
 unfold PySem.Txt.startswith3
 rw[xd7 hi,subAt_eq]
 show(decide (k+2<=z.length) && ((z.cps.toList.drop k).take 2 == [60,47]))=_
 rw[wx1 h]
 have hk:=(List.getElem?_eq_some_iff.mp h).1
 cases h2:z.cps.toList[k+1]? with
 | none =>
   have:z.cps.toList.length<=k+1:=List.getElem?_eq_none_iff.mp h2
   rw[decide_eq_false (by omega)];rfl
 | some c =>
   have:=(List.getElem?_eq_some_iff.mp h2).1
   rw[decide_eq_true (by omega),wx1 h2]
   by_cases e:c=47 <;> simp[e]
def Q4(K:Fg):Sp:=fun vs H Q _=>∃ z:Str,vs=[.str z]/\z.length<=100000/\∀ H',A7 H H'->Q (.bl (decide (1<=z.length) && (decide (z.length<=8) && z.cps.toList.all TX.letter))) H'
def R1(K:Fg):TS :=
 (M0 (ym1 (xr4 yh8 yh8 (tC (.int 1)) (tCB (O6 K) (A2 (A3 0) B0)) (tC (.int 8))) (tCB (zb9 K) (A2 (wl7 [none] (zk8 (A3 0)) (B2 0) tTT (xr4 yh8 yh8 (tC (.str "a")) (A3 0) (tC (.str "z")))) B0))))
theorem wb9(h:Q4 K vs H Q E):R1 K {nx:=fun _ H'=>Q .non H',rt:=Q} (E8 ["word"] vs) H:=by
 obtain⟨z,rfl,hz,q⟩:=h
 show R1 K _ [some (.str z)] H
 unfold R1
 lk
 refine xf6 (E1 hz) ?_
 lk
 by_cases h1:(1:Int)<=z.length
 ·rw [decide_eq_true h1]
  x_go
  rw[decide_eq_true (by omega:1<=z.length),Bool.true_and] at q
  lk
  by_cases h2:(z.length:Int)<=8
  ·rw[decide_eq_true h2]
   x_go
   rw[decide_eq_true (by omega:z.length<=8),Bool.true_and] at q
   lk
   have hl:z.cps.toList.length=z.cps.size:=Array.length_toList
   refine ya1 (fun i ys H'=>H'=H/\ys=((z.cps.toList.take i).map TX.letter).map V.bl) ⟨rfl,rfl⟩ ?_ ?_ ?_
   ·rintro i ys H' hi ⟨_,rfl⟩
    rw[List.length_map,List.length_map,List.length_take]
    exact E1 (by have:z.cps.size<=100000:=hz;omega)
   ·rintro i c ys H' hc ⟨rfl,rfl⟩
    have tk:z.cps.toList.take (i+1)=z.cps.toList.take i++[c]:=by rw[List.take_add_one,hc];rfl
    lk
    refine zp6 ?_
    have e1:(!decide ((⟨#[c]⟩:Str).cps.toList<("a":Str).cps.toList))=decide (97<=c):=by
     show(!decide ([c] < [97]))=_
     rw[lt_cons_cons,lt_nil_nil,Bool.and_false,Bool.or_false]
     by_cases h:97<=c
     ·rw[decide_eq_true h,decide_eq_false (by omega)];rfl
     ·rw[decide_eq_false h,decide_eq_true (by omega)];rfl
    have e2:(!decide (("z":Str).cps.toList<(⟨#[c]⟩:Str).cps.toList))=decide (c<=122):=by
     show(!decide ([122] < [c]))=_
     rw[lt_cons_cons,lt_nil_nil,Bool.and_false,Bool.or_false]
     by_cases h:c<=122
     ·rw[decide_eq_true h,decide_eq_false (by omega)];rfl
     ·rw[decide_eq_false h,decide_eq_true (by omega)];rfl
    rw[e1]
    refine⟨_,rfl,?_⟩
    by_cases hc1:97<=c
    ·rw[decide_eq_true hc1];refine qt4 ?_
     lk
     refine zp6 ?_
     rw[e2]
     exact⟨rfl,by rw[tk];simp[TX.letter,hc1]⟩
    ·rw[decide_eq_false hc1];refine Z2 ?_
     exact⟨rfl,by rw[tk];simp[TX.letter,hc1]⟩
   ·rintro ys H' ⟨rfl,rfl⟩ p hp
    lk
    refine Ab3 (SqL.of A6) ?_
    rw[<-hl,List.take_length]
    have e:(z.cps.toList.map TX.letter).all id=z.cps.toList.all TX.letter:=by rw[List.all_map];rfl
    rw[e]
    exact q _ (A7.new hp _)
  ·rw[decide_eq_false h2]
   k_go
   rw[decide_eq_false (by omega:¬z.length<=8),Bool.false_and] at q
   exact q _ (A7.refl H)
 ·rw[decide_eq_false h1]
  k_go
  refine⟨false,rfl,Z2 ?_⟩
  rw[decide_eq_false (by omega:¬1<=z.length),Bool.false_and] at q
  exact q _ (A7.refl H)
def qe0(K:Fg):Sp:=fun vs H Q _=>∃ (z:Str) (k:Nat),vs=[.str z,.int k]/\z.cps.toList[k]?=some 60/\Q (.int (TX.nst z.cps.toList k)) H
def qp9(K:Fg):TS :=
 (M0 (tIf (tB (tBM K "str" yo4 (A3 0) (A2 (tC (.str "</")) (A2 (A3 1) B0)))) (tOp (J0 K) (A3 1) (tC (.int 2))) (tOp (J0 K) (A3 1) (tC (.int 1)))))
theorem xm1(h:qe0 K vs H Q E):qp9 K {nx:=fun _ H'=>Q .non H',rt:=Q} (E8 ["text","start"] vs) H:=by
 obtain⟨z,k,rfl,h60,q⟩:=h
 show qp9 K _ [some (.str z),some (.int k)] H
 unfold qp9
 lk
 refine⟨rfl,?_⟩
 lk
 refine⟨z, "</",k,rfl,rfl,?_⟩
 rw[yv6 rfl h60]
 lk
 unfold TX.nst at q
 by_cases h:z.cps.toList[k+1]?=some 47
 ·rw[decide_eq_true h];refine qt4 ?_
  rw[if_pos h] at q
  lk
  exact q
 ·rw[decide_eq_false h];refine Z2 ?_
  rw[if_neg h] at q
  lk
  exact q
def qu5(K:Fg):Sp:=fun vs H Q _=>∃ (z:Str) (k:Nat),vs=[.str z,.int k]/\z.length<=100000/\z.cps.toList[k]?=some 60/\(TX.tagAt z.cps.toList k=none->∀ H',A7 H H'->Q .non H') /\
 ∀ (f e:Nat),TX.tagAt z.cps.toList k=some (f,e)->∀ H',A7 H H'->Q (.int e) H'
def wc0(K:Fg):TS :=
 (C0 (E9 (E2 (qe0 K) [] E0 (A2 (A3 0) (A2 (A3 1) B0))) (B2 2))
 (C0 (E9 (tBM K "str" zb7 (A3 0) (A2 (tC (.str ">")) (A2 (A3 2) (A2 (tOp (J0 K) (tOp (J0 K) (A3 2) (tC (.int 8))) (tC (.int 1))) B0)))) (B2 3))
 (C0 (T2 (tOr (L0 (tOp xs4 (A3 3) (tC (.int 0)))) (yr7 (tB (E2 (Q4 K) [] E0 (A2 (tSl (wq8 K) (A3 0) (Z4 (A3 2)) (Z4 (A3 3))) B0)))))
 (M0 (tC .non)) O5)
 (M0 (tOp (J0 K) (A3 3) (tC (.int 1)))))))
theorem yc7(h:qu5 K vs H Q E):wc0 K {nx:=fun _ H'=>Q .non H',rt:=Q} (E8 ["text","start","first","end"] vs) H:=by
 obtain⟨z,k,rfl,hz,h60,q1,q2⟩:=h
 show wc0 K _ [some (.str z),some (.int k),none,none] H
 unfold wc0
 have hl:z.cps.toList.length=z.length:=Array.length_toList
 lk
 refine⟨z,k,rfl,h60,?_⟩
 lk
 refine⟨rfl,?_⟩
 lk
 refine⟨z, ">",_,_,rfl,rfl,?_⟩
 have tg:TX.tagAt z.cps.toList k=(TX.nm (z.cps.toList.drop (TX.nst z.cps.toList k))).map fun n=>(TX.nst z.cps.toList k,TX.nst z.cps.toList k+n+1):=by unfold TX.tagAt;rw[if_pos h60]
 generalize TX.nst z.cps.toList k=f at *
 have e0:(">":Str)=⟨#[62]⟩:=rfl
 rw[e0]
 rcases ze6 (z:=z) (c:=62) (i:=(f:Int)) (j:=(f:Int)+8+1) (f:=f) (g:=f+9) rfl (by omega) with⟨e,hn⟩|⟨r,e,r1,r2,r3,r4⟩
 ·rw[e]
  lk
  refine qt4 (qt4 ?_)
  lk
  refine q1 ?_ _ (A7.refl H)
  rw[tg]
  cases hm:TX.nm (z.cps.toList.drop f) with
  | none=>rfl
  | some n =>
    obtain⟨n1,n2,n3,n4⟩:=TX.nm_iff.mp hm
    rw[List.getElem?_drop] at n4
    exact absurd n4 (hn (f+n) (by omega) (by omega))
 ·rw [e]
  lk
  rw[decide_eq_false (by omega:¬((r:Nat):Int)<0)];refine Z2 ?_
  lk
  refine xp5 (E1 hz) ?_
  have ct:=wb7 (z:=z) (a:=(f:Int)) (b:=(r:Int)) (i:=f) (j:=r) rfl rfl
  generalize qh2 z (some (f:Int)) (some (r:Int))=nmz at *
  have rl:=(List.getElem?_eq_some_iff.mp r3).1
  have ln:nmz.length=r-f:=by
   have h1:=congrArg List.length ct
   rw[Array.length_toList,List.length_take,List.length_drop] at h1
   show nmz.cps.size=_
   omega
  lk
  refine⟨nmz,rfl,by omega,fun H' s'=>?_⟩
  lk
  have get:∀ i,i<r-f->nmz.cps.toList[i]?=(z.cps.toList.drop f)[i]?:=fun i hi=>by rw[ct,List.getElem?_take_of_lt hi]
  by_cases hb:(decide (1<=nmz.length) && (decide (nmz.length<=8) && nmz.cps.toList.all TX.letter))=true
  ·rw[hb,Bool.not_true];refine Z2 ?_
   lk
   simp only[Bool.and_eq_true,decide_eq_true_eq,List.all_eq_true] at hb
   have hm:TX.nm (z.cps.toList.drop f)=some (r-f):=TX.nm_iff.mpr ⟨by omega,by omega,fun i hi=>by
    have hi2:i<nmz.cps.toList.length:=by rw[Array.length_toList];show i<nmz.length;omega
    refine⟨nmz.cps.toList[i],by rw[<-get i hi,List.getElem?_eq_getElem hi2],hb.2.2 _ (List.getElem_mem hi2)⟩,by rw[List.getElem?_drop,show f+(r-f)=r by omega];exact r3⟩
   have:=q2 f (r+1) (by rw[tg,hm];show some (f,f+(r-f)+1)=_;rw[show f+(r-f)+1=r+1 by omega]) H' s'
   exact this
  ·rw [Bool.eq_false_iff.mpr hb,Bool.not_false];refine qt4 ?_
   lk
   refine q1 ?_ _ s'
   rw[tg]
   cases hm:TX.nm (z.cps.toList.drop f) with
   | none=>rfl
   | some n =>
     exfalso
     apply hb
     obtain⟨n1,n2,n3,n4⟩:=TX.nm_iff.mp hm
     rw[List.getElem?_drop] at n4
     have hr:r=f+n:=by
      rcases Nat.lt_trichotomy r (f+n) with h|h|h
      ·obtain⟨c,hc,hlc⟩:=n3 (r-f) (by omega)
       rw[List.getElem?_drop,show f+(r-f)=r by omega,r3] at hc
       cases hc
       exact absurd hlc (by decide)
      ·exact h
      ·exact absurd n4 (r4 (f+n) (by omega) h)
     simp only[Bool.and_eq_true,decide_eq_true_eq,List.all_eq_true]
     refine⟨by omega,by omega,fun c hc=>?_⟩
     obtain⟨i,hi,e⟩:=List.getElem_of_mem hc
     have hi2:i<r-f:=by rw[Array.length_toList] at hi;have:i<nmz.length:=hi;omega
     obtain⟨c',hc',hl'⟩:=n3 i (by omega)
     rw[<-get i hi2,List.getElem?_eq_getElem hi,e] at hc'
     cases hc'
     exact hl'
def qi0(K:Fg):Sp:=fun vs H Q _=>∃ (z:Str) (k f e:Nat),vs=[.str z,.int k,.int e]/\z.length<=100000/\TX.tagAt z.cps.toList k=some (f,e) /\
 ∀ t,H t=none->Q (.ref t) (upd H t (.tup [.str (if f=k+1 then "open" else "close"),.int k,.int e,.str (TX.ofL ((z.cps.toList.drop f).take (e-1-f)))]))
def qm0(K:Fg):TS :=
 (C0 (E9 (E2 (qe0 K) [] E0 (A2 (A3 0) (A2 (A3 1) B0))) (B2 3))
 (C0 (E9 (tIf (L0 (tOp (qg1 K) (A3 3) (tOp (J0 K) (A3 1) (tC (.int 1))))) (tC (.str "open")) (tC (.str "close"))) (B2 4))
 (M0 (M2 (A2 (A3 4) (A2 (A3 1) (A2 (A3 2) (A2 (tSl (wq8 K) (A3 0) (Z4 (A3 3)) (Z4 (tOp (rI0 fun i j=>.int (i-j)) (A3 2) (tC (.int 1))))) B0))))))))
theorem xh9(h:qi0 K vs H Q E):qm0 K {nx:=fun _ H'=>Q .non H',rt:=Q} (E8 ["text","start","stop","first","kind"] vs) H:=by
 obtain⟨z,k,f,e,rfl,hz,ht,q⟩:=h
 show qm0 K _ [some (.str z),some (.int k),some (.int e),none,none] H
 unfold qm0
 obtain⟨g1,g2,g3,g4,g5,g6⟩:=TX.tagAt_gt ht
 lk
 refine⟨z,k,rfl,g5,?_⟩
 rw[<-g3]
 lk
 have ct:=wb7 (z:=z) (a:=(f:Int)) (b:=(e:Int)-1) (i:=f) (j:=e-1) rfl (by omega)
 have ec:qh2 z (some (f:Int)) (some ((e:Int)-1))=TX.ofL ((z.cps.toList.drop f).take (e-1-f)):=(Y2 _ _).mpr ct
 by_cases hf:f=k+1
 ·rw[if_pos hf] at q
  rw[decide_eq_true (by omega:(f:Int)=(k:Int)+1)];refine qt4 ?_
  lk
  refine xp5 (E1 hz) ?_
  rw[ec]
  lk
  exact⟨E1 (by z_go),q⟩
 ·rw[if_neg hf] at q
  rw[decide_eq_false (by omega:¬(f:Int)=(k:Int)+1)];refine Z2 ?_
  lk
  refine xp5 (E1 hz) ?_
  rw[ec]
  lk
  exact⟨E1 (by z_go),q⟩
def T0(K:Fg):Sp:=fun vs H Q _=>∃ (z:Str) (a e:Nat),vs=[.str z,.int a,.int e]/\a<=e/\e<=z.length/\z.length<=100000/\(a=e->∀ p,H p=none->Q (.ref p) (upd H p (.lst []))) /\
 (a<e->∀ (w:Str) (t p:Addr) (H':Hp),w.cps.toList=TX.told 0 ((z.cps.toList.drop a).take (e-a))->A7 H H'->H p=none->H' p=some (.lst [.ref t])->H' t=some (.tup [.str "run",.int a,.int e,.str w])->Q (.ref p) H')
def qi1(K:Fg):TS :=
 (C0 (T2 (L0 (tOp (qg1 K) (A3 1) (A3 2)))
 (M0 (qd5 B0)) O5)
 (M0 (qd5 (A2 (M2 (A2 (tC (.str "run")) (A2 (A3 1) (A2 (A3 2) (A2 (E2 (wb8 K) [] E0 (A2 (tSl (wq8 K) (A3 0) (Z4 (A3 1)) (Z4 (A3 2))) B0)) B0))))) B0))))
theorem xc5(h:T0 K vs H Q E):qi1 K {nx:=fun _ H'=>Q .non H',rt:=Q} (E8 ["text","start","stop"] vs) H:=by
 obtain⟨z,a,e,rfl,hae,hez,hz,q1,q2⟩:=h
 show qi1 K _ [some (.str z),some (.int a),some (.int e)] H
 unfold qi1
 lk
 by_cases h:a=e
 ·rw[decide_eq_true (by rw[h])];refine qt4 ?_
  lk
  exact⟨E1 (by z_go),q1 h⟩
 ·rw[decide_eq_false (by intro h';exact h (by omega))];refine Z2 ?_
  lk
  refine xp5 (E1 hz) ?_
  lk
  have ct:=wb7 (z:=z) (a:=(a:Int)) (b:=(e:Int)) (i:=a) (j:=e) rfl rfl
  have hl:z.cps.toList.length=z.length:=Array.length_toList
  refine⟨_,rfl,?_,fun w hw=>?_⟩
  ·have h1:=congrArg List.length ct
   rw[Array.length_toList,List.length_take,List.length_drop] at h1
   show(qh2 z (some (a:Int)) (some (e:Int))).cps.size<=_
   omega
  ·rw[ct] at hw
   lk
   refine⟨E1 (by z_go),fun t ht=>?_⟩
   lk
   refine⟨E1 (by z_go),fun p hp=>?_⟩
   have hp0:H p=none:=by
    cases e:H p with
    | none=>rfl
    | some u=>rw[A7.new ht _ _ _ e] at hp;cases hp
   have ntp:t≠p:=fun e=>by rw[<-e,A6] at hp;cases hp
   exact q2 (by omega) w t p _ hw (A7.tr (A7.new ht _) (A7.new hp _)) hp0 A6 (by rw[B7 ntp];exact A6)
end
variable{e q s P' T' W' M P T W:Nat}{l1 l2 cl:List Brn}{m1 m2:List BA}{b' bb:Brn}{x':BA}{ps:List Addr}{m:Int}{rule t g kind:Str}{f:List Str->List Str}{st:Rst}{A B:List Str}{bv:V}{kR:Addr}
section
variable{K:Fg}{vs:List V}{H:Hp}{Q:VK}{E:XK}
theorem ze8(Pv:St->Hp->Prop)(μ:St->Hp->Nat)(h0:Pv σ H)(i:Nat)(hs:∀ σ H,Pv σ H->∃ k:Int,σ[i]?=some (some (.int k))/\(0<=k->tb {D with nx:=fun σ' H'=>Pv σ' H'/\μ σ' H'<μ σ H,ct:=fun σ' H'=>Pv σ' H'/\μ σ' H'<μ σ H,bk:=D.nx} σ H)/\(¬0<=k->D.nx σ H)) :
 wa8 (L0 (tOp zj6 (A3 i) (tC (.int 0)))) tb D σ H:=by
 refine⟨fun m σ H=>m=μ σ H/\Pv σ H,⟨_,rfl,h0⟩,?_⟩
 rintro m σ H ⟨rfl,p⟩
 obtain⟨k,e,h1,h2⟩:=hs σ H p
 refine⟨_,e,zp5 (yn6 ?_)⟩
 by_cases hk:0<=k
 ·rw[decide_eq_true hk]
  exact⟨_,fun σ' H' ⟨p',l⟩=>⟨_,l,rfl,p'⟩,h1 hk⟩
 ·rw[decide_eq_false hk]
  exact h2 hk
theorem wh0:∀ xs ys:List PyData,Q0 (xs++ys)=(Q0 xs && Q0 ys)
 | [],ys=>by simp[Q0]
 | x::xs,ys=>by rw[List.cons_append,Q0,Q0,wh0 xs ys,Bool.and_assoc]
theorem yp0(l:List Nat)(a e:Nat):Q0 (TX.runs l a e)=true:=by
 unfold TX.runs;split
 ·simp[Q0,fix,TX.runD]
 ·simp[Q0]
theorem xu1(l:List Nat)(k f e:Nat):fix (TX.tagD l k f e)=true:=by simp[Q0,fix,TX.tagD]
theorem yc8(l:List Nat)(a e:Nat):(TX.runs l a e).length<=1:=by unfold TX.runs;split <;> simp
theorem zv8{w:Str}{t:Addr}{a:Nat}(hw:w.cps.toList=TX.told 0 ((z.cps.toList.drop a).take (e-a)))(ht:H t=some (.tup [.str "run",.int a,.int e,.str w])):Dv K H (TX.runD z.cps.toList a e) (.ref t):=by
 have ew:w=TX.ofL (TX.told 0 ((z.cps.toList.drop a).take (e-a))):=(Y2 _ _).mpr (by rw[hw];rfl)
 rw[<-show TX.runD z.cps.toList a e=_ from rfl]
 unfold TX.runD
 rw[<-ew]
 exact C7.mpr ⟨t,_,rfl,SqT.of ht,B4 (E6.mpr rfl) (B4 (O1.mpr rfl) (B4 (O1.mpr rfl) (B4 (E6.mpr rfl) J7)))⟩
theorem xi0{a:Nat}(hae:a<=e)(hez:e<=z.length)(hz:z.length<=100000)(q:∀ (p:Addr) (zs:List V) (H1:Hp),A7 H H1->H p=none->H1 p=some (.lst zs)->Dvs K H1 (TX.runs z.cps.toList a e) zs->Q (.ref p) H1):T0 K [.str z,.int a,.int e] H Q E:=by
 refine⟨z,a,e,rfl,hae,hez,hz,fun h p hp=>?_,fun h w t p H' hw hs hp h1 ht=>?_⟩
 ·refine q p [] _ (A7.new hp _) hp A6 ?_
  unfold TX.runs;rw[if_neg (by omega)];exact J7
 ·refine q p [.ref t] H' hs hp h1 ?_
  unfold TX.runs;rw[if_pos h]
  exact B4 (zv8 hw ht) J7
theorem yv7(hq:q<=l.length)(hn:∀ k,q<=k->l[k]?≠some 60):TX.toks l q s=TX.runs l s l.length:=by
 rw[TX.toks_skip (l.length-q) q (by omega) (fun j h1 _=>hn j h1),TX.toks_end (by omega)]
theorem zm7{k:Nat}(hqk:q<=k)(hk:l[k]?=some 60)(hn:∀ m,q<=m->m<k->l[m]?≠some 60):TX.toks l q s=TX.toks l k s:=by
 have:=(List.getElem?_eq_some_iff.mp hk).1
 rw[TX.toks_skip (k-q) q (by omega) (fun j h1 h2=>hn j h1 (by omega)),show q+(k-q)=k by omega]
def TX.glue(l:List Nat):Nat->List (Nat×Nat×Nat)->List PyData
 | s,[]=>TX.runs l s l.length
 | s,t::ts=>TX.runs l s t.1++TX.tagD l t.1 t.2.1 t.2.2::TX.glue l t.2.2 ts
def TX.Ch(l:List Nat):Nat->List (Nat×Nat×Nat)->Prop
 | _,[]=>True
 | q,t::ts=>q<=t.1/\t.1<t.2.2/\t.2.2<=l.length/\TX.Ch l t.2.2 ts
def TX.tg(l:List Nat)(t:Nat×Nat×Nat):PyData:=TX.tagD l t.1 t.2.1 t.2.2
theorem xu2{r:Nat}:∀ {ts:List (Nat×Nat×Nat)},q<=r->TX.Ch l r ts->TX.Ch l q ts
 | [],_,_=>trivial
 | t::ts,h,g=>⟨Nat.le_trans h g.1,g.2⟩
theorem yp1{l:List Nat}:∀ ts:List (Nat×Nat×Nat),Q0 (ts.map (TX.tg l))=true
 | []=>rfl
 | t::ts=>by rw[List.map_cons,Q0,yp1 ts];exact Bool.and_eq_true_iff.mpr ⟨xu1 _ _ _ _,rfl⟩
def Ac2(z:Str)(q:Nat)(st:Int)(ts:List (Nat×Nat×Nat)):Prop :=
 (st=-1/\TX.Ch z.cps.toList q ts/\∀ s,TX.toks z.cps.toList q s=TX.glue z.cps.toList s ts) \/
 ∃ k:Nat,st=(k:Int)/\ts.length<=k/\z.cps.toList[k]?=some 60/\∀ ts',TX.Ch z.cps.toList k ts'->(∀ s,TX.toks z.cps.toList k s=TX.glue z.cps.toList s ts')->TX.Ch z.cps.toList q (ts++ts')/\∀ s,TX.toks z.cps.toList q s=TX.glue z.cps.toList s (ts++ts')
theorem wx3{r:Nat}{ts:List (Nat×Nat×Nat)}(hi:i=(r:Int))(hr:r<=z.cps.toList.length)(hl:ts.length<=r)(h:∀ ts',TX.Ch z.cps.toList r ts'->(∀ s,TX.toks z.cps.toList r s=TX.glue z.cps.toList s ts')->TX.Ch z.cps.toList q (ts++ts')/\∀ s,TX.toks z.cps.toList q s=TX.glue z.cps.toList s (ts++ts')) :
 Ac2 z q (PySem.Txt.find3 z "<" i) ts/\∀ k:Nat,PySem.Txt.find3 z "<" i=(k:Int)->r<=k:=by
 have e0:("<":Str)=⟨#[60]⟩:=rfl
 rw[e0]
 rcases ze7 (z:=z) (c:=60) hi with⟨e,hn⟩|⟨k,e,h1,h2,h3⟩
 ·rw[e]
  have g:=h [] trivial fun s=>yv7 hr hn
  rw[List.append_nil] at g
  exact⟨.inl ⟨rfl,g.1,g.2⟩,fun k hk=>by omega⟩
 ·rw[e]
  exact⟨.inr ⟨k,rfl,by omega,h2,fun ts' c g=>h ts' (xu2 h1 c) fun s=>by rw[zm7 h1 h2 h3];exact g s⟩,fun m hm=>by omega⟩
def qq0(K:Fg):Sp:=fun vs H Q _=>∃ (z:Str) (q:Nat),vs=[.str z,.int q]/\q<=z.length/\z.length<=100000/\∀ (p:Addr) (us:List V) (H':Hp) (ts:List (Nat×Nat×Nat)),A7 H H'->H p=none->H' p=some (.lst us)->Dvs K H' (ts.map (TX.tg z.cps.toList)) us->TX.Ch z.cps.toList q ts->(∀ s,TX.toks z.cps.toList q s=TX.glue z.cps.toList s ts)->Q (.ref p) H'
def qu6(K:Fg):TS :=
 (C0 (E9 (qd5 B0) (B2 2))
 (C0 (E9 (tBM K "str" xs8 (A3 0) (A2 (tC (.str "<")) (A2 (A3 1) B0))) (B2 3))
 (C0 (wa8 (L0 (tOp zj6 (A3 3) (tC (.int 0))))
 (C0 (E9 (E2 (qu5 K) [] E0 (A2 (A3 0) (A2 (A3 3) B0))) (B2 4))
 (T2 (L0 (tOp xz1 (A3 4) (tC .non)))
 (E9 (tBM K "str" xs8 (A3 0) (A2 (tC (.str "<")) (A2 (tOp (J0 K) (A3 3) (tC (.int 1))) B0))) (B2 3)) (C0 (L7 (tBM K "list" N2 (A3 2) (A2 (E2 (qi0 K) [] E0 (A2 (A3 0) (A2 (A3 3) (A2 (A3 4) B0)))) B0)))
 (E9 (tBM K "str" xs8 (A3 0) (A2 (tC (.str "<")) (A2 (A3 4) B0))) (B2 3))))))
 (M0 (A3 2)))))
theorem xu3(h:qq0 K vs H Q E):qu6 K {nx:=fun _ H'=>Q .non H',rt:=Q} (E8 ["text","searched","tags","start","stop"] vs) H:=by
 obtain⟨z,q0,rfl,hq,hz,q⟩:=h
 show qu6 K _ [some (.str z),some (.int q0),none,none,none] H
 unfold qu6
 have hl:z.cps.toList.length=z.length:=Array.length_toList
 lk
 refine⟨E1 (by z_go),fun d hd=>?_⟩
 lk
 refine⟨rfl,?_⟩
 lk
 refine⟨z, "<",_,rfl,rfl,?_⟩
 lk
 refine ze8 (fun σ H'=>∃ (st:Int) (a:Option V) (us:List V) (ts:List (Nat×Nat×Nat)),σ=[some (.str z),some (.int q0),some (.ref d),some (.int st),a]/\A7 H H'/\H' d=some (.lst us)/\Dvs K H' (ts.map (TX.tg z.cps.toList)) us/\Ac2 z q0 st ts)
  (fun σ _=>match σ with | [_,_,_,some (.int st),_]=>(if st<0 then 0 else z.length+1-st.toNat)|_=>0) ?_ 3 ?_
 ·exact⟨_,none,[],[],rfl,A7.new hd _,A6,J7,(wx3 rfl (by omega) (Nat.zero_le _) fun ts' c g=>⟨c,g⟩).1⟩
 rintro σ H1 ⟨st,a,us,ts,rfl,s1,hd1,dv1,at1⟩
 have hul:us.length=ts.length:=by rw[dv1.length,List.length_map]
 refine⟨st,rfl,fun h0=>?_,fun h0=>?_⟩
 ·rcases at1 with⟨e,_⟩|⟨k,rfl,htk,h60,hts⟩
  ·omega
  have hkl:=(List.getElem?_eq_some_iff.mp h60).1
  lk
  refine⟨z,k,rfl,hz,h60,fun ht H2 s2=>?_,fun f e ht H2 s2=>?_⟩
  ·lk
   x_go
   lk
   refine⟨rfl,?_⟩
   lk
   refine⟨z, "<",_,rfl,rfl,?_⟩
   obtain⟨fa,fb⟩:=wx3 (z:=z) (q:=q0) (r:=k+1) (i:=(k:Int)+1) (ts:=ts) (by omega) (by omega) (by omega) fun ts' c g=>hts ts' (xu2 (by omega) c) fun s=>by rw[TX.toks_none (by omega) ht];exact g s
   lk
   refine⟨⟨_,_,us,ts,rfl,A7.tr s1 s2,s2 _ _ hd1,Dvs.same s2 _ _ dv1,fa⟩,?_⟩
   show(if PySem.Txt.find3 z "<" ((k:Int)+1)<0 then 0 else z.length+1-(PySem.Txt.find3 z "<" ((k:Int)+1)).toNat)<(if(k:Int)<0 then 0 else z.length+1-((k:Int)).toNat)
   rw[if_neg (by omega:¬(k:Int)<0)]
   rcases fa with⟨e,_⟩|⟨k2,e,_⟩
   ·rw[e,if_pos (by decide)];omega
   ·have:=fb k2 e
    rw[e,if_neg (by omega)];omega
  ·obtain⟨g1,g2,g3,g4,g5,g6⟩:=TX.tagAt_gt ht
   have gk:=TX.nst_gt z.cps.toList k
   lk
   have hn0:decide (V.int (e:Int)=V.non)=false:=by simp
   rw[hn0];refine Z2 ?_
   lk
   have hd2:=s2 _ _ hd1
   refine⟨.inl ⟨rfl,_,SqL.of hd2⟩,?_⟩
   lk
   refine⟨z,k,f,e,rfl,hz,ht,fun t ht4=>?_⟩
   have ntd:t≠d:=fun z=>by rw[z,hd2] at ht4;cases ht4
   lk
   refine N5 (by rw[B7 ntd.symm];exact hd2) (by rw[sizeLine_eq];omega) ?_
   have hd5:(upd H2 t (.tup [.str (if f=k+1 then "open" else "close"),.int k,.int e,.str (TX.ofL ((z.cps.toList.drop f).take (e-1-f)))])) d=some (.lst us):=by rw[B7 ntd.symm];exact hd2
   have tk6:=xg5 (ys:=us++[V.ref t]) hd5
   have dvb:=Dvs.tupK tk6 _ _ (yp1 ts) (Dvs.same (A7.new ht4 _) _ _ (Dvs.same s2 _ _ dv1))
   have dvt:Dv K (upd (upd H2 t (.tup [.str (if f=k+1 then "open" else "close"),.int k,.int e,.str (TX.ofL ((z.cps.toList.drop f).take (e-1-f)))])) d (.lst (us++[V.ref t]))) (TX.tg z.cps.toList (k,f,e)) (.ref t) :=
    C7.mpr ⟨t,_,rfl,SqT.of (by rw[B7 ntd];exact A6),B4 (E6.mpr rfl) (B4 (O1.mpr rfl) (B4 (O1.mpr rfl) (B4 (E6.mpr rfl) J7)))⟩
   lk
   refine⟨rfl,?_⟩
   lk
   refine⟨z, "<",_,rfl,rfl,?_⟩
   obtain⟨fa,fb⟩:=wx3 (z:=z) (q:=q0) (r:=e) (i:=(e:Int)) (ts:=ts++[(k,f,e)]) rfl g2 (by rw[List.length_append,List.length_singleton];omega) fun ts' c g=>by
    have:=hts ((k,f,e)::ts') ⟨Nat.le_refl _,g1,g2,c⟩ fun s=>by rw[TX.toks_some ht,g e];rfl
    rw[List.append_assoc];exact this
   lk
   refine⟨⟨_,_,us++[V.ref t],ts++[(k,f,e)],rfl,fun c u eq=>?_,A6,by rw[List.map_append];exact Dvs.append dvb (B4 dvt J7),fa⟩,?_⟩
   ·have nc:c≠d:=fun z=>by rw[z,hd] at eq;cases eq
    rw[B7 nc]
    exact A7.new ht4 _ c u (s2 c u (s1 c u eq))
   ·show(if PySem.Txt.find3 z "<" (e:Int)<0 then 0 else z.length+1-(PySem.Txt.find3 z "<" (e:Int)).toNat)<(if(k:Int)<0 then 0 else z.length+1-((k:Int)).toNat)
    rw[if_neg (by omega:¬(k:Int)<0)]
    rcases fa with⟨e',_⟩|⟨k2,e',_⟩
    ·rw[e',if_pos (by decide)];omega
    ·have:=fb k2 e'
     rw[e',if_neg (by omega)];omega
 ·rcases at1 with⟨e,hc,hts⟩|⟨k,rfl,_⟩
  ·lk
   exact q d us H1 ts s1 hd hd1 dv1 hc hts
  ·omega
def Y3(K:Fg):Sp:=fun vs H Q _=>∃ (z:Str) (s q:Nat),vs=[.str z,.int s,.int q]/\s<=q/\q<=z.length/\z.length<=100000/\∀ (p:Addr) (us:List V) (H':Hp) (acc:List PyData) (s':Nat),A7 H H'->H p=none->H' p=some (.lst us)->Dvs K H' acc us->Q0 acc=true->s<=s'->s'<=z.length->acc.length<=s'->acc++TX.runs z.cps.toList s' z.cps.toList.length=TX.toks z.cps.toList q s->(acc=[]/\s'=s\/∃ acc0 k f,acc=acc0++[TX.tagD z.cps.toList k f s'])->Q (.ref p) H'
def qa4(K:Fg):TS :=
 (C0 (E9 (qd5 B0) (B2 3))
 (C0 (qx9 (wf8 K (E2 (qq0 K) [] E0 (A2 (A3 0) (A2 (A3 2) B0)))) (B2 4)
 (C0 (L7 (tBM K "list" xd2 (A3 3) (A2 (E2 (T0 K) [] E0 (A2 (A3 0) (A2 (A3 1) (A2 (tOp (M7 K) (A3 4) (tC (.int 1))) B0)))) B0)))
 (C0 (L7 (tBM K "list" N2 (A3 3) (A2 (A3 4) B0)))
 (E9 (tOp (M7 K) (A3 4) (tC (.int 2))) (B2 1)))))
 (M0 (A3 3))))
theorem ws3(h:Y3 K vs H Q E):qa4 K {nx:=fun _ H'=>Q .non H',rt:=Q} (E8 ["text","settled","searched","tokens","tag"] vs) H:=by
 obtain⟨z,s0,q0,rfl,hsq,hq,hz,q⟩:=h
 show qa4 K _ [some (.str z),some (.int s0),some (.int q0),none,none] H
 unfold qa4
 have hl:z.cps.toList.length=z.length:=Array.length_toList
 lk
 refine⟨E1 (by z_go),fun d hd=>?_⟩
 lk
 refine⟨z,q0,rfl,hq,hz,fun p1 uts H1 ts s1 hp1 h1 dvt hch hts=>?_⟩
 have hd1:H1 d=some (.lst []):=s1 _ _ A6
 have npd:p1≠d:=fun e=>by rw[e,A6] at hp1;cases hp1
 have sH:A7 H H1:=A7.tr (A7.new hd _) s1
 have utl:uts.length=ts.length:=by rw[dvt.length,List.length_map]
 refine wf9 (xs:=uts) (SqL.of h1) (fun i σ H'=>∃ (s':Nat) (a:Option V) (us:List V) (acc:List PyData),σ=[some (.str z),some (.int s'),some (.int q0),some (.ref d),a]/\But [d] H1 H'/\T5 H1 H'/\H' d=some (.lst us)/\Dvs K H' acc us/\Q0 acc=true/\s0<=s'/\s'<=z.length/\acc.length<=s'/\TX.Ch z.cps.toList s' (ts.drop i)/\acc++TX.glue z.cps.toList s' (ts.drop i)=TX.toks z.cps.toList q0 s0/\(acc=[]/\s'=s0\/∃ acc0 k f,acc=acc0++[TX.tagD z.cps.toList k f s'])) ?_ ?_ ?_ ?_
 ·exact⟨s0,none,[],[],rfl,But.refl _ _,T5.refl _,hd1,J7,rfl,Nat.le_refl _,by omega,Nat.zero_le _,xu2 hsq hch,(hts s0).symm,.inl ⟨rfl,rfl⟩⟩
 ·rintro i σ H' hi ⟨s',a,us,acc,rfl,bt,_⟩
  exact SqL.of (bt _ _ h1 (by simpa using npd))
 ·rintro i x σ H' hx ⟨s',a,us,acc,rfl,bt,tk,hd',dva,fx,g1,g2,g3,g4,g5,g6⟩
  obtain⟨dd,e1,dvx⟩:=Dvs.get' dvt hx
  rw[List.getElem?_map] at e1
  obtain⟨⟨k,f,e⟩,hti,rfl⟩:∃ t,ts[i]?=some t/\TX.tg z.cps.toList t=dd:=by
   cases h:ts[i]? with
   | none=>rw[h] at e1;cases e1
   | some t=>rw[h] at e1;exact⟨t,rfl,by simpa using e1⟩
  have edrop:ts.drop i=(k,f,e)::ts.drop (i+1):=by
   obtain⟨hil,he⟩:=List.getElem?_eq_some_iff.mp hti
   rw[List.drop_eq_getElem_cons hil,he]
  rw[edrop] at g4 g5
  obtain⟨c1,c2,c3,c4⟩:=g4
  have c1:s'<=k:=c1
  have c2:k<e:=c2
  have c3:e<=z.cps.toList.length:=c3
  have dvx2:=dvx
  obtain⟨t,vs4,rfl,qt,dv4⟩:=C7.mp (show Dv K H1 (.tuple [.str (if f=k+1 then "open" else "close"),.int k,.int e,.str (TX.ofL ((z.cps.toList.drop f).take (e-1-f)))]) x from dvx)
  obtain⟨v1,r1,rfl,w1,dv4⟩:=(show ∃ v r,vs4=v::r/\_ from by rw[Dvs] at dv4;exact dv4)
  obtain⟨v2,r2,rfl,w2,dv4⟩:=(show ∃ v r,r1=v::r/\_ from by rw[Dvs] at dv4;exact dv4)
  obtain⟨v3,r3,rfl,w3,dv4⟩:=(show ∃ v r,r2=v::r/\_ from by rw[Dvs] at dv4;exact dv4)
  have w2:=O1.mp w2
  have w3:=O1.mp w3
  subst w2 w3
  lk
  refine⟨.inl ⟨rfl,_,SqL.of hd'⟩,?_⟩
  lk
  refine W3 (tk.sqT qt) (U7 (j:=1) rfl) ?_
  lk
  refine xi0 c1 (by omega) hz fun p zs H3 s3 hp h3 dv3=>?_
  have hd3:=s3 _ _ hd'
  have rl:=yc8 z.cps.toList s' k
  have zl:zs.length=(TX.runs z.cps.toList s' k).length:=dv3.length
  have ul:=dva.length
  lk
  refine⟨d,p,us,zs,rfl,rfl,hd3,h3,E1 (by omega),?_⟩
  have tk4:=xg5 (ys:=us++zs) hd3
  have dvb:Dvs K (upd H3 d (.lst (us++zs))) (acc++TX.runs z.cps.toList s' k) (us++zs):=Dvs.append (Dvs.tupK tk4 _ _ fx (Dvs.same s3 _ _ dva)) (Dvs.tupK tk4 _ _ (yp0 _ _ _) dv3)
  lk
  refine⟨.inl ⟨rfl,_,SqL.of A6⟩,?_⟩
  lk
  refine N5 A6 (by rw[List.length_append,sizeLine_eq];omega) ?_
  have tk5:=xg5 (H:=upd H3 d (.lst (us++zs))) (ys:=us++zs++[V.ref t]) A6
  have fx2:Q0 (acc++TX.runs z.cps.toList s' k)=true:=by rw[wh0,fx,yp0];rfl
  have tkA:T5 H1 (upd (upd H3 d (.lst (us++zs))) d (.lst (us++zs++[V.ref t]))):=tk.trans (s3.tupK.trans (tk4.trans tk5))
  lk
  refine W3 (tkA.sqT qt) (U7 (j:=2) rfl) ?_
  lk
  refine⟨e,_,us++zs++[V.ref t],acc++TX.runs z.cps.toList s' k++[TX.tagD z.cps.toList k f e],rfl,?_,tkA,A6,Dvs.append (Dvs.tupK tk5 _ _ fx2 dvb) (B4 (Dv.tupK tkA _ _ (xu1 _ _ _ _) dvx2) J7),by rw[wh0,fx2];simp[Q0,xu1],by omega,by omega,?_,c4,by rw[<-g5,TX.glue];simp,.inr ⟨_,_,_,rfl⟩⟩
  ·intro c u eq hc
   have nc:c≠d:=by simpa using hc
   rw[B7 nc,B7 nc]
   exact s3 _ _ (bt c u eq hc)
  ·by_cases hsk:s'<k
   ·simp only[List.length_append,List.length_singleton];omega
   ·have:(TX.runs z.cps.toList s' k).length=0:=by unfold TX.runs;rw[if_neg hsk];rfl
    simp only[List.length_append,List.length_singleton];omega
 ·rintro σ H' ⟨s',a,us,acc,rfl,bt,tk,hd',dva,fx,g1,g2,g3,g4,g5,g6⟩
  lk
  have e0:ts.drop uts.length=[]:=List.drop_eq_nil_of_le (by omega)
  rw[e0] at g5
  refine q d us H' acc s' (fun c u eq=>?_) hd hd' dva fx g1 g2 g3 g5 g6
  have nc:c≠d:=fun z=>by rw[z,hd] at eq;cases eq
  exact bt c u (sH c u eq) (by simpa using nc)
def qq1(K:Fg):Sp:=fun vs H Q _=>∃ z:Str,vs=[.str z]/\z.length<=100000/\∀ (p:Addr) (us:List V) (H':Hp),A7 H H'->H p=none->H' p=some (.lst us)->Dvs K H' (TX.toks z.cps.toList 0 0) us->Q (.ref p) H'
def qu7(K:Fg):TS :=
 (C0 (E9 (E2 (Y3 K) [] E0 (A2 (A3 0) (A2 (tC (.int 0)) (A2 (tC (.int 0)) B0)))) (B2 1))
 (C0 (E9 (tIf (L0 (tOp wv4 (tCB (O6 K) (A2 (A3 1) B0)) (tC (.int 0)))) (tOp (M7 K) (tOp (M7 K) (A3 1) (tUn (rU fun i=>.int (-i)) (tC (.int 1)))) (tC (.int 2))) (tC (.int 0))) (B2 2))
 (M0 (tOp (J0 K) (A3 1) (E2 (T0 K) [] E0 (A2 (A3 0) (A2 (A3 2) (A2 (tCB (O6 K) (A2 (A3 0) B0)) B0))))))))
theorem xu4(h:qq1 K vs H Q E):qu7 K {nx:=fun _ H'=>Q .non H',rt:=Q} (E8 ["text","tokens","settled"] vs) H:=by
 obtain⟨z,rfl,hz,q⟩:=h
 show qu7 K _ [some (.str z),none,none] H
 unfold qu7
 have hl:z.cps.toList.length=z.length:=Array.length_toList
 lk
 refine⟨z,0,0,rfl,Nat.le_refl _,Nat.zero_le _,hz,fun p1 us H1 acc s' s1 hp1 h1 dva fx g1 g2 g3 g5 g6=>?_⟩
 have ul:=dva.length
 lk
 refine Q3 (.inl (SqL.of h1)) ?_
 lk
 have last:∀ Q':VK,Q' (.int s') H1->(if decide ((0:Int)<us.length)=true then tOp (M7 K) (tOp (M7 K) (A3 1) (tUn (rU fun i=>.int (-i)) (tC (.int 1)))) (tC (.int 2)) [some (.str z),some (.ref p1),none] H1 Q' else tC (.int 0) [some (.str z),some (.ref p1),none] H1 Q'):=by
  intro Q' hQ
  rcases g6 with⟨rfl,rfl⟩|⟨acc0,k,f,rfl⟩
  ·have:us=[]:=List.length_eq_zero_iff.mp (by rw[ul];rfl)
   subst this
   rw[decide_eq_false (by simp)];refine Z2 ?_
   lk
   exact hQ
  ·have hlen:0<us.length:=by rw[ul,List.length_append,List.length_singleton];omega
   obtain⟨us0,x,rfl⟩:∃ us0 x,us=us0++[x]:=⟨us.dropLast,us.getLast (List.ne_nil_of_length_pos hlen),(List.dropLast_concat_getLast _).symm⟩
   rw[decide_eq_true (by omega)];refine qt4 ?_
   have l0:us0.length=acc0.length:=by
    rw[List.length_append,List.length_append,List.length_singleton,List.length_singleton] at ul;omega
   obtain⟨d',e1,dvx⟩:=Dvs.get' (i:=us0.length) (v:=x) dva (by simp)
   rw[l0] at e1
   have e1:TX.tagD z.cps.toList k f s'=d':=by simpa using e1
   subst e1
   obtain⟨t,vs4,rfl,qt,dv4⟩:=C7.mp (show Dv K H1 (.tuple [.str (if f=k+1 then "open" else "close"),.int k,.int s',.str (TX.ofL ((z.cps.toList.drop f).take (s'-1-f)))]) x from dvx)
   obtain⟨v1,r1,rfl,w1,dv4⟩:=(show ∃ v r,vs4=v::r/\_ from by rw[Dvs] at dv4;exact dv4)
   obtain⟨v2,r2,rfl,w2,dv4⟩:=(show ∃ v r,r1=v::r/\_ from by rw[Dvs] at dv4;exact dv4)
   obtain⟨v3,r3,rfl,w3,dv4⟩:=(show ∃ v r,r2=v::r/\_ from by rw[Dvs] at dv4;exact dv4)
   have w3:=O1.mp w3
   subst w3
   lk
   refine⟨1,rfl,?_⟩
   refine O0 (SqL.of h1) (yy2 _ _) ?_
   lk
   refine W3 qt (U7 (j:=2) rfl) ?_
   exact hQ
 refine last _ ?_
 lk
 refine xf6 (E1 hz) ?_
 lk
 refine xi0 g2 (Nat.le_refl _) hz fun p2 zs H2 s2 hp2 h2 dv2=>?_
 have rl:=yc8 z.cps.toList s' z.length
 have zl:zs.length=(TX.runs z.cps.toList s' z.length).length:=dv2.length
 lk
 refine xz5 (s2 _ _ h1) h2 (by rw[sizeLine_eq];omega) fun p hp=>?_
 have sA:A7 H2 (upd H2 p (.lst (us++zs))):=A7.new hp _
 refine q p (us++zs) _ (A7.tr s1 (A7.tr s2 sA)) (A7.free (A7.tr s1 s2) hp) A6 ?_
 rw[<-g5,hl]
 exact Dvs.same sA _ _ (Dvs.append (Dvs.same s2 _ _ dva) dv2)
def esc:List Nat->List Nat
 | []=>[]
 | c::l=>(if c=60 then TX.El else if c=38 then TX.Ea else[c])++esc l
theorem xd8(y:Nat)(Z:List Nat):∀ l:List Nat,TX.rep [y] Z 0 l=l.flatMap fun c=>if c=y then Z else[c]
 | []=>rfl
 | c::l=>by
   by_cases h:c=y
   ·subst h
    rw[TX.rep_yes (Y:=[c]) (l:=c::l) (by simp) ⟨l,rfl⟩]
    show Z++TX.rep [c] Z 0 l=_
    rw[xd8 c Z l]
    simp
   ·rw[TX.rep_no (by rintro⟨r,e⟩;injection e with e _;exact h e.symm),xd8 y Z l]
    simp[h]
theorem zm8(l:List Nat):TX.rep [60] TX.El 0 (TX.rep [38] TX.Ea 0 l)=esc l:=by
 rw[xd8,xd8]
 induction l with
 | nil=>rfl
 | cons c l ih =>
   rw[List.flatMap_cons,List.flatMap_append,ih,esc]
   congr 1
   by_cases h1:c=38
   ·subst h1;rfl
   ·by_cases h2:c=60
    ·subst h2;rfl
    ·simp[h1,h2]
def yv8(z:Str):Str:=⟨(esc z.cps.toList).toArray⟩
theorem zm9{w:Str}(h:w.cps.toList=esc z.cps.toList):w=yv8 z:=by rw[Y2,h];unfold yv8;simp
def opn(n:Str):Str := "<"++n ++ ">"
def cls(n:Str):Str := "</"++n ++ ">"
def qm1(K:Fg):Sp:=fun vs H Q _=>∃ n:Str,vs=[.str n]/\n.length<=4000/\Q (.str (opn n)) H
def qq2(K:Fg):TS :=
 (M0 (tFs ("<":Str) (">":Str) (A3 0)))
theorem xm4(h:qm1 K vs H Q E):qq2 K {nx:=fun _ H'=>Q .non H',rt:=Q} (E8 ["name"] vs) H:=by
 obtain⟨n,rfl,hn,q⟩:=h
 show qq2 K _ [some (.str n)] H
 unfold qq2
 lk
 exact⟨.str n,rfl,n,rfl,by omega,q⟩
def qm2(K:Fg):Sp:=fun vs H Q _=>∃ n:Str,vs=[.str n]/\n.length<=4000/\Q (.str (cls n)) H
def qq3(K:Fg):TS :=
 (M0 (tFs ("</":Str) (">":Str) (A3 0)))
theorem xm5(h:qm2 K vs H Q E):qq3 K {nx:=fun _ H'=>Q .non H',rt:=Q} (E8 ["name"] vs) H:=by
 obtain⟨n,rfl,hn,q⟩:=h
 show qq3 K _ [some (.str n)] H
 unfold qq3
 lk
 exact⟨.str n,rfl,n,rfl,by omega,q⟩
def wc1(K:Fg):Sp:=fun vs H Q _=>∃ z:Str,vs=[.str z]/\z.length<=30000/\Q (.str (yv8 z)) H
def wk1(K:Fg):TS :=
 (M0 (xp4 (xp4 (A3 0) ("&":Str) ("&a;":Str)) ("<":Str) ("&l;":Str)))
theorem yk6(h:wc1 K vs H Q E):wk1 K {nx:=fun _ H'=>Q .non H',rt:=Q} (E8 ["text"] vs) H:=by
 obtain⟨z,rfl,hz,q⟩:=h
 show wk1 K _ [some (.str z)] H
 unfold wk1
 lk
 refine⟨z,rfl,by omega,?_⟩
 have l1:=yc5 z "&" "&a;" (by decide)
 rw[show("&a;":Str).length=3 from rfl] at l1
 refine⟨_,rfl,by omega,?_⟩
 rw[zm9 (z:=z) (w:=PySem.Txt.replace (PySem.Txt.replace z "&" "&a;") "<" "&l;") (by rw[TX.replace_rep _ _ _ (by decide),TX.replace_rep _ _ _ (by decide)];exact zm8 _)]
 exact q
section
variable{kR kB r:Addr}{bv:V}{a:RAd}{st:Rst}{H':Hp}
theorem P9(x:BA)(as:List BA):fpA (x::as)=x.fp++fpA as:=by unfold fpA;rw[List.flatMap_cons]
theorem ql0.split{x:BA}(h:ql0 K H kB (m1++x::m2) (l1++b::l2))(hl:m1.length=l1.length):ql0 K H kB m1 l1/\BrO K H kB x b/\ql0 K H kB m2 l2:=by
 induction m1 generalizing l1 with
 | nil =>
   cases l1 with
   | nil=>cases h with|cons h1 h2=>exact⟨.nil,h1,h2⟩
   | cons=>simp at hl
 | cons y m1 ih =>
   cases l1 with
   | nil=>simp at hl
   | cons c l1 =>
     cases h with
     | cons h1 h2 =>
       obtain⟨h3,h4,h5⟩:=ih h2 (by simpa using hl)
       exact⟨.cons h1 h3,h4,h5⟩
theorem RdO.swap{x:BA}{b:Brn}(h:RdO K H kR kB r bv a st)(ea:a.as=m1++x::m2)(eb:st.bs=l1++b::l2)(hl:m1.length=l1.length)(bt:But x.fp H H')(hB:BrO K H' kB x' b')(hf:∀ z∈x'.fp,z∈x.fp\/H z=none)(hd:x'.fp.Nodup)(ho:x'.o=x.o) :
 RdO K H' kR kB r bv {a with as:=m1++x'::m2} {st with bs:=l1++b'::l2}:=by
 have hb:=h.b
 rw[ea,eb] at hb
 obtain⟨k1,k2,k3⟩:=hb.split hl
 have tk:T5 H H':=wr4 bt fun p hp=>h.mut p (by
  simp only[RAd.fp,List.mem_cons,ea,R0,P9,List.mem_append];exact .inr (.inr (.inr (.inr (.inr (.inl hp))))))
 obtain⟨a1,a2,a3,b1,b2,c1,d1,d2,d3,d4,e1⟩:=h.apart
 obtain⟨us,u1,u2⟩:=h.m
 obtain⟨vs,v1,v2⟩:=h.d
 rw[ea,R0,P9] at d1 d2 d3 d4 e1
 have nf:∀ z,z∉fpA m1++(x.fp++fpA m2)->z∉x.fp:=fun z h1 h2=>h1 (List.mem_append_right _ (List.mem_append_left _ h2))
 rw[List.nodup_append,List.nodup_append] at e1
 obtain⟨e2,⟨e3,e4,e5⟩,e6⟩:=e1
 have f1:∀ z∈fpA m1,z∉x.fp:=fun z hz hx=>e6 z hz z (List.mem_append_left _ hx) rfl
 have f2:∀ z∈fpA m2,z∉x.fp:=fun z hz hx=>e5 z hx z hz rfl
 have old:∀ z∈RAd.fp r a,H z≠none:=h.dom
 have ins:∀ z,z∈r::a.L::a.M::a.A::(fpA m1++(x.fp++fpA m2))->H z≠none:=fun z hz=>old z (by unfold RAd.fp;rw[ea,R0,P9];exact hz)
 have nx:∀ z,z∈r::a.L::a.M::a.A::(fpA m1++(x.fp++fpA m2))->z∉x.fp->z∉x'.fp:=fun z hz h1 h2=>(hf z h2).elim h1 (ins z hz)
 refine⟨h.kr,h.kb,bt _ _ h.o (nf _ d1),?_,(k1.but bt tk f1).app (.cons hB (k3.but bt tk f2)),⟨us,bt _ _ u1 (nf _ d3),Dvs.tupK tk _ _ (Q9 Mnd.fix _) u2⟩,⟨vs,bt _ _ v1 (nf _ d4),Dvs.tupK tk _ _ (Q9 Lad.fix _) v2⟩,?_⟩
 ·have:=bt _ _ h.l (nf _ d2)
  show H' a.L=_
  rw[this,ea]
  simp[ho]
 ·show(r::a.L::a.M::a.A::fpA (m1++x'::m2)).Nodup
  rw[R0,P9]
  have g:∀ z,z∈r::a.L::a.M::a.A::(fpA m1++(x.fp++fpA m2))->z∉fpA m1++(x.fp++fpA m2)->z∉fpA m1++(x'.fp++fpA m2):=fun z hz h1 h2=>by
   rcases List.mem_append.mp h2 with h3|h3
   ·exact h1 (List.mem_append_left _ h3)
   ·rcases List.mem_append.mp h3 with h4|h4
    ·exact nx z hz (nf z h1) h4
    ·exact h1 (List.mem_append_right _ (List.mem_append_right _ h4))
  simp only[List.nodup_cons,List.mem_cons,not_or]
  refine⟨⟨a1,a2,a3,g _ (by simp) d1⟩,⟨b1,b2,g _ (by simp) d2⟩,⟨c1,g _ (by simp) d3⟩,g _ (by simp) d4,?_⟩
  rw[List.nodup_append,List.nodup_append]
  refine⟨e2,⟨hd,e4,fun p hp q hq e=>?_⟩,fun p hp q hq e=>?_⟩
  ·subst e
   exact nx p (by simp[hq]) (f2 p hq) hp
  ·subst e
   rcases List.mem_append.mp hq with h4|h4
   ·exact nx p (by simp[hp]) (f1 p hp) h4
   ·exact e6 p hp p (List.mem_append_right _ h4) rfl
theorem ze9{x:BA}{z:Addr}(ea:a.as=m1++x::m2)(hz:z∈x.fp):z∈RAd.fp r a:=by
 simp only[RAd.fp,List.mem_cons,ea,R0,P9,List.mem_append];exact .inr (.inr (.inr (.inr (.inr (.inl hz)))))
theorem Rup.swap{x:BA}(h:RdO K H kR kB r bv a st)(ea:a.as=m1++x::m2)(eb:st.bs=l1++b::l2)(hl:m1.length=l1.length)(bt:But x.fp H H')(hB:BrO K H' kB x' b')(hf:∀ z∈x'.fp,z∈x.fp\/H z=none)(hd:x'.fp.Nodup)(ho:x'.o=x.o) :
 Rup K kR kB r bv H a H' {a with as:=m1++x'::m2} {st with bs:=l1++b'::l2}:=by
 refine⟨h.swap ea eb hl bt hB hf hd ho,fun c o e n=>bt c o e fun hc=>n (ze9 ea hc),fun z hz=>?_⟩
 simp only[RAd.fp,R0,P9,List.mem_cons,List.mem_append] at hz
 rcases hz with h1|h1|h1|h1|h1|h1|h1
 ·exact .inl (by simp[RAd.fp,h1])
 ·exact .inl (by simp[RAd.fp,h1])
 ·exact .inl (by simp[RAd.fp,h1])
 ·exact .inl (by simp[RAd.fp,h1])
 ·exact .inl (by simp[RAd.fp,ea,R0,h1])
 ·exact(hf z h1).imp (fun h=>ze9 ea h) id
 ·exact .inl (by simp[RAd.fp,ea,R0,P9,h1])
theorem RdO.pop{x:BA}{b:Brn}(h:RdO K H kR kB r bv a st)(ea:a.as=m1++[x])(eb:st.bs=l1++[b])(hl:m1.length=l1.length) :
 RdO K (upd H a.L (.lst (m1.map fun z=>V.ref z.o))) kR kB r bv {a with as:=m1} {st with bs:=l1}/\BrO K (upd H a.L (.lst (m1.map fun z=>V.ref z.o))) kB x b:=by
 have hb:=h.b
 rw[ea,eb] at hb
 obtain⟨k1,k2,_⟩:=hb.split hl
 obtain⟨a1,a2,a3,b1,b2,c1,d1,d2,d3,d4,e1⟩:=h.apart
 obtain⟨us,u1,u2⟩:=h.m
 obtain⟨vs,v1,v2⟩:=h.d
 have tk:T5 H (upd H a.L (.lst (m1.map fun z=>V.ref z.o))):=N7 (.inl ⟨_,h.l⟩)
 rw[ea,R0,P9] at d1 d2 d3 d4 e1
 have nL:∀ z∈fpA m1,z∉[a.L]:=fun z hz e=>d2 (by rw[List.mem_singleton.mp e] at hz;exact List.mem_append_left _ hz)
 have nL2:∀ z∈x.fp,z∉[a.L]:=fun z hz e=>d2 (by rw[List.mem_singleton.mp e] at hz;exact List.mem_append_right _ (List.mem_append_left _ hz))
 refine⟨⟨h.kr,h.kb,by rw[B7 a1];exact h.o,A6,k1.but But.upd1 tk nL,⟨us,by rw[B7 (Ne.symm b1)];exact u1,Dvs.tupK tk _ _ (Q9 Mnd.fix _) u2⟩,⟨vs,by rw[B7 (Ne.symm b2)];exact v1,Dvs.tupK tk _ _ (Q9 Lad.fix _) v2⟩,?_⟩,k2.but But.upd1 tk nL2⟩
 have:=h.nd
 unfold RAd.fp at this ⊢
 rw[ea,R0] at this
 exact this.sublist (by
  refine List.Sublist.cons_cons _ (List.Sublist.cons_cons _ (List.Sublist.cons_cons _ (List.Sublist.cons_cons _ ?_)))
  exact List.sublist_append_left _ _)
theorem RdO.as_split{b:Brn}(h:RdO K H kR kB r bv a st)(eb:st.bs=l1++b::l2):∃ m1 x m2,a.as=m1++x::m2/\m1.length=l1.length/\BrO K H kB x b:=by
 have hb:=h.b
 rw[eb] at hb
 have hn:=hb.len
 rw[List.length_append,List.length_cons] at hn
 have e:a.as=a.as.take l1.length++a.as[l1.length]'(by omega)::a.as.drop (l1.length+1):=by
  rw[List.getElem_cons_drop,List.take_append_drop]
 have hl:(a.as.take l1.length).length=l1.length:=by rw[List.length_take];omega
 rw[e] at hb
 exact⟨_,_,_,e,hl,(hb.split hl).2.1⟩
def BkO(K:Fg)(H:Hp)(v:V)(rs:List Row):Prop:=∃ p vs,v=.ref p/\SqT K H p vs/\Dvs K H (rs.map Row.da) vs
theorem BkO.rws(h:BkO K H v rs):Rws K H v rs:=by
 obtain⟨p,vs,rfl,h1,h2⟩:=h
 exact⟨p,vs,rfl,.inr h1,h2⟩
theorem BkO.tupK(h:BkO K H v rs)(tk:T5 H H'):BkO K H' v rs:=by
 obtain⟨p,vs,rfl,h1,h2⟩:=h
 exact⟨p,vs,rfl,tk.sqT h1,Dvs.tupK tk _ _ (yb7 rs) h2⟩
theorem BkO.same(h:BkO K H v rs)(s:A7 H H'):BkO K H' v rs:=h.tupK s.tupK
end
theorem zv9(v:V):qm6 ("book":Str) v []=[(("book":Str),v)]:=rfl
theorem zw0(n v:V):qm6 ("branches":Str) v [(("book":Str),n)]=[(("book":Str),n),(("branches":Str),v)]:=by
 show(if(("book":Str)) = "branches" then _ else _)=_
 rw[if_neg (by decide)];rfl
theorem zw1(n p v:V):qm6 ("mends":Str) v [(("book":Str),n),(("branches":Str),p)]=[(("book":Str),n),(("branches":Str),p),(("mends":Str),v)]:=by
 show(if(("book":Str)) = "mends" then _ else _::(if(("branches":Str)) = "mends" then _ else _))=_
 rw[if_neg (by decide),if_neg (by decide)];rfl
theorem zw2(n p q v:V):qm6 ("laid":Str) v [(("book":Str),n),(("branches":Str),p),(("mends":Str),q)]=[(("book":Str),n),(("branches":Str),p),(("mends":Str),q),(("laid":Str),v)]:=by
 show(if(("book":Str)) = "laid" then _ else _::(if(("branches":Str)) = "laid" then _ else _::(if(("mends":Str)) = "laid" then _ else _)))=_
 rw[if_neg (by decide),if_neg (by decide),if_neg (by decide)];rfl
theorem BrO.upd{p:Addr}{o:HO}{a:BA}(h:BrO K H kB a b)(hp:xg7 H p\/H p=none)(hn:p∉a.fp):BrO K (upd H p o) kB a b :=
 h.but But.upd1 (hp.elim N7 fun e=>(A7.new e o).tupK) fun z hz e=>hn (by rw[List.mem_singleton.mp e] at hz;exact hz)
theorem J5{q:Addr}(h:H q=some u)(n:q≠p):upd H p o q=some u:=by rw[B7 n];exact h
theorem Y4{q:Addr}(h:H p=none)(e:H q=some u):q≠p:=fun z=>by rw[z,h] at e;cases e
theorem xu5(b:But ps H H')(hp:p∈ps\/H p=none):But ps H (upd H' p o):=fun z u e n=>by
 rw[B7 (fun y=>hp.elim (fun h=>n (by rw[y];exact h)) fun h=>by rw[y,h] at e;cases e)];exact b z u e n
abbrev qu8(K:Fg)(k_Branch:Addr):TS :=
 (C0 (wf2 K (A3 0) (qd5 (A2 (xy3 k_Branch (V6 K) [] E0 (A2 (tC (.str "")) (A2 (M2 B0) B0))) B0)) "branches")
 (C0 (wf2 K (A3 0) (qd5 B0) "mends")
 (wf2 K (A3 0) (qd5 B0) "laid")))
def qa5(K:Fg):Sp:=fun vs H Q _=>∃ (kR r x:Addr) (bv:V),vs=[.ref r,bv]/\PySem.W.nsIn K mainGlobals "Reader"=some (some (.ref kR))/\H r=some (.ins kR x [])/\∀ (kB:Addr) (a:RAd) (H':Hp),RdO K H' kR kB r bv a ⟨[⟨"",[],[],[]⟩],[],[]⟩->But [r] H H'->(∀ z∈RAd.fp r a,z=r\/H z=none)->C2 H H'->Q .non H'
def qf1(K:Fg)(k_Branch:Addr):TS :=
 (C0 (wf2 K (A3 0) (A3 1) "book")
 (qu8 K k_Branch))
theorem wx4(cz:Cz K k_Branch k_Reader)(h:qa5 K vs H Q E):qf1 K k_Branch {nx:=fun _ H'=>Q .non H',rt:=Q} (E8 ["self","book"] vs) H:=by
 obtain⟨kR,r,x,bv,rfl,hkR,hr,q⟩:=h
 obtain rfl:=N6 cz.ns_Reader hkR
 show qf1 K _ _ [some (.ref r),some bv] H
 unfold qf1
 have c:=cz.cl_Reader
 refine qg3 (ql7 ?_)
 lk
 refine⟨r,_,x,_,rfl,hr,c,cz.na_Reader_book,by simp,?_⟩
 rw[zv9]
 have bt1:But [r] H (upd H r (.ins k_Reader x [(("book":Str),bv)])):=But.upd1
 have g1:C2 H (upd H r (.ins k_Reader x [(("book":Str),bv)])):=C2.upd
 have e1:(upd H r (.ins k_Reader x [(("book":Str),bv)])) r=_:=A6
 generalize upd H r (.ins k_Reader x [(("book":Str),bv)])=H1 at *
 show qu8 K _ _ _ _
 refine qg3 (ql7 ?_)
 lk
 refine xt0 ?_
 lk
 refine⟨E1 (by z_go),fun p hp=>?_⟩
 have e2:=J5 (o:=.tup []) e1 (Y4 hp e1)
 have bt2:But [r] H (upd H1 p (.tup [])):=xu5 bt1 (.inr (g1 _ hp))
 have g2:C2 H (upd H1 p (.tup [])):=C2.tr g1 C2.upd
 have ep:SqT K (upd H1 p (.tup [])) p []:=SqT.of A6
 generalize upd H1 p (.tup [])=H2 at *
 lk
 intro o dx ho hdx ne
 have nor:r≠o:=Y4 ho e2
 have e3:(upd (upd H2 dx (.own o)) o (.ins k_Branch dx [])) r=_:=J5 (J5 e2 (Y4 hdx e2)) nor
 have bt3:But [r] H (upd (upd H2 dx (.own o)) o (.ins k_Branch dx [])):=xu5 (xu5 bt2 (.inr (g2 _ hdx))) (.inr (g2 _ ho))
 have g3:C2 H (upd (upd H2 dx (.own o)) o (.ins k_Branch dx [])):=C2.tr g2 (C2.tr C2.upd C2.upd)
 have s3:A7 H2 (upd (upd H2 dx (.own o)) o (.ins k_Branch dx [])):=fun z u e=>J5 (J5 e (Y4 hdx e)) (Y4 ho e)
 have eo:(upd (upd H2 dx (.own o)) o (.ins k_Branch dx [])) o=some (.ins k_Branch dx []):=A6
 generalize upd (upd H2 dx (.own o)) o (.ins k_Branch dx [])=H3 at *
 refine⟨k_Branch,o,dx,p, "",[],rfl,cz.ns_Branch,eo,s3.sqT ep,fun qq ww H4 hq hw hqw bt hB g4=>⟨rfl,?_⟩⟩
 have e4:H4 r=_:=bt _ _ e3 (by simp[nor])
 have bt4:But [r] H H4:=fun z u e n=>bt z u (bt3 z u e n) (by simp;intro y;rw[y] at e;have:=g2 _ ho;rw[e] at this;cases this)
 have g4':C2 H H4:=C2.tr g3 g4
 have nrq:r≠qq:=Y4 hq e3
 have nrw:r≠ww:=Y4 hw e3
 have noq:o≠qq:=Y4 hq eo
 have now:o≠ww:=Y4 hw eo
 have fp:BA.fp ⟨o,dx,p,qq,ww⟩=[o,qq,ww]:=rfl
 lk
 refine⟨E1 (by z_go),fun L hL=>?_⟩
 lk
 have nL:L∉BA.fp ⟨o,dx,p,qq,ww⟩:=fun hz=>by
  rcases(ql0.cons hB .nil).mut L (by rw[P9];exact List.mem_append_left _ hz) with⟨xs,e⟩|⟨C,d,fs,e⟩ <;> rw[hL] at e <;> cases e
 have hB5:=hB.upd (o:=.lst [.ref o]) (.inr hL) nL
 have e5:=J5 (o:=.lst [.ref o]) e4 (Y4 hL e4)
 have eL5:(upd H4 L (.lst [.ref o])) L=_:=A6
 have bt5:But [r] H (upd H4 L (.lst [.ref o])):=xu5 bt4 (.inr (g4' _ hL))
 have g5:C2 H (upd H4 L (.lst [.ref o])):=C2.tr g4' C2.upd
 have hLr:r≠L:=Y4 hL e4
 have hL0:=g4' _ hL
 generalize upd H4 L (.lst [.ref o])=H5 at *
 refine⟨r,_,x,_,rfl,e5,c,cz.na_Reader_branches,by simp,?_⟩
 rw[zw0]
 have nr:r∉BA.fp ⟨o,dx,p,qq,ww⟩:=by rw[fp];simp[nor,nrq,nrw]
 have hB6:=hB5.upd (o:=.ins k_Reader x [(("book":Str),bv),(("branches":Str),.ref L)]) (.inl (.inr ⟨_,_,_,e5⟩)) nr
 have e6:(upd H5 r (.ins k_Reader x [(("book":Str),bv),(("branches":Str),.ref L)])) r=_:=A6
 have eL6:=J5 (o:=.ins k_Reader x [(("book":Str),bv),(("branches":Str),.ref L)]) eL5 (Ne.symm hLr)
 have bt6:But [r] H (upd H5 r (.ins k_Reader x [(("book":Str),bv),(("branches":Str),.ref L)])):=xu5 bt5 (.inl (by simp))
 have g6:C2 H (upd H5 r (.ins k_Reader x [(("book":Str),bv),(("branches":Str),.ref L)])):=C2.tr g5 C2.upd
 generalize upd H5 r (.ins k_Reader x [(("book":Str),bv),(("branches":Str),.ref L)])=H6 at *
 show C0 (wf2 K (A3 0) (qd5 B0) "mends") _ _ _ _
 refine qg3 (ql7 ?_)
 lk
 refine⟨E1 (by z_go),fun M hM=>?_⟩
 lk
 have nM:M∉BA.fp ⟨o,dx,p,qq,ww⟩:=fun hz=>by
  rcases(ql0.cons hB6 .nil).mut M (by rw[P9];exact List.mem_append_left _ hz) with⟨xs,e⟩|⟨C,d,fs,e⟩ <;> rw[hM] at e <;> cases e
 have hB7:=hB6.upd (o:=.lst []) (.inr hM) nM
 have hMr:r≠M:=Y4 hM e6
 have hML:L≠M:=Y4 hM eL6
 have hM0:=g6 _ hM
 refine⟨r,_,x,_,rfl,J5 e6 hMr,c,cz.na_Reader_mends,by simp,?_⟩
 rw[zw1]
 have e8:(upd (upd H6 M (.lst [])) r (.ins k_Reader x [(("book":Str),bv),(("branches":Str),.ref L),(("mends":Str),.ref M)])) r=_:=A6
 have eL8:=J5 (o:=.ins k_Reader x [(("book":Str),bv),(("branches":Str),.ref L),(("mends":Str),.ref M)]) (J5 (o:=.lst []) eL6 hML) (Ne.symm hLr)
 have eM8:=J5 (o:=.ins k_Reader x [(("book":Str),bv),(("branches":Str),.ref L),(("mends":Str),.ref M)]) (A6 (H:=H6) (a:=M) (o:=.lst [])) (Ne.symm hMr)
 have hB8:=hB7.upd (o:=.ins k_Reader x [(("book":Str),bv),(("branches":Str),.ref L),(("mends":Str),.ref M)]) (.inl (.inr ⟨_,_,_,J5 e6 hMr⟩)) nr
 have bt8:But [r] H (upd (upd H6 M (.lst [])) r (.ins k_Reader x [(("book":Str),bv),(("branches":Str),.ref L),(("mends":Str),.ref M)])):=xu5 (xu5 bt6 (.inr hM0)) (.inl (by simp))
 have g8:C2 H (upd (upd H6 M (.lst [])) r (.ins k_Reader x [(("book":Str),bv),(("branches":Str),.ref L),(("mends":Str),.ref M)])):=C2.tr g6 (C2.tr C2.upd C2.upd)
 generalize upd (upd H6 M (.lst [])) r (.ins k_Reader x [(("book":Str),bv),(("branches":Str),.ref L),(("mends":Str),.ref M)])=H8 at *
 show wf2 K (A3 0) (qd5 B0) "laid" _ _ _
 refine ql7 ?_
 lk
 refine⟨E1 (by z_go),fun A hA=>?_⟩
 lk
 have nA:A∉BA.fp ⟨o,dx,p,qq,ww⟩:=fun hz=>by
  rcases(ql0.cons hB8 .nil).mut A (by rw[P9];exact List.mem_append_left _ hz) with⟨xs,e⟩|⟨C,d,fs,e⟩ <;> rw[hA] at e <;> cases e
 have hB9:=hB8.upd (o:=.lst []) (.inr hA) nA
 have hAr:r≠A:=Y4 hA e8
 have hAL:L≠A:=Y4 hA eL8
 have hAM:M≠A:=Y4 hA eM8
 have hA0:=g8 _ hA
 refine⟨r,_,x,_,rfl,J5 e8 hAr,c,cz.na_Reader_laid,by simp,?_⟩
 rw[zw2]
 have hB10:=hB9.upd (o:=.ins k_Reader x [(("book":Str),bv),(("branches":Str),.ref L),(("mends":Str),.ref M),(("laid":Str),.ref A)]) (.inl (.inr ⟨_,_,_,J5 e8 hAr⟩)) nr
 refine q k_Branch ⟨x,L,M,A,[⟨o,dx,p,qq,ww⟩]⟩ _ ⟨cz.ns_Reader,cz.ns_Branch,A6,J5 (J5 eL8 hAL) (Ne.symm hLr),.cons hB10 .nil,⟨[],J5 (J5 eM8 hAM) (Ne.symm hMr),J7⟩,⟨[],J5 A6 (Ne.symm hAr),J7⟩,?_⟩ (xu5 (xu5 bt8 (.inr hA0)) (.inl (by simp))) ?_ (C2.tr g8 (C2.tr C2.upd C2.upd))
 ·show(r::L::M::A::fpA [⟨o,dx,p,qq,ww⟩]).Nodup
  have ef:fpA [⟨o,dx,p,qq,ww⟩]=[o,qq,ww]:=rfl
  rw[fp] at nL nM nA
  simp only[List.mem_cons,List.not_mem_nil,or_false,not_or] at nL nM nA
  rw[ef]
  simp[hLr,hMr,hAr,nor,nrq,nrw,hML,hAL,hAM,nL.1,nL.2.1,nL.2.2,nM.1,nM.2.1,nM.2.2,nA.1,nA.2.1,nA.2.2,noq,now,hqw]
 ·intro z hz
  have hz':z∈r::L::M::A::[o,qq,ww]:=hz
  simp only[List.mem_cons,List.not_mem_nil,or_false] at hz'
  rcases hz' with h1|h1|h1|h1|h1|h1|h1
  ·exact .inl h1
  ·exact .inr (h1▸hL0)
  ·exact .inr (h1▸hM0)
  ·exact .inr (h1▸hA0)
  ·exact .inr (h1▸g2 _ ho)
  ·exact .inr (h1▸g3 _ hq)
  ·exact .inr (h1▸g3 _ hw)
theorem wx5(h:0<=m):qn3 xs (some m) none=xs.drop m.toNat:=by
 unfold qn3
 have e:HT.sIx xs.length 0 (some m)=min m.toNat xs.length:=by
  show(if m<0 then _ else min m.toNat xs.length)=_
  rw[if_neg (by omega)]
 show(xs.drop (HT.sIx xs.length 0 (some m))).take (xs.length-HT.sIx xs.length 0 (some m))=_
 rw[e]
 by_cases hl:m.toNat<=xs.length
 ·rw[Nat.min_eq_left hl,List.take_of_length_le (by rw[List.length_drop];exact Nat.le_refl _)]
 ·rw[Nat.min_eq_right (by omega),List.drop_length,List.drop_eq_nil_of_le (by omega),List.take_nil]
theorem qo5{l:List α}{i:Nat}{x:α}(h:l[i]?=some x):l.take (i+1)=l.take i++[x]:=by rw[List.take_succ,h];rfl
theorem zf0{x:α}{xs:List α}:atI (x::xs) 0=some x:=by
 have:atI (x::xs) ((0:Nat):Int)=some x:=U7 rfl
 exact this
section
variable{kB:Addr}
theorem ql0.get{bs:List Brn}{i:Nat}{x:BA}(h:ql0 K H kB as bs)(e:as[i]?=some x):∃ b,bs[i]?=some b/\BrO K H kB x b:=by
 induction h generalizing i with
 | nil=>simp at e
 | cons h1 _ ih =>
   cases i with
   | zero=>simp at e;subst e;exact⟨_,rfl,h1⟩
   | succ i=>exact ih (by simpa using e)
end
def qa6(K:Fg):Sp:=fun vs H Q _=>∃ (kR kB r:Addr) (bv:V) (a:RAd) (st:Rst) (b0:Brn) (bs:List Brn),vs=[.ref r]/\RdO K H kR kB r bv a st/\st.bs=b0::bs/\∀ (v:V) (H':Hp),A7 H H'->Dv K H' (Tr.nd "" b0.ps).da v->Q v H'
def qf2(K:Fg):TS :=
 (M0 (M2 (A2 (tC (.str "")) (A2 (tCB (qp1 K) (A2 (T3 K (tOp (M7 K) (T3 K (A3 0) "branches") (tC (.int 0))) "parts") B0)) B0))))
theorem wx6(cz:Cz K k_Branch k_Reader)(h:qa6 K vs H Q E):qf2 K {nx:=fun _ H'=>Q .non H',rt:=Q} (E8 ["self"] vs) H:=by
 obtain⟨kR,kB,r,bv,a,st,b0,bs,rfl,h,eb,q⟩:=h
 obtain rfl:=N6 cz.ns_Reader h.kr
 obtain rfl:=N6 cz.ns_Branch h.kb
 show qf2 K _ [some (.ref r)] H
 unfold qf2
 obtain⟨m1,x,m2,ea,hm,hx⟩:=h.as_split (l1:=[]) eb
 obtain rfl:=List.eq_nil_of_length_eq_zero hm
 obtain⟨us,q1,q2⟩:=hx.q
 lk
 refine J9 ?_
 lk
 refine J9 ?_
 lk
 refine⟨r,_,a.x,_,_,rfl,h.o,cz.cl_Reader,cz.na_Reader_branches,rfl,?_⟩
 lk
 refine O0 (SqL.of h.l) (v:=.ref x.o) (by rw[ea];exact zf0) ?_
 refine⟨x.o,_,x.x,_,_,rfl,hx.o,cz.cl_Branch,cz.na_Branch_parts,rfl,?_⟩
 lk
 refine⟨_,_,rfl,.inl ⟨SqL.of q1,fun l hl=>?_⟩⟩
 lk
 refine⟨E1 (by z_go),fun p hp=>?_⟩
 have s1:=A7.new hl (.tup us)
 have s2:=A7.new hp (.tup [.str "",.ref l])
 refine q _ _ (A7.tr s1 s2) (yb4 (SqT.of A6) (s2.sqT (SqT.of A6)) (Dvs.same (A7.tr s1 s2) _ _ q2))
def I0(K:Fg):Sp:=fun vs H Q _=>∃ (kR kB r:Addr) (bv:V) (a:RAd) (st:Rst) (b0:Brn) (bs:List Brn),vs=[.ref r]/\RdO K H kR kB r bv a st/\st.bs=b0::bs/\bs.length<=1000/\∀ (p:Addr) (H':Hp),A7 H H'->SqT K H' p (C1 (bs.map Brn.n))->Q (.ref p) H'
def R3(K:Fg):TS :=
 (M0 (tCB (qp1 K) (A2 (wl7 [none] (wf8 K (tSl (wq8 K) (T3 K (A3 0) "branches") (Z4 (tC (.int 1))) qh1)) (B2 0) tTT (T3 K (A3 0) "name")) B0)))
theorem wc2(cz:Cz K k_Branch k_Reader)(h:I0 K vs H Q E):R3 K {nx:=fun _ H'=>Q .non H',rt:=Q} (E8 ["self"] vs) H:=by
 obtain⟨kR,kB,r,bv,a,st,b0,bs,rfl,h,eb,hl,q⟩:=h
 obtain rfl:=N6 cz.ns_Reader h.kr
 obtain rfl:=N6 cz.ns_Branch h.kb
 show R3 K _ [some (.ref r)] H
 unfold R3
 obtain⟨m1,x,m2,ea,hm,hx⟩:=h.as_split (l1:=[]) eb
 obtain rfl:=List.eq_nil_of_length_eq_zero hm
 have hb:=h.b
 rw[ea,eb] at hb
 obtain⟨_,_,hb2⟩:=hb.split (m1:=[]) (l1:=[]) rfl
 have hbl:=hb2.len
 lk
 refine J9 ?_
 lk
 refine⟨r,_,a.x,_,_,rfl,h.o,cz.cl_Reader,cz.na_Reader_branches,rfl,?_⟩
 lk
 refine yo2 (SqL.of h.l) fun p hp=>?_
 have ecut:qn3 (a.as.map fun z=>V.ref z.o) (some 1) none=m2.map fun z=>V.ref z.o:=by
  rw[wx5 (by decide),ea];rfl
 rw[ecut]
 have s1:=A7.new hp (.lst (m2.map fun z=>V.ref z.o))
 have e1:(upd H p (.lst (m2.map fun z=>V.ref z.o))) p=_:=A6
 generalize upd H p (.lst (m2.map fun z=>V.ref z.o))=H1 at *
 refine xz3 (.inl (SqL.of e1)) (fun i ys H'=>H'=H1/\ys=C1 ((bs.take i).map Brn.n)) ⟨rfl,rfl⟩ ?_ ?_ ?_ ?_ ?_
 ·rintro i ys H' hi ⟨_,rfl⟩
  rw[C3,List.length_map,List.length_take]
  exact E1 (by omega)
 ·rintro _ i ys H' _ ⟨rfl,_⟩;exact SqL.of e1
 ·rintro hq i ys H' _ ⟨rfl,_⟩;exact hq
 ·rintro i v ys H' hi ⟨rfl,rfl⟩
  rw[List.getElem?_map] at hi
  obtain⟨z,hz,rfl⟩:=Option.map_eq_some_iff.mp hi
  obtain⟨c,hc,hB⟩:=hb2.get hz
  refine L3 ?_
  lk
  refine J9 ?_
  lk
  refine⟨z.o,_,z.x,_,_,rfl,s1 _ _ hB.o,cz.cl_Branch,cz.na_Branch_name,rfl,?_⟩
  refine⟨rfl,?_⟩
  rw[wg6,qo5 hc,List.map_append];rfl
 ·rintro ys H' ⟨rfl,rfl⟩ l hl2
  have en:bs.take (m2.map fun z=>V.ref z.o).length=bs:=by rw[List.length_map,hbl];exact List.take_length
  rw[en]
  have s2:=A7.new hl2 (.lst (C1 (bs.map Brn.n)))
  lk
  refine⟨_,_,rfl,.inl ⟨SqL.of A6,fun w hw=>?_⟩⟩
  lk
  exact q _ _ (A7.tr (A7.tr s1 s2) (A7.new hw _)) (SqT.of A6)
abbrev qr9(K:Fg):TS :=
 (L7 (tBM K "list" N2 (T3 K (tOp (M7 K) (T3 K (A3 0) "branches") (tUn (rU fun i=>.int (-i)) (tC (.int 1)))) "parts") (A2 (M2 (A2 (T3 K (A3 1) "name") (A2 (tCB (qp1 K) (A2 (T3 K (A3 1) "parts") B0)) B0))) B0)))
def P4(K:Fg):Sp:=fun vs H Q _=>∃ (kR kB r:Addr) (bv:V) (a:RAd) (st:Rst) (bs:List Brn) (b1 b2:Brn),vs=[.ref r]/\RdO K H kR kB r bv a st/\st.bs=bs++[b1,b2]/\b1.ps.length<=9000000/\∀ a' H',Rup K kR kB r bv H a H' a' {st with bs:=bs++[{b1 with ps:=b1.ps++[Tr.nd b2.n b2.ps]}]}->C2 H H'->Q .non H'
def qa7(K:Fg):TS :=
 (C0 (E9 (yy6 K "list" yy7 (T3 K (A3 0) "branches")) (B2 1))
 (qr9 K))
theorem ws6(cz:Cz K k_Branch k_Reader)(h:P4 K vs H Q E):qa7 K {nx:=fun _ H'=>Q .non H',rt:=Q} (E8 ["self","branch"] vs) H:=by
 obtain⟨kR,kB,r,bv,a,st,bs,b1,b2,rfl,h,eb,hl,q⟩:=h
 obtain rfl:=N6 cz.ns_Reader h.kr
 obtain rfl:=N6 cz.ns_Branch h.kb
 show qa7 K _ [some (.ref r),none] H
 unfold qa7
 have eb2:st.bs=(bs++[b1])++b2::[]:=by rw[eb];simp
 obtain⟨m,y,m3,ea,hm,hy⟩:=h.as_split eb2
 have hn:=h.b.len
 rw[ea,eb2] at hn
 simp only[List.length_append,List.length_cons,List.length_nil] at hn hm
 obtain rfl:m3=[]:=List.eq_nil_of_length_eq_zero (by omega)
 have hm':m.length=(bs++[b1]).length:=by simp[hm]
 obtain⟨h1,hy1⟩:=h.pop ea eb2 hm'
 have bt1:But (RAd.fp r a) H (upd H a.L (.lst (m.map fun z=>V.ref z.o))):=fun z u e n=>J5 e fun y=>n (by rw[y];simp[RAd.fp])
 have hL:=h.l
 rw[ea,List.map_append] at hL
 have g1:C2 H (upd H a.L (.lst (m.map fun z=>V.ref z.o))):=C2.upd
 have fy:∀ z∈y.fp,z∉fpA m:=fun z hz hx=>by
  have:=h.apart.2.2.2.2.2.2.2.2.2.2
  rw[ea,R0,List.nodup_append] at this
  exact this.2.2 z hx z (by rw[P9];exact List.mem_append_left _ hz) rfl
 have fr1:∀ z∈RAd.fp r {a with as:=m},z∈RAd.fp r a:=fun z hz=>by
  simp only[RAd.fp,List.mem_cons,ea,R0,List.mem_append] at hz ⊢
  rcases hz with h|h|h|h|h
  ·exact .inl h
  ·exact .inr (.inl h)
  ·exact .inr (.inr (.inl h))
  ·exact .inr (.inr (.inr (.inl h)))
  ·exact .inr (.inr (.inr (.inr (.inl h))))
 lk
 refine J9 ?_
 lk
 refine⟨r,_,a.x,_,_,rfl,h.o,cz.cl_Reader,cz.na_Reader_branches,rfl,?_⟩
 lk
 refine⟨.inl ⟨rfl,_,SqL.of hL⟩,?_⟩
 refine zc1 hL ?_
 generalize upd H a.L (.lst (m.map fun z=>V.ref z.o))=H1 at *
 lk
 show qr9 K _ _ _
 have e1:({st with bs:=bs++[b1]}:Rst).bs=bs++b1::[]:=rfl
 obtain⟨m1,x,m2,ea2,hm2,hx⟩:=h1.as_split e1
 have ea2':m=m1++x::m2:=ea2
 obtain rfl:m2=[]:=List.eq_nil_of_length_eq_zero (by have:=congrArg List.length ea2';simp at this;omega)
 obtain⟨us,q1,q2⟩:=hx.q
 obtain⟨ws,p1,p2⟩:=hy1.q
 have hul:=wj2 q2
 have h1l:H1 a.L=_:=h1.l
 have h1o:H1 r=_:=h1.o
 lk
 refine J9 ?_
 lk
 refine J9 ?_
 lk
 refine⟨r,_,a.x,_,_,rfl,h1o,cz.cl_Reader,cz.na_Reader_branches,rfl,?_⟩
 lk
 refine⟨1,rfl,?_⟩
 refine O0 (SqL.of h1l) (v:=.ref x.o) (ql8 (n:=m1.length) (by show(m.map _).length=_;rw[ea2'];simp) (by show(m.map _)[_]?=_;rw[ea2'];simp)) ?_
 refine⟨x.o,_,x.x,_,_,rfl,hx.o,cz.cl_Branch,cz.na_Branch_parts,rfl,?_⟩
 lk
 refine⟨.inl ⟨rfl,_,SqL.of q1⟩,?_⟩
 lk
 refine J9 ?_
 lk
 refine⟨y.o,_,y.x,_,_,rfl,hy1.o,cz.cl_Branch,cz.na_Branch_name,rfl,?_⟩
 lk
 refine J9 ?_
 lk
 refine⟨y.o,_,y.x,_,_,rfl,hy1.o,cz.cl_Branch,cz.na_Branch_parts,rfl,?_⟩
 lk
 refine⟨_,_,rfl,.inl ⟨SqL.of p1,fun l hl=>?_⟩⟩
 lk
 refine⟨E1 (by z_go),fun p hp=>?_⟩
 have s2:=A7.new hl (.tup ws)
 have s3:=A7.new hp (.tup [.str b2.n,.ref l])
 have s23:=A7.tr s2 s3
 have dt:Dv K _ (Tr.nd b2.n b2.ps).da (.ref p):=yb4 (SqT.of (A6 (H:=upd H1 l (.tup ws)) (a:=p) (o:=.tup [.str b2.n,.ref l]))) (s3.sqT (SqT.of A6)) (Dvs.same s23 _ _ p2)
 generalize upd (upd H1 l (.tup ws)) p (.tup [.str b2.n,.ref l])=H2 at *
 lk
 refine N5 (s23 _ _ q1) (by rw[hul,sizeLine_eq];omega) ?_
 have h2:=h1.same s23
 have xq:x.q∈x.fp:=by simp[BA.fp]
 have bt3:But x.fp H2 (upd H2 x.q (.lst (us++[.ref p]))):=fun z u e n=>J5 e fun y=>n (by rw[y];exact xq)
 have xnd:x.fp.Nodup:=by
  have:=h1.apart.2.2.2.2.2.2.2.2.2.2
  rw[show({a with as:=m}:RAd).as=m from rfl,ea2',R0,P9,List.nodup_append,List.nodup_append] at this
  exact this.2.1.1
 have hx2:=(hx.but (ps:=[]) (fun z u e _=>s23 z u e) s23.tupK fun _ _ z=>by cases z)
 have tk3:T5 H2 (upd H2 x.q (.lst (us++[.ref p]))):=N7 (.inl ⟨_,s23 _ _ q1⟩)
 have no:x.o≠x.q:=by simp[BA.fp] at xnd;exact xnd.1.1
 have nw:x.w≠x.q:=by simp[BA.fp] at xnd;exact Ne.symm xnd.2
 have hB:BrO K (upd H2 x.q (.lst (us++[.ref p]))) k_Branch x {b1 with ps:=b1.ps++[Tr.nd b2.n b2.ps]} :=
  ⟨J5 hx2.o no,tk3.sqT hx2.p,⟨_,A6,by
   show Dvs K _ (Tr.das (b1.ps++[Tr.nd b2.n b2.ps])) _
   rw[Y0,List.map_append,<-Y0]
   exact Dvs.append (Dvs.tupK tk3 _ _ (qe6 _) (Dvs.same s23 _ _ q2)) (Dvs.one (Dv.tupK tk3 _ _ (zd2 _) dt))⟩,J5 hx2.w nw⟩
 have u:=Rup.swap h2 ea2 e1 hm2 bt3 hB (fun z hz=>.inl hz) xnd rfl
 refine q _ _ ⟨u.ok,fun c o e n=>?_,fun z hz=>?_⟩ (C2.tr (C2.tr g1 (A7.grow s23)) C2.upd)
 ·exact bt3 c o (s23 _ _ (bt1 c o e n)) fun hc=>n (fr1 c (ze9 ea2 hc))
 ·exact(u.fr z hz).imp (fr1 z) fun h=>g1 z (A7.grow s23 z h)
theorem yk7 {n:Option Str} (h:Q (.bl (decide (n=some x))) H):qg1 K (oV n) (.str x) H Q:=by
 cases n with
 | none => refine xz6 rfl ?_;have e:(decide (oV none=V.str x))=decide (none=some x):=by simp[oV]
           rw[e];exact h
 | some y => refine xz6 rfl ?_;have e:(decide (oV (some y)=V.str x))=decide (some y=some x):=by simp[oV]
             rw[e];exact h
section
variable{kR kB r:Addr}{bv:V}{a:RAd}{st:Rst}
theorem Rup.mend{e:Int}(h:RdO K H kR kB r bv a st)(s1:A7 H H1)(e1:SqT K H1 p [.int i,.int e,.str t,.str rule])(m2:Dvs K H (st.ms.map Mnd.da) us) :
 Rup K kR kB r bv H a (upd H1 a.M (.lst (us++[.ref p]))) a {st with ms:=st.ms++[⟨i,e,t,rule⟩]}:=by
 refine .keep ((h.same s1).setM ?_) fun c o e n=>?_
 ·rw[List.map_append]
  exact Dvs.append (Dvs.same s1 _ _ m2) (Dvs.one (C7.mpr ⟨p,_,rfl,e1,B4 (O1.mpr rfl) (B4 (O1.mpr rfl) (B4 (E6.mpr rfl) (B4 (E6.mpr rfl) J7)))⟩))
 ·rw[B7 (fun z=>n (by rw[z];simp[RAd.fp]))];exact s1 c o e
theorem RdO.ms_len(m2:Dvs K H (st.ms.map Mnd.da) us):us.length=st.ms.length:=by have:=m2.length;rw[List.length_map] at this;exact this
end
def O4(K:Fg):Sp:=fun vs H Q _=>∃ (kR kB r:Addr) (bv:V) (a:RAd) (st:Rst) (n:Str) (i:Int) (rule:Str) (bs:List Brn) (b0:Brn),vs=[.ref r,.str n,.int i,.str rule]/\RdO K H kR kB r bv a st/\st.bs=bs++[b0]/\bs.length<=1000/\b0.pl.length<=1000/\b0.ps.length<=9000000/\st.ms.length<=9000000/\n.length<=4000/\∀ a' H',Rup K kR kB r bv H a H' a' {st with bs:=st.bs++[⟨n,b0.pl++[(b0.ps.length:Int)],[],[]⟩],ms:=st.ms++[⟨i,i,opn n,rule⟩]}->C2 H H'->Q .non H'
def Y5(K:Fg)(k_Reader:Addr):TS :=
 (C0 (L7 (tBM K "list" N2 (T3 K (A3 0) "mends") (A2 (M2 (A2 (A3 2) (A2 (A3 2) (A2 (E2 (qm1 K) [] E0 (A2 (A3 1) B0)) (A2 (A3 3) B0))))) B0)))
 (L7 (N9 k_Reader "enter" (T6 K) [] E0 (A3 0) (A2 (A3 1) B0))))
theorem wo5(cz:Cz K k_Branch k_Reader)(h:O4 K vs H Q E):Y5 K k_Reader {nx:=fun _ H'=>Q .non H',rt:=Q} (E8 ["self","name","start","rule"] vs) H:=by
 obtain⟨kR,kB,r,bv,a,st,n,i,rule,bs,b0,rfl,h,eb,h1,h2,h3,h4,h5,q⟩:=h
 obtain rfl:=N6 cz.ns_Reader h.kr
 show Y5 K _ _ [some (.ref r),some (.str n),some (.int i),some (.str rule)] H
 unfold Y5
 obtain⟨us,m1,m2⟩:=h.m
 have hul:=RdO.ms_len m2
 lk
 refine J9 ?_
 lk
 refine⟨r,_,a.x,_,_,rfl,h.o,cz.cl_Reader,cz.na_Reader_mends,rfl,?_⟩
 lk
 refine⟨.inl ⟨rfl,_,SqL.of m1⟩,?_⟩
 lk
 refine⟨n,rfl,h5,?_⟩
 lk
 refine⟨E1 (by z_go),fun p hp=>?_⟩
 lk
 have s1:=A7.new hp (.tup [.int i,.int i,.str (opn n),.str rule])
 refine N5 (s1 _ _ m1) (by rw[hul,sizeLine_eq];omega) ?_
 have u1:=Rup.mend h s1 (SqT.of A6) m2
 have g1:C2 H (upd (upd H p (.tup [.int i,.int i,.str (opn n),.str rule])) a.M (.lst (us++[.ref p]))):=C2.tr C2.upd C2.upd
 generalize upd (upd H p (.tup [.int i,.int i,.str (opn n),.str rule])) a.M (.lst (us++[.ref p]))=H1 at *
 lk
 refine J4 ?_
 lk
 refine⟨r,_,_,rfl,u1.ok.o,rfl,?_⟩
 lk
 refine⟨k_Reader,kB,r,bv,a,_,n,bs,b0,rfl,u1.ok,eb,h1,h2,h3,fun a' H' u2 g2=>?_⟩
 exact q a' H' (u1.tr u2 g1) (C2.tr g1 g2)
def P5(K:Fg):Sp:=fun vs H Q _=>∃ (kR kB r:Addr) (bv:V) (a:RAd) (st:Rst) (b0:Brn) (bs:List Brn) (rs:List Row),vs=[.ref r]/\RdO K H kR kB r bv a st/\BkO K H bv rs/\st.bs=b0::bs/\bs.length<=1000/\∀ H':Hp,A7 H H'->Q (.bl (decide (L9 rs (some (V7 (bs.map Brn.n)))=some ("frame":Str)))) H'
def Q5(K:Fg)(k_Reader:Addr):TS :=
 (M0 (tOp (qg1 K) (E2 (Z5 K) [] E0 (A2 (T3 K (A3 0) "book") (A2 (E2 (P3 K) [] E0 (A2 (N9 k_Reader "open_names" (I0 K) [] E0 (A3 0) B0) B0)) B0))) (tC (.str "frame"))))
theorem qz0(cz:Cz K k_Branch k_Reader)(h:P5 K vs H Q E):Q5 K k_Reader {nx:=fun _ H'=>Q .non H',rt:=Q} (E8 ["self"] vs) H:=by
 obtain⟨kR,kB,r,bv,a,st,b0,bs,rs,rfl,h,hk,eb,hl,q⟩:=h
 obtain rfl:=N6 cz.ns_Reader h.kr
 show Q5 K _ _ [some (.ref r)] H
 unfold Q5
 lk
 refine J9 ?_
 lk
 refine⟨r,_,a.x,_,_,rfl,h.o,cz.cl_Reader,cz.na_Reader_book,rfl,?_⟩
 lk
 refine J4 ?_
 lk
 refine⟨r,_,_,rfl,h.o,rfl,?_⟩
 lk
 refine⟨k_Reader,kB,r,bv,a,st,b0,bs,rfl,h,eb,hl,fun p H1 s1 hp=>?_⟩
 lk
 refine⟨p,_,rfl,.inr hp,?_⟩
 lk
 refine⟨bv,some (V7 (bs.map Brn.n)),rs,rfl,(hk.same s1).rws,?_⟩
 lk
 refine yk7 ?_
 exact q _ s1
theorem xa8{f:α->Bool}:∀ {l zs:List α} {z:α},l.filter f=zs++[z]->∃ A B,l=A++z::B/\f z=true/\∀ c∈B,f c=false:=by
 intro l
 induction l with
 | nil=>intro zs z h;simp at h
 | cons x l ih =>
   intro zs z h
   by_cases hx:f x=true
   ·rw[List.filter_cons_of_pos hx] at h
    cases zs with
    | nil =>
      simp only[List.nil_append,List.cons.injEq] at h
      obtain⟨rfl,h⟩:=h
      exact⟨[],l,rfl,hx,fun c hc=>Bool.eq_false_iff.mpr (List.filter_eq_nil_iff.mp h c hc)⟩
    | cons y zs =>
      simp only[List.cons_append,List.cons.injEq] at h
      obtain⟨A,B,e,h1,h2⟩:=ih h.2
      exact⟨x::A,B,by rw[e];rfl,h1,h2⟩
   ·rw[List.filter_cons_of_neg hx] at h
    obtain⟨A,B,e,h1,h2⟩:=ih h
    exact⟨x::A,B,by rw[e];rfl,h1,h2⟩
theorem zq3{c:Bool}{p q:Prop}(hc:c=true)(h:p):if c=true then p else q:=by rw[if_pos hc];exact h
def LwP(rs:List Row)(l1:List Brn)(b:Brn)(l2:List Brn):Prop:=(X8 rs b.n=true/\∀ c∈l2,X8 rs c.n=false)\/(l1=[]/\∀ c∈b::l2,X8 rs c.n=false)
abbrev qi2(K:Fg):TS :=
 (M0 (tIf (L0 (tOp wv4 (tCB (O6 K) (A2 (A3 1) B0)) (tC (.int 0)))) (tOp (M7 K) (A3 1) (tUn (rU fun i=>.int (-i)) (tC (.int 1)))) (tOp (M7 K) (T3 K (A3 0) "branches") (tC (.int 0)))))
def N0(K:Fg):Sp:=fun vs H Q _=>∃ (kR kB r:Addr) (bv:V) (a:RAd) (st:Rst) (rs:List Row),vs=[.ref r]/\RdO K H kR kB r bv a st/\BkO K H bv rs/\st.bs≠[]/\st.bs.length<=1000/\∀ (m1 m2:List BA) (x:BA) (l1 l2:List Brn) (b:Brn) (H':Hp),A7 H H'->a.as=m1++x::m2->st.bs=l1++b::l2->m1.length=l1.length->LwP rs l1 b l2->Q (.ref x.o) H'
def T7(K:Fg):TS :=
 (C0 (E9 (wl7 [some 0,none] (wf8 K (T3 K (A3 0) "branches")) (B2 1) (tB (E2 (qg4 K) [] E0 (A2 (T3 K (A3 0) "book") (A2 (T3 K (A3 1) "name") B0)))) (A3 1)) (B2 1))
 (qi2 K))
theorem we5(cz:Cz K k_Branch k_Reader)(h:N0 K vs H Q E):T7 K {nx:=fun _ H'=>Q .non H',rt:=Q} (E8 ["self","walls"] vs) H:=by
 obtain⟨kR,kB,r,bv,a,st,rs,rfl,h,hk,hne,hl,q⟩:=h
 obtain rfl:=N6 cz.ns_Reader h.kr
 obtain rfl:=N6 cz.ns_Branch h.kb
 show T7 K _ [some (.ref r),none] H
 unfold T7
 have hb:=h.b
 have hbl:=hb.len
 let f:BA×Brn->Bool:=fun z=>X8 rs z.2.n
 have zl:(a.as.zip st.bs).length=st.bs.length:=by rw[List.length_zip,hbl,Nat.min_self]
 have zg:∀ i x,a.as[i]?=some x->∃ c,st.bs[i]?=some c/\BrO K H k_Branch x c/\(a.as.zip st.bs)[i]?=some (x,c):=fun i x e=>by
  obtain⟨c,h1,h2⟩:=hb.get e
  exact⟨c,h1,h2,List.getElem?_zip_eq_some.mpr ⟨e,h1⟩⟩
 lk
 refine J9 ?_
 lk
 refine⟨r,_,a.x,_,_,rfl,h.o,cz.cl_Reader,cz.na_Reader_branches,rfl,?_⟩
 refine xz3 (.inl (SqL.of h.l)) (fun i ys H'=>H'=H/\ys=((((a.as.zip st.bs).take i).filter f).map fun z=>V.ref z.1.o)) ⟨rfl,rfl⟩ ?_ ?_ ?_ ?_ ?_
 ·rintro i ys H' hi ⟨_,rfl⟩
  rw[List.length_map]
  have:=List.length_filter_le f ((a.as.zip st.bs).take i)
  rw[List.length_take] at this
  exact E1 (by omega)
 ·rintro _ i ys H' _ ⟨rfl,_⟩;exact SqL.of h.l
 ·rintro hq i ys H' _ ⟨rfl,_⟩;exact hq
 ·rintro i v ys H' hi ⟨rfl,rfl⟩
  rw[List.getElem?_map] at hi
  obtain⟨z,hz,rfl⟩:=Option.map_eq_some_iff.mp hi
  obtain⟨c,hc,hB,hzz⟩:=zg i z hz
  refine L3 ?_
  lk
  refine J9 ?_
  lk
  refine⟨r,_,a.x,_,_,rfl,h.o,cz.cl_Reader,cz.na_Reader_book,rfl,?_⟩
  lk
  refine J9 ?_
  lk
  refine⟨z.o,_,z.x,_,_,rfl,hB.o,cz.cl_Branch,cz.na_Branch_name,rfl,?_⟩
  lk
  refine⟨bv,c.n,rs,rfl,hk.rws,?_⟩
  lk
  have et:((a.as.zip st.bs).take (i+1)).filter f=((a.as.zip st.bs).take i).filter f++(if X8 rs c.n=true then[(z,c)] else[]):=by
   rw[qo5 hzz,List.filter_append]
   congr 1
   by_cases hw:X8 rs c.n=true
   ·rw[if_pos hw,List.filter_cons_of_pos (by exact hw)];rfl
   ·rw[if_neg hw,List.filter_cons_of_neg (by exact hw)];rfl
  by_cases hw:X8 rs c.n=true
  ·rw[hw]
   x_go
   lk
   refine⟨rfl,?_⟩
   rw[et,if_pos hw,List.map_append];rfl
  ·rw[Bool.eq_false_iff.mpr hw]
   refine Z2 ⟨rfl,?_⟩
   rw[et,if_neg hw,List.append_nil]
 ·rintro ys H' ⟨rfl,rfl⟩ l hl2
  have en:(a.as.zip st.bs).take (a.as.map fun z=>V.ref z.o).length=a.as.zip st.bs:=by rw[List.length_map,hbl,<-zl];exact List.take_length
  rw[en]
  have s1:=A7.new hl2 (.lst (((a.as.zip st.bs).filter f).map fun z=>V.ref z.1.o))
  have e1:(upd H' l (.lst (((a.as.zip st.bs).filter f).map fun z=>V.ref z.1.o))) l=_:=A6
  generalize upd H' l (.lst (((a.as.zip st.bs).filter f).map fun z=>V.ref z.1.o))=H1 at *
  have am:(a.as.zip st.bs).map Prod.fst=a.as:=List.map_fst_zip (by omega)
  have bm:(a.as.zip st.bs).map Prod.snd=st.bs:=List.map_snd_zip (by omega)
  show qi2 K _ _ _
  lk
  refine Q3 (.inl (SqL.of e1)) ?_
  lk
  rcases List.eq_nil_or_concat ((a.as.zip st.bs).filter f) with hz|⟨zs,z,hz⟩
  ·rw[hz]
   k_go
   lk
   refine J9 ?_
   lk
   refine⟨r,_,a.x,_,_,rfl,s1 _ _ h.o,cz.cl_Reader,cz.na_Reader_branches,rfl,?_⟩
   lk
   obtain⟨b0,bs,eb⟩:=List.exists_cons_of_ne_nil hne
   obtain⟨m1,x,m2,ea,hm,hx⟩:=h.as_split (l1:=[]) eb
   obtain rfl:=List.eq_nil_of_length_eq_zero hm
   refine O0 (SqL.of (s1 _ _ h.l)) (v:=.ref x.o) (by rw[ea];exact zf0) ?_
   refine q [] m2 x [] bs b0 _ s1 ea eb rfl (.inr ⟨rfl,fun c hc=>?_⟩)
   rw[<-eb,<-bm] at hc
   obtain⟨w,hw,rfl⟩:=List.mem_map.mp hc
   have:=List.filter_eq_nil_iff.mp hz w hw
   exact Bool.eq_false_iff.mpr this
  ·rw[List.concat_eq_append] at hz
   rw[hz] at e1 ⊢
   refine zq3 (by simp) ?_
   lk
   refine⟨1,rfl,?_⟩
   refine O0 (SqL.of e1) (v:=.ref z.1.o) (ql8 (n:=zs.length) (by simp) (by simp)) ?_
   obtain⟨A,B,e2,e3,e4⟩:=xa8 hz
   refine q (A.map Prod.fst) (B.map Prod.fst) z.1 (A.map Prod.snd) (B.map Prod.snd) z.2 _ s1 (by rw[<-am,e2];simp) (by rw[<-bm,e2];simp) (by simp) (.inl ⟨e3,fun c hc=>?_⟩)
   obtain⟨w,hw,rfl⟩:=List.mem_map.mp hc
   exact e4 w hw
abbrev wl2(K:Fg):TS :=
 (T2 (L0 (tOp (qg1 K) (E2 (Z5 K) [] E0 (A2 (A3 0) (A2 (A3 3) B0))) (tC (.str "anew"))))
 (L7 (tBM K "list" N2 (A3 2) (A2 (A3 3) B0))) O5)
abbrev qo6(K:Fg):TS :=
 (C0 (T2 (tB (E2 (qg4 K) [] E0 (A2 (A3 0) (A2 (A3 3) B0))))
 yf2 O5)
 (wl2 K))
def xu6(rs:List Row)(ns:List Str):List Str:=ns.filter fun n=>decide (L9 rs (some n)=some ("anew":Str))
def qb3(rs:List Row)(ns:List Str):List Str:=xu6 rs (ns.takeWhile fun n=>!(X8 rs n))
theorem xi3(rs:List Row)(ns:List Str):(xu6 rs ns).length<=ns.length:=List.length_filter_le _ _
theorem xq3(rs:List Row)(ns:List Str)(n:Str):xu6 rs (ns++[n])=xu6 rs ns++(if L9 rs (some n)=some ("anew":Str) then[n] else[]):=by
 unfold xu6
 rw[List.filter_append]
 congr 1
 by_cases h:L9 rs (some n)=some ("anew":Str)
 ·rw[if_pos h,List.filter_cons_of_pos (by exact decide_eq_true h)];rfl
 ·rw[if_neg h,List.filter_cons_of_neg (by simpa using h)];rfl
theorem yp2{f:Str->Bool}:∀ {ns:List Str} {i:Nat} {y:Str},ns[i]?=some y->(∀ z∈ns.take i,f z=true)->f y=false->ns.takeWhile f=ns.take i
 | [],_,_,h,_,_=>by simp at h
 | x::ns,0,y,h,_,hy=>by simp at h;subst h;rw[List.takeWhile_cons,hy];rfl
 | x::ns,i+1,y,h,hz,hy=>by
   rw[List.takeWhile_cons,hz x (by simp),List.take_succ_cons]
   show x::ns.takeWhile f=_
   rw[yp2 (by simpa using h) (fun z hzz=>hz z (by simp[hzz])) hy]
theorem yv9{ns:List Str}{i:Nat}(hy:ns[i]?=some y)(hw:∀ z∈ns.take i,X8 rs z=false)(hwy:X8 rs y=true):qb3 rs ns=xu6 rs (ns.take i):=by
 unfold qb3
 rw[yp2 hy (fun z hz=>by rw[hw z hz];rfl) (by rw[hwy];rfl)]
theorem zf1{ns:List Str}(hw:∀ z∈ns,X8 rs z=false):qb3 rs ns=xu6 rs ns:=by
 unfold qb3
 congr 1
 induction ns with
 | nil=>rfl
 | cons x ns ih=>rw[List.takeWhile_cons,hw x (by simp)];show x::_=_;rw[ih fun z hz=>hw z (by simp[hz])]
def W8(K:Fg):Sp:=fun vs H Q _=>∃ (v:V) (c:Addr) (ns:List Str) (rs:List Row),vs=[v,.ref c]/\BkO K H v rs/\SqT K H c (C1 ns)/\ns.length<=1000/\∀ (p:Addr) (H':Hp),A7 H H'->H p=none->H' p=some (.lst (C1 (qb3 rs ns)))->Q (.ref p) H'
def Y6(K:Fg):TS :=
 (C0 (E9 (qd5 B0) (B2 2))
 (C0 (qx9 (wf8 K (A3 1)) (B2 3)
 (qo6 K))
 (M0 (A3 2))))
theorem wo6(h:W8 K vs H Q E):Y6 K {nx:=fun _ H'=>Q .non H',rt:=Q} (E8 ["book","closed","waiting","name"] vs) H:=by
 obtain⟨v,c,ns,rs,rfl,hk,hc,hl,q⟩:=h
 show Y6 K _ [some v,some (.ref c),none,none] H
 unfold Y6
 lk
 refine⟨E1 (by z_go),fun p hp=>?_⟩
 have s1:=A7.new hp (.lst [])
 lk
 refine zd0 (.inr hc) s1 (fun i σ H'=>∃ x,σ=[some v,some (.ref c),some (.ref p),x]/\A7 H H'/\H' p=some (.lst (C1 (xu6 rs (ns.take i))))/\∀ y∈ns.take i,X8 rs y=false) ⟨none,rfl,s1,A6,fun y hy=>by cases hy⟩ ?_ ?_ ?_
 ·rintro i σ H' ⟨x,rfl,s,_⟩;exact s
 ·rintro i x σ H' hi ⟨x0,rfl,s,hpp,hw⟩
  obtain⟨y,hy,rfl⟩:=qm8 hi
  refine L3 ?_
  show qo6 K _ _ _
  lk
  refine⟨v,y,rs,rfl,(hk.same s).rws,?_⟩
  lk
  by_cases hwy:X8 rs y=true
  ·rw[hwy]
   x_go
   lk
   have ew:qb3 rs ns=xu6 rs (ns.take i):=yv9 hy hw hwy
   rw[<-ew] at hpp
   exact q p H' s hp hpp
  ·have hwf:=Bool.eq_false_iff.mpr hwy
   rw[hwf]
   k_go
   lk
   refine⟨v,some y,rs,rfl,(hk.same s).rws,?_⟩
   lk
   refine yk7 ?_
   lk
   have hw2:∀ z∈ns.take (i+1),X8 rs z=false:=fun z hz=>by
    rw[qo5 hy] at hz
    rcases List.mem_append.mp hz with hz|hz
    ·exact hw z hz
    ·rw[List.mem_singleton.mp hz];exact hwf
   have hwl:=xi3 rs (ns.take i)
   have:(ns.take i).length<=ns.length:=by rw[List.length_take];omega
   by_cases ha:L9 rs (some y)=some ("anew":Str)
   ·rw[decide_eq_true ha]
    x_go
    lk
    refine⟨.inl ⟨rfl,_,SqL.of hpp⟩,?_⟩
    lk
    refine N5 hpp (by rw[C3,sizeLine_eq];omega) ?_
    rw[wg6]
    refine⟨_,rfl,A7.put s hp _,?_,hw2⟩
    rw[A6,qo5 hy,xq3,if_pos ha]
   ·rw[decide_eq_false ha]
    k_go
    lk
    exact⟨_,rfl,s,by rw[qo5 hy,xq3,if_neg ha,List.append_nil];exact hpp,hw2⟩
 ·rintro σ H' ⟨x,rfl,s,hpp,hw⟩
  rw[C3,List.take_length] at *
  lk
  refine q p H' s hp ?_
  rw[zf1 hw];exact hpp
def V8:List Brn->List Tr
 | []=>[]
 | c::cs=>[Tr.nd c.n (c.ps++V8 cs)]
def clM(i:Int)(rule:Str)(c:Brn):Mnd:=⟨i,i,cls c.n,rule⟩
def yd0(rs:List Row)(bs:List Brn):Bool:=bs.any fun c=>X8 rs c.n
def yp3(rs:List Row)(f:List Str->List Str):List Brn->List Brn
 | []=>[]
 | c::t=>if yd0 rs t=true then c::yp3 rs f t else if X8 rs c.n=true then{c with ws:=f c.ws}::t else c::t
def Ac3(f:List Str->List Str):List Brn->List Brn
 | []=>[]
 | c::t=>{c with ws:=f c.ws}::t
def wUp(rs:List Row)(f:List Str->List Str)(bs:List Brn):List Brn:=if yd0 rs bs=true then yp3 rs f bs else Ac3 f bs
theorem yp4{bs:List Brn}(h:∀ c∈bs,X8 rs c.n=false):yd0 rs bs=false:=by
 unfold yd0
 rw[List.any_eq_false]
 intro c hc
 rw[h c hc];decide
theorem yd1(h:X8 rs b.n=true):yd0 rs (l1++b::l2)=true:=by
 unfold yd0
 rw[List.any_eq_true]
 exact⟨b,by simp,h⟩
theorem yd2{rs:List Row}{f:List Str->List Str}{b:Brn}{l2:List Brn}(h1:X8 rs b.n=true)(h2:∀ c∈l2,X8 rs c.n=false):∀ l1:List Brn,yp3 rs f (l1++b::l2)=l1++{b with ws:=f b.ws}::l2
 | []=>by
   show(if yd0 rs l2=true then _ else if X8 rs b.n=true then _ else _)=_
   rw[yp4 h2,if_neg (by decide),if_pos h1];rfl
 | c::l1=>by
   show(if yd0 rs (l1++b::l2)=true then c::yp3 rs f (l1++b::l2) else _)=_
   rw[yd1 h1,if_pos rfl,yd2 h1 h2 l1];rfl
theorem wo7(h:LwP rs l1 b l2):wUp rs f (l1++b::l2)=l1++{b with ws:=f b.ws}::l2:=by
 unfold wUp
 rcases h with⟨h1,h2⟩|⟨rfl,h2⟩
 ·rw[yd1 h1,if_pos rfl,yd2 h1 h2]
 ·rw[List.nil_append,yp4 h2,if_neg (by decide)];rfl
section
variable{kR kB r:Addr}{bv:V}{a:RAd}{st:Rst}
theorem RdO.xnd{x:BA}(h:RdO K H kR kB r bv a st)(ea:a.as=m1++x::m2):x.fp.Nodup:=by
 have:=h.apart.2.2.2.2.2.2.2.2.2.2
 rw[ea,R0,P9,List.nodup_append,List.nodup_append] at this
 exact this.2.1.1
theorem RdO.up(h:RdO K H kR kB r bv a st)(s:A7 H H'):Rup K kR kB r bv H a H' a st:=.keep (h.same s) fun c o e _=>s c o e
theorem Rup.wait{x:BA}{ws:List Str}(h:RdO K H kR kB r bv a st)(ea:a.as=m1++x::m2)(eb:st.bs=l1++b::l2)(hl:m1.length=l1.length) :
 Rup K kR kB r bv H a (upd H x.w (.lst (C1 ws))) {a with as:=m1++x::m2} {st with bs:=l1++{b with ws:=ws}::l2}:=by
 have hb:=h.b
 rw[ea,eb] at hb
 have hx:=(hb.split hl).2.1
 have xnd:=h.xnd ea
 have no:x.o≠x.w:=by simp[BA.fp] at xnd;exact xnd.1.2
 have nq:x.q≠x.w:=by simp[BA.fp] at xnd;exact xnd.2
 have tk:T5 H (upd H x.w (.lst (C1 ws))):=N7 (.inl ⟨_,hx.w⟩)
 obtain⟨us,q1,q2⟩:=hx.q
 refine Rup.swap h ea eb hl (fun z u e n=>J5 e fun y=>n (by rw[y];simp[BA.fp])) ⟨J5 hx.o no,tk.sqT hx.p,⟨us,J5 q1 nq,Dvs.tupK tk _ _ (qe6 _) q2⟩,A6⟩ (fun z hz=>.inl hz) xnd rfl
end
abbrev qb4(K:Fg)(k_Reader:Addr):TS :=
 (C0 (L7 (tBM K "list" N2 (T3 K (A3 0) "mends") (A2 (M2 (A2 (A3 2) (A2 (A3 2) (A2 (E2 (qm2 K) [] E0 (A2 (A3 5) B0)) (A2 (A3 3) B0))))) B0)))
 (L7 (N9 k_Reader "leave" (P4 K) [] E0 (A3 0) B0)))
abbrev qb5(K:Fg)(k_Reader:Addr):TS :=
 (L7 (tBM K "list" xd2 (T3 K (N9 k_Reader "last_wall" (N0 K) [] E0 (A3 0) B0) "waiting") (A2 (E2 (W8 K) [] E0 (A2 (T3 K (A3 0) "book") (A2 (A3 4) B0))) B0)))
abbrev qb6(K:Fg)(k_Reader:Addr):TS :=
 (C0 (qx9 (zc6 K (A2 (A3 4) B0)) (B2 5)
 (qb4 K k_Reader))
 (qb5 K k_Reader))
def L8(K:Fg):Sp:=fun vs H Q _=>∃ (kR kB r:Addr) (bv:V) (a:RAd) (st:Rst) (rs:List Row) (pre cl:List Brn) (b:Brn) (i:Int) (rule:Str),vs=[.ref r,.int pre.length,.int i,.str rule]/\RdO K H kR kB r bv a st/\BkO K H bv rs/\st.bs=pre++b::cl/\st.bs.length<=900/\(∀ c∈st.bs,c.n.length<=4000/\c.ps.length<=9000000/\c.ws.length<=9000000)/\st.ms.length+cl.length<=9000000/\∀ a' H',Rup K kR kB r bv H a H' a' {st with bs:=wUp rs (·++qb3 rs (cl.map Brn.n)) (pre++[{b with ps:=b.ps++V8 cl}]),ms:=st.ms++cl.reverse.map (clM i rule)}->C2 H H'->Q .non H'
def P6(K:Fg)(k_Reader:Addr):TS :=
 (C0 (E9 (tSl (yi6 K) (N9 k_Reader "open_names" (I0 K) [] E0 (A3 0) B0) (Z4 (A3 1)) qh1) (B2 4))
 (qb6 K k_Reader))
theorem qw9(cz:Cz K k_Branch k_Reader)(h:L8 K vs H Q E):P6 K k_Reader {nx:=fun _ H'=>Q .non H',rt:=Q} (E8 ["self","kept","start","rule","closed","name"] vs) H:=by
 obtain⟨kR,kB,r,bv,a,st,rs,pre,cl,b,i,rule,rfl,h,hk,eb,hl,hall,hms,q⟩:=h
 obtain rfl:=N6 cz.ns_Reader h.kr
 obtain rfl:=N6 cz.ns_Branch h.kb
 show P6 K _ _ [some (.ref r),some (.int pre.length),some (.int i),some (.str rule),none,none] H
 unfold P6
 obtain⟨b0,bs0,eb0⟩:∃ b0 bs0,st.bs=b0::bs0:=by rw[eb];cases pre <;> exact⟨_,_,rfl⟩
 have hl0:bs0.length<=1000:=by rw[eb0] at hl;simp at hl;omega
 have hdrop:bs0.drop pre.length=cl:=by
  have e:(b0::bs0).drop (pre.length+1)=cl:=by
   rw[<-eb0,eb,show pre++b::cl=(pre++[b])++cl by simp]
   rw[List.drop_left' (by simp)]
  simpa using e
 lk
 refine J4 ?_
 lk
 refine⟨r,_,_,rfl,h.o,rfl,?_⟩
 lk
 refine⟨k_Reader,k_Branch,r,bv,a,st,b0,bs0,rfl,h,eb0,hl0,fun p H1 s1 hp=>?_⟩
 lk
 refine ya2 hp fun c H2 s2 hc=>?_
 have ecut:qn3 (C1 (bs0.map Brn.n)) (some (pre.length:Int)) none=C1 (cl.map Brn.n):=by
  rw[wx5 (by omega),Int.toNat_natCast,<-hdrop]
  simp[C1,List.map_drop]
 rw[ecut] at hc
 have s12:=A7.tr s1 s2
 have h2:=h.same s12
 have hk2:=hk.same s12
 show qb6 K _ _ _ _
 lk
 refine zl8 ?_
 lk
 have hcll:cl.length<=900:=by rw[eb] at hl;simp at hl;omega
 refine zc7 hc (fun j σ H'=>∃ x a' A y C,σ=[some (.ref r),some (.int pre.length),some (.int i),some (.str rule),some (.ref c),x]/\pre++b::cl=A++y::C/\C.length=j/\j<=cl.length/\Rup K k_Reader k_Branch r bv H2 a H' a' {st with bs:=A++[{y with ps:=y.ps++V8 C}],ms:=st.ms++C.reverse.map (clM i rule)}/\C2 H2 H') ?_ ?_ ?_ ?_
 ·obtain⟨A,y,e⟩:∃ A y,pre++b::cl=A++[y]:=by
   rcases List.eq_nil_or_concat (pre++b::cl) with e|⟨A,y,e⟩
   ·simp at e
   ·exact⟨A,y,by rw[e,List.concat_eq_append]⟩
  refine⟨none,a,A,y,[],rfl,e,rfl,Nat.zero_le _,?_,fun z hz=>hz⟩
  have:({st with bs:=A++[{y with ps:=y.ps++V8 []}],ms:=st.ms++[].reverse.map (clM i rule)}:Rst)=st:=by
   cases st
   simp only[V8,List.append_nil,List.reverse_nil,List.map_nil] at *
   rw[eb,e]
  rw[this]
  exact .keep h2 fun c o e _=>e
 ·rintro j σ H' ⟨x,a',A,y,C,rfl,_,_,_,u,_⟩
  exact(u.tupK h2).sqT hc
 ·rintro j v σ H' hv hj ⟨x0,a',A,y,C,rfl,e,eC,hjc,u,g⟩
  obtain⟨nm,hnm,rfl⟩:=qm8 hv
  rw[C3,List.length_map] at hj
  rw[C3,List.length_map,List.getElem?_map] at hnm
  obtain⟨y2,hy2,rfl⟩:=Option.map_eq_some_iff.mp hnm
  have hlen:A.length=(pre++[b]).length+(cl.length-1-j):=by
   have:=congrArg List.length e
   simp only[List.length_append,List.length_cons,List.length_nil] at this ⊢
   omega
  have hyy:y2=y:=by
   have e1:(A++y::C)[A.length]?=some y:=by simp
   rw[<-e,show pre++b::cl=(pre++[b])++cl by simp,hlen,List.getElem?_append_right (by omega),Nat.add_sub_cancel_left,hy2] at e1
   exact Option.some.inj e1
  subst hyy
  obtain⟨A',x,rfl⟩:∃ A' x,A=A'++[x]:=by
   rcases List.eq_nil_or_concat A with e1|⟨A',x,e1⟩
   ·subst e1;simp at hlen;omega
   ·exact⟨A',x,by rw[e1,List.concat_eq_append]⟩
  have inst:∀ z,z∈A'++x::y2::C->z∈st.bs:=fun z hz=>by rw[eb,e];simpa using hz
  have hx:=hall x (inst x (by simp))
  have hy:=hall y2 (inst y2 (by simp))
  obtain⟨us,m1,m2⟩:=u.ok.m
  have hul:=RdO.ms_len m2
  refine L3 ?_
  show qb4 K _ _ _ _
  lk
  refine J9 ?_
  lk
  refine⟨r,_,a'.x,_,_,rfl,u.ok.o,cz.cl_Reader,cz.na_Reader_mends,rfl,?_⟩
  lk
  refine⟨.inl ⟨rfl,_,SqL.of m1⟩,?_⟩
  lk
  refine⟨y2.n,rfl,hy.1,?_⟩
  lk
  refine⟨E1 (by z_go),fun w hw=>?_⟩
  lk
  have s3:=A7.new hw (.tup [.int i,.int i,.str (cls y2.n),.str rule])
  refine N5 (s3 _ _ m1) (by rw[hul,sizeLine_eq];simp;omega) ?_
  have u1:=Rup.mend u.ok s3 (SqT.of A6) m2
  have g1:C2 H' (upd (upd H' w (.tup [.int i,.int i,.str (cls y2.n),.str rule])) a'.M (.lst (us++[.ref w]))):=C2.tr C2.upd C2.upd
  generalize upd (upd H' w (.tup [.int i,.int i,.str (cls y2.n),.str rule])) a'.M (.lst (us++[.ref w]))=H3 at *
  lk
  refine J4 ?_
  lk
  refine⟨r,_,_,rfl,u1.ok.o,rfl,?_⟩
  lk
  refine⟨k_Reader,k_Branch,r,bv,a',_,A',x,{y2 with ps:=y2.ps++V8 C},rfl,u1.ok,by simp,hx.2.1,fun a2 H4 u2 g2=>?_⟩
  refine⟨_,a2,A',x,y2::C,rfl,by rw[e];simp,by simp[eC],by omega,?_,C2.tr (C2.tr g g1) g2⟩
  have:=(u.tr u1 g).tr u2 (C2.tr g g1)
  rw[List.reverse_cons,List.map_append,<-List.append_assoc]
  exact this
 ·rintro σ H' ⟨x,a',A,y,C,rfl,e,eC,_,u,g⟩
  rw[C3,List.length_map] at eC
  obtain⟨e1,e2⟩:=List.append_inj e (by have:=congrArg List.length e;simp at this;omega)
  obtain⟨rfl,rfl⟩:=List.cons.inj e2
  subst e1
  have tk:=u.tupK h2
  have hk3:=hk2.tupK tk
  have hc3:=tk.sqT hc
  have hlen3:(pre++[{b with ps:=b.ps++V8 cl}]:List Brn).length<=900:=by rw[eb] at hl;simp at hl ⊢;omega
  show qb5 K _ _ _ _
  lk
  refine J9 ?_
  refine J4 ?_
  lk
  refine⟨r,_,_,rfl,u.ok.o,rfl,?_⟩
  lk
  refine⟨k_Reader,k_Branch,r,bv,a',_,rs,rfl,u.ok,hk3,by simp,by show(pre++[_]).length<=1000;omega,fun m1 m2 x2 l1 l2 b2 H4 s4 ea2 eb2 hm2 lw=>?_⟩
  have h4:=u.ok.same s4
  have hb4:=h4.b
  rw[ea2,eb2] at hb4
  have hx4:=(hb4.split hm2).2.1
  have hws:b2.ws.length<=9000000:=by
   have:b2∈(pre++[{b with ps:=b.ps++V8 cl}]:List Brn):=by
    have e3:(pre++[{b with ps:=b.ps++V8 cl}]:List Brn)=l1++b2::l2:=eb2
    rw[e3];simp
   rcases List.mem_append.mp this with h1|h1
   ·exact(hall b2 (by rw[eb];simp[h1])).2.2
   ·rw[List.mem_singleton.mp h1];exact(hall b (by rw[eb];simp)).2.2
  refine⟨x2.o,_,x2.x,_,_,rfl,hx4.o,cz.cl_Branch,cz.na_Branch_waiting,rfl,?_⟩
  lk
  refine⟨.inl ⟨rfl,_,SqL.of hx4.w⟩,?_⟩
  lk
  refine J9 ?_
  lk
  refine⟨r,_,a'.x,_,_,rfl,h4.o,cz.cl_Reader,cz.na_Reader_book,rfl,?_⟩
  lk
  refine⟨bv,c,cl.map Brn.n,rs,rfl,hk3.same s4,s4.sqT hc3,by rw[List.length_map];omega,fun w H5 s5 hw0 hw=>?_⟩
  lk
  have hwl:=xi3 rs ((cl.map Brn.n).takeWhile fun n=>!(X8 rs n))
  have hwl2:(qb3 rs (cl.map Brn.n)).length<=900:=by
   have h1:((cl.map Brn.n).takeWhile fun n=>!(X8 rs n)).length<=(cl.map Brn.n).length:=(List.takeWhile_sublist _).length_le
   rw[List.length_map] at h1
   unfold qb3;omega
  refine zc5 (s5 _ _ hx4.w) hw (by rw[C3,C3,sizeLine_eq];omega) ?_
  have h5:=h4.same s5
  have uw:=Rup.wait (ws:=b2.ws++qb3 rs (cl.map Brn.n)) h5 ea2 eb2 hm2
  have es:C1 b2.ws++C1 (qb3 rs (cl.map Brn.n))=C1 (b2.ws++qb3 rs (cl.map Brn.n)):=by simp[C1]
  rw[es]
  have uu:=((((h.up s12).tr u (A7.grow s12)).tr (u.ok.up s4) (C2.tr (A7.grow s12) g)).tr (h4.up s5) (C2.tr (C2.tr (A7.grow s12) g) (A7.grow s4))).tr uw (C2.tr (C2.tr (C2.tr (A7.grow s12) g) (A7.grow s4)) (A7.grow s5))
  refine q {a' with as:=m1++x2::m2} _ ?_ (C2.tr (C2.tr (C2.tr (C2.tr (A7.grow s12) g) (A7.grow s4)) (A7.grow s5)) C2.upd)
  have e3:(pre++[{b with ps:=b.ps++V8 cl}]:List Brn)=l1++b2::l2:=eb2
  rw[e3,wo7 lw]
  exact uu
def W9(K:Fg):Sp:=fun vs H Q _=>∃ (kR kB r:Addr) (bv:V) (a:RAd) (st:Rst) (rs:List Row) (cl:List Brn) (b:Brn) (i:Int),vs=[.ref r,.int i]/\RdO K H kR kB r bv a st/\BkO K H bv rs/\st.bs=b::cl/\st.bs.length<=900/\(∀ c∈st.bs,c.n.length<=4000/\c.ps.length<=9000000/\c.ws.length<=9000000)/\st.ms.length+cl.length<=9000000/\∀ a' H',Rup K kR kB r bv H a H' a' {st with bs:=wUp rs (·++qb3 rs (cl.map Brn.n)) [{b with ps:=b.ps++V8 cl}],ms:=st.ms++cl.reverse.map (clM i "end")}->C2 H H'->Q .non H'
def Y7(K:Fg)(k_Reader:Addr):TS :=
 (L7 (N9 k_Reader "close_behind" (L8 K) [] E0 (A3 0) (A2 (tC (.int 0)) (A2 (A3 1) (A2 (tC (.str "end")) B0)))))
theorem wo8(cz:Cz K k_Branch k_Reader)(h:W9 K vs H Q E):Y7 K k_Reader {nx:=fun _ H'=>Q .non H',rt:=Q} (E8 ["self","size"] vs) H:=by
 obtain⟨kR,kB,r,bv,a,st,rs,cl,b,i,rfl,h,hk,eb,hl,hall,hms,q⟩:=h
 obtain rfl:=N6 cz.ns_Reader h.kr
 show Y7 K _ _ [some (.ref r),some (.int i)] H
 unfold Y7
 lk
 refine J4 ?_
 lk
 refine⟨r,_,_,rfl,h.o,rfl,?_⟩
 lk
 exact⟨k_Reader,kB,r,bv,a,st,rs,[],cl,b,i, "end",rfl,h,hk,eb,hl,hall,hms,q⟩
def adP(ps:List Tr)(t:Str):List Tr:=match ps.getLast? with|some (.tx u)=>ps.dropLast++[.tx (u++t)]|_=>ps++[.tx t]
def adN(ps:List Tr):Nat:=match ps.getLast? with|some (.tx _)=>ps.length-1|_=>ps.length
def adA(ps:List Tr):Nat:=match ps.getLast? with|some (.tx u)=>u.length|_=>0
def L6(st:Rst):List Str:=st.bs.tail.map Brn.n
def xu7:Brn:=⟨"",[],[],[]⟩
def Y8(bs:List Brn):Brn:=bs.getLastD xu7
def xi4(b:Brn)(n:Str):Brn:=⟨n,b.pl++[(b.ps.length:Int)],[],[]⟩
def qa8(bs:List Brn)(n:Str):List Brn:=bs++[xi4 (Y8 bs) n]
def wx7(st:Rst)(n:Str)(i:Int)(rule:Str):Rst:={st with bs:=qa8 st.bs n,ms:=st.ms++[⟨i,i,opn n,rule⟩]}
def U6(st:Rst)(ns:List Str)(i:Int)(rule:Str):Rst:=ns.foldl (fun s n=>wx7 s n i rule) st
def qb7(st:Rst)(i:Int)(g rule:Str):Rst:={st with ms:=st.ms++[⟨i,i+g.length, "",rule⟩]}
def qa9(rs:List Row)(st:Rst)(kept:Nat)(i:Int)(rule:Str):Rst:={st with bs:=wUp rs (·++qb3 rs ((st.bs.drop (kept+1)).map Brn.n)) (st.bs.take kept++[{(st.bs.getD kept xu7) with ps:=(st.bs.getD kept xu7).ps++V8 (st.bs.drop (kept+1))}]),ms:=st.ms++(st.bs.drop (kept+1)).reverse.map (clM i rule)}
def lvB(bs:List Brn):List Brn:=bs.dropLast.dropLast++[{(Y8 bs.dropLast) with ps:=(Y8 bs.dropLast).ps++[Tr.nd (Y8 bs).n (Y8 bs).ps]}]
def lvS(st:Rst):Rst:={st with bs:=lvB st.bs}
def lwS(rs:List Row)(bs:List Brn):List Str:=match bs.reverse.find? fun c=>X8 rs c.n with|some b=>b.ws|none=>(bs.headD xu7).ws
def wm1(rs:List Row)(ns:List Str)(n:Str):Bool:=decide (ns.length<20) && !((qd8 rs ns).any fun y=>decide (y∈n::(qp6 rs n++wg8 rs n)))
def qg9(rs:List Row)(i:Int)(st:Rst)(n:Str):Rst:=if wm1 rs (L6 st) n=true then wx7 st n i "anew" else st
def qx0(rs:List Row)(i:Int)(st:Rst):Rst:=(lwS rs st.bs).foldl (qg9 rs i) {st with bs:=wUp rs (fun _=>[]) st.bs}
def wx8(i:Int)(g:Str)(k:Nat):Mnd:=⟨i+k,i+k+1,if g.cps.toList[k]?=some 60 then "&l;" else "&a;","sign"⟩
def txS(st:Rst)(i:Int)(g t:Str):Rst:={st with bs:=st.bs.dropLast++[{(Y8 st.bs) with ps:=adP (Y8 st.bs).ps t}],ls:=st.ls++[⟨i,g,(Y8 st.bs).pl++[(adN (Y8 st.bs).ps:Int)],adA (Y8 st.bs).ps⟩]}
def woL(ws:List Str)(n:Str):List Str:=(ws.reverse.erase n).reverse
def opS(rs:List Row)(rk:Str->Nat)(st:Rst)(i:Int)(g n:Str):Rst :=
 if L9 rs (some n)=none then qb7 st i g "strange" else
 if bar rs ((L6 st).take (N3 rs rk (L6 st) 13 n).1) (N3 rs rk (L6 st) 13 n).2=true then qb7 st i g "barred" else
 if 20<(N3 rs rk (L6 st) 13 n).1+(N3 rs rk (L6 st) 13 n).2.length then qb7 st i g "deep" else
 let s2:=U6 (qa9 rs st (N3 rs rk (L6 st) 13 n).1 i "shut") (N3 rs rk (L6 st) 13 n).2.dropLast i "frame"
 if L9 rs (some n)=some ("bare":Str) then lvS {s2 with bs:=qa8 s2.bs n} else{s2 with bs:=qa8 s2.bs n}
def qz1(rs:List Row)(rk:Str->Nat)(st:Rst)(i:Int)(g n:Str):Rst:=match clo rs rk (L6 st) n (L6 st).length with
 | some k=>lvS (qa9 rs st (k+1) i "left")
 | none=>if n∈lwS rs st.bs then{(qb7 st i g "late") with bs:=wUp rs (fun ws=>woL ws n) st.bs} else qb7 st i g "stray"
def yk8(t:Str):Bool:=decide (PySem.Txt.stripChars t (" \n":Str)=("":Str))
def R6(rs:List Row)(st:Rst):List Str:=M9 rs (V7 (L6 st))
def wm2(st:Rst)(i:Int)(g:Str):Rst:={st with ms:=st.ms++(qd9 g.cps.toList g.cps.toList.length).map (wx8 i g)}
def qx1(rs:List Row)(st:Rst)(i:Int)(g t:Str):Rst :=
 if L9 rs (some (V7 (L6 st)))=some ("frame":Str)/\yk8 t=true then qb7 st i g "blank" else
 if 20<(L6 st).length+(R6 rs st).length then qb7 st i g "deep" else
 txS (wm2 (qx0 rs i (U6 st (R6 rs st) i "host")) i g) i g t
def qo7(rs:List Row)(rk:Str->Nat)(st:Rst)(kind:Str)(i:Int)(g t:Str):Rst :=
 if kind=("open":Str) then opS rs rk st i g t else if kind=("close":Str) then qz1 rs rk st i g t else qx1 rs st i g t
section
variable{rs:List Row}{bs l1 l2:List Brn}{b:Brn}
theorem qs0(l:List Brn)(b:Brn):Y8 (l++[b])=b:=by unfold Y8;simp
theorem yd3(rs:List Row)(h:bs≠[]):∃ l1 b l2,bs=l1++b::l2/\LwP rs l1 b l2:=by
 rcases List.eq_nil_or_concat (bs.filter fun c=>X8 rs c.n) with e|⟨zs,z,e⟩
 ·obtain⟨b,l2,rfl⟩:=List.exists_cons_of_ne_nil h
  exact⟨[],b,l2,rfl,.inr ⟨rfl,fun c hc=>Bool.eq_false_iff.mpr (List.filter_eq_nil_iff.mp e c hc)⟩⟩
 ·rw[List.concat_eq_append] at e
  obtain⟨A,B,e1,e2,e3⟩:=xa8 e
  exact⟨A,z,B,e1,.inl ⟨e2,e3⟩⟩
theorem yk9(h:LwP rs l1 b l2):lwS rs (l1++b::l2)=b.ws:=by
 unfold lwS
 rcases h with⟨h1,h2⟩|⟨rfl,h2⟩
 ·have:(l1++b::l2).reverse.find? (fun c=>X8 rs c.n)=some b:=by
   rw[List.reverse_append,List.reverse_cons,List.append_assoc,List.find?_append,List.find?_eq_none.mpr fun c hc=>by rw[h2 c (List.mem_reverse.mp hc)];decide]
   rw[Option.none_or,List.singleton_append,List.find?_cons,h1]
  rw[this]
 ·have:(([]:List Brn)++b::l2).reverse.find? (fun c=>X8 rs c.n)=none:=List.find?_eq_none.mpr fun c hc=>by
   rw[h2 c (by simpa [or_comm] using hc)];decide
  rw[this];rfl
theorem ws7{g:Brn->α}(hg:∀ b ws,g {b with ws:=ws}=g b)(bs:List Brn):(wUp rs f bs).map g=bs.map g:=by
 cases bs with
 | nil=>unfold wUp;split <;> rfl
 | cons c t =>
   obtain⟨l1,b,l2,e,h⟩:=yd3 rs (bs:=c::t) (by simp)
   rw[e,wo7 h]
   simp[hg]
theorem ws8(bs:List Brn):(wUp rs f bs).length=bs.length:=by
 have:=congrArg List.length (ws7 (rs:=rs) (f:=f) (g:=Brn.n) (fun _ _=>rfl) bs)
 simpa using this
theorem zn0(bs:List Brn):(wUp rs f bs).tail.map Brn.n=bs.tail.map Brn.n:=by
 rw[List.map_tail,List.map_tail,ws7 fun _ _=>rfl]
theorem zn1{x:Brn}(h:x∈wUp rs f bs):∃ b∈bs,x=b\/x={b with ws:=f b.ws}:=by
 cases bs with
 | nil=>unfold wUp at h;split at h <;> cases h
 | cons c t =>
   obtain⟨l1,b,l2,e,h2⟩:=yd3 rs (bs:=c::t) (by simp)
   rw[e,wo7 h2] at h
   rw[e]
   rcases List.mem_append.mp h with h|h
   ·exact⟨x,by simp[h],.inl rfl⟩
   ·rcases List.mem_cons.mp h with h|h
    ·exact⟨b,by simp,.inr h⟩
    ·exact⟨x,by simp[h],.inl rfl⟩
theorem xu8(h:bs≠[]):wUp rs f bs≠[]:=fun e=>h (by
 have:=ws8 (rs:=rs) (f:=f) bs
 rw[e] at this
 exact List.eq_nil_of_length_eq_zero this.symm)
structure BB(rs:List Row)(P W T:Nat)(c:Brn):Prop where
 n:c.n.length<=4000
 ps:c.ps.length<=P
 ws:c.ws.length<=W
 wr:∀ n∈c.ws,∃ r∈rs,Row.name r=n
 t:adA c.ps<=T
structure Bg(rs:List Row)(P W M D T:Nat)(st:Rst):Prop where
 c:∀ c∈st.bs,BB rs P W T c
 pl:st.bs.map (fun c=>c.pl.length)=List.range st.bs.length
 nr:∀ c∈st.bs.tail,∃ r∈rs,Row.name r=c.n
 ne:st.bs≠[]
 l:st.bs.length<=21
 m:st.ms.length<=M
 d:st.ls.length<=D
variable{P W M D T:Nat}{st:Rst}
theorem BB.mono{c:Brn}(h:BB rs P W T c)(h1:P<=P')(h2:W<=W')(h3:T<=T'):BB rs P' W' T' c:=⟨h.n,by have:=h.ps;omega,by have:=h.ws;omega,h.wr,by have:=h.t;omega⟩
theorem Bg.mono{M' D':Nat}(h:Bg rs P W M D T st)(h1:P<=P')(h2:W<=W')(h3:M<=M')(h4:D<=D')(h5:T<=T'):Bg rs P' W' M' D' T' st :=
 ⟨fun c hc=>(h.c c hc).mono h1 h2 h5,h.pl,h.nr,h.ne,h.l,by have:=h.m;omega,by have:=h.d;omega⟩
theorem Bg.nlen(h:Bg rs P W M D T st):(L6 st).length+1=st.bs.length:=by
 unfold L6
 rw[List.length_map,List.length_tail]
 have:0<st.bs.length:=List.length_pos_iff.mpr h.ne
 omega
theorem Bg.snoc(h:Bg rs P W M D T st):∃ l b,st.bs=l++[b]/\Y8 st.bs=b/\b.pl.length=l.length/\BB rs P W T b:=by
 rcases List.eq_nil_or_concat st.bs with e|⟨l,b,e⟩
 ·exact absurd e h.ne
 ·rw[List.concat_eq_append] at e
  have hp:=h.pl
  rw[e,List.map_append,List.length_append,List.length_singleton,List.range_succ] at hp
  have:=(List.append_inj' hp rfl).2
  exact⟨l,b,e,by rw[e,qs0],by simpa using this,h.c b (by rw[e];simp)⟩
theorem Bg.drop(h:Bg rs P W M D T st):Bg rs P W (M+1) D T (qb7 st i g rule) :=
 ⟨h.c,h.pl,h.nr,h.ne,h.l,by show(st.ms++[_]).length<=_;have:=h.m;simp;omega,h.d⟩
theorem Bg.ent(h:Bg rs P W M D T st)(hl:st.bs.length<=20)(hn:n.length<=4000)(hr:∃ r∈rs,Row.name r=n):Bg rs P W M D T {st with bs:=qa8 st.bs n}:=by
 obtain⟨l,b,e,e2,hp,hb⟩:=h.snoc
 refine⟨fun c hc=>?_,?_,fun c hc=>?_,by show _++[_]≠[];simp,by show(st.bs++[_]).length<=_;rw[List.length_append,List.length_singleton];omega,h.m,h.d⟩
 ·rcases List.mem_append.mp hc with hc|hc
  ·exact h.c c hc
  ·rw[List.mem_singleton.mp hc]
   exact⟨hn,Nat.zero_le _,Nat.zero_le _,fun n hn=>(by cases hn),Nat.zero_le _⟩
 ·show(st.bs++[xi4 (Y8 st.bs) n]).map _=List.range (st.bs++[_]).length
  rw[List.map_append,h.pl,List.length_append,List.length_singleton,List.range_succ,e2]
  congr 1
  show[(b.pl++[_]).length]=_
  rw[List.length_append,hp,e,List.length_append];rfl
 ·have ht:(st.bs++[xi4 (Y8 st.bs) n]).tail=st.bs.tail++[xi4 (Y8 st.bs) n]:=List.tail_append_of_ne_nil h.ne
  have hc':c∈(st.bs++[xi4 (Y8 st.bs) n]).tail:=hc
  rw[ht] at hc'
  rcases List.mem_append.mp hc' with hc|hc
  ·exact h.nr c hc
  ·rw[List.mem_singleton.mp hc];exact hr
theorem Bg.put(h:Bg rs P W M D T st)(hl:st.bs.length<=20)(hn:n.length<=4000)(hr:∃ r∈rs,Row.name r=n):Bg rs P W (M+1) D T (wx7 st n i rule):=by
 have:=h.ent hl hn hr
 exact⟨this.c,this.pl,this.nr,this.ne,this.l,by show(st.ms++[_]).length<=_;have:=h.m;simp;omega,h.d⟩
theorem qz2(st:Rst)(n:Str)(i:Int)(rule:Str):(wx7 st n i rule).bs.length=st.bs.length+1:=by show(st.bs++[_]).length=_;simp
theorem wk2:∀ (ns:List Str) (st:Rst) (i:Int) (rule:Str),(U6 st ns i rule).bs.length=st.bs.length+ns.length
 | [],st,i,rule=>rfl
 | n::ns,st,i,rule=>by
   show(U6 (wx7 st n i rule) ns i rule).bs.length=_
   rw[wk2 ns,qz2,List.length_cons];omega
theorem Bg.puts:∀ {ns:List Str} {M:Nat} {st:Rst} {i:Int} {rule:Str},Bg rs P W M D T st->st.bs.length+ns.length<=21->(∀ n∈ns,n.length<=4000/\∃ r∈rs,Row.name r=n)->Bg rs P W (M+ns.length) D T (U6 st ns i rule)
 | [],M,st,i,rule,h,_,_=>h
 | n::ns,M,st,i,rule,h,hl,hn=>by
   rw[List.length_cons] at hl
   have:=Bg.puts (ns:=ns) (i:=i) (rule:=rule) (h.put (n:=n) (i:=i) (rule:=rule) (by omega) (hn n (by simp)).1 (hn n (by simp)).2) (by rw[qz2];omega) fun m hm=>hn m (by simp[hm])
   rw[List.length_cons,show M+(ns.length+1)=M+1+ns.length by omega]
   exact this
theorem Bg.wup(h:Bg rs P W M D T st)(hW:W<=W')(hf:∀ c∈st.bs,(f c.ws).length<=W'/\∀ n∈f c.ws,∃ r∈rs,Row.name r=n):Bg rs P W' M D T {st with bs:=wUp rs f st.bs}:=by
 refine⟨fun c hc=>?_,?_,?_,xu8 h.ne,by show(wUp rs f st.bs).length<=_;rw[ws8];exact h.l,h.m,h.d⟩
 ·obtain⟨b,hb,e⟩:=zn1 hc
  have hB:=h.c b hb
  rcases e with rfl|rfl
  ·exact hB.mono (Nat.le_refl _) hW (Nat.le_refl _)
  ·exact⟨hB.n,hB.ps,(hf b hb).1,(hf b hb).2,hB.t⟩
 ·show(wUp rs f st.bs).map _=List.range (wUp rs f st.bs).length
  rw[ws7 fun _ _=>rfl,ws8];exact h.pl
 ·intro c hc
  have h1:c.n∈(wUp rs f st.bs).tail.map Brn.n:=List.mem_map_of_mem hc
  rw[zn0] at h1
  obtain⟨b,hb,e⟩:=List.mem_map.mp h1
  rw[<-e];exact h.nr b hb
theorem zf2{ns:List Str}(h:n∈qb3 rs ns):n∈ns:=(List.takeWhile_sublist _).mem (List.mem_filter.mp h).1
theorem yw0(cl:List Brn):(V8 cl).length<=1:=by cases cl <;> simp[V8]
theorem zf3{ps:List Tr}:adA (ps++V8 cl)<=adA ps:=by
 cases cl with
 | nil=>rw[V8,List.append_nil];exact Nat.le_refl _
 | cons c cl =>
   rw[V8]
   unfold adA
   rw[List.getLast?_concat]
   exact Nat.zero_le _
theorem zw3{ps:List Tr}{qs:List Tr}:adA (ps++[Tr.nd n qs])=0:=by
 unfold adA
 rw[List.getLast?_concat]
theorem zn2(ps:List Tr)(t:Str):(adP ps t).length<=ps.length+1:=by
 unfold adP
 split
 ·rw[List.length_append,List.length_dropLast,List.length_singleton];omega
 ·rw[List.length_append,List.length_singleton];omega
theorem zn3(ps:List Tr)(t:Str):adA (adP ps t)=adA ps+t.length:=by
 unfold adP
 cases h:ps.getLast? with
 | none =>
   have e:adA ps=0:=by unfold adA;rw[h]
   rw[e]
   unfold adA
   rw[List.getLast?_concat]
   show t.length=_
   omega
 | some x =>
   cases x with
   | tx u =>
     have e:adA ps=u.length:=by unfold adA;rw[h]
     rw[e]
     unfold adA
     rw[List.getLast?_concat]
     exact U8 u t
   | nd n qs =>
     have e:adA ps=0:=by unfold adA;rw[h]
     rw[e]
     unfold adA
     rw[List.getLast?_concat]
     show t.length=_
     omega
theorem xu9{bs:List Brn}{k:Nat}(h:k<bs.length):bs.getD k xu7=bs[k]:=by simp[List.getD,h]
theorem wk3{kept:Nat}:(qa9 rs st kept i rule).bs.length=(st.bs.take kept).length+1:=by
 show(wUp rs _ _).length=_
 rw[ws8];simp
theorem Bg.cls{kept:Nat}(h:Bg rs P W M D T st)(hk:kept<st.bs.length):Bg rs (P+1) (W+20) (M+20) D T (qa9 rs st kept i rule):=by
 have hb:=h.c (st.bs[kept]) (List.getElem_mem hk)
 have hcl:(st.bs.drop (kept+1)).length<=20:=by rw[List.length_drop];have:=h.l;omega
 have hnl:=yw0 (st.bs.drop (kept+1))
 have e0:st.bs.getD kept xu7=st.bs[kept]:=xu9 hk
 have b1:Bg rs (P+1) W (M+20) D T {st with bs:=st.bs.take kept++[{(st.bs[kept]) with ps:=(st.bs[kept]).ps++V8 (st.bs.drop (kept+1))}],ms:=st.ms++(st.bs.drop (kept+1)).reverse.map (clM i rule)}:=by
  refine⟨fun c hc=>?_,?_,fun c hc=>?_,by show _++[_]≠[];simp,?_,?_,h.d⟩
  ·rcases List.mem_append.mp hc with hc|hc
   ·exact(h.c c (List.mem_of_mem_take hc)).mono (by omega) (by omega) (by omega)
   ·rw[List.mem_singleton.mp hc]
    refine⟨hb.n,?_,hb.ws,hb.wr,Nat.le_trans zf3 hb.t⟩
    show(_++_:List Tr).length<=_
    rw[List.length_append];have:=hb.ps;omega
  ·show(st.bs.take kept++[_]).map _=List.range (st.bs.take kept++[_]).length
   rw[List.map_append,List.map_singleton]
   show List.map (fun c=>c.pl.length) (st.bs.take kept)++[(st.bs[kept]).pl.length]=_
   rw[<-List.map_singleton (f:=fun c:Brn=>c.pl.length),<-List.map_append,<-qo5 (List.getElem?_eq_getElem hk),List.map_take,h.pl,List.take_range,List.length_append,List.length_take,List.length_singleton]
   congr 1
   omega
  ·have hc':c∈(st.bs.take kept++[{(st.bs[kept]) with ps:=(st.bs[kept]).ps++V8 (st.bs.drop (kept+1))}]).tail:=hc
   have h1:c.n∈((st.bs.take kept++[{(st.bs[kept]) with ps:=(st.bs[kept]).ps++V8 (st.bs.drop (kept+1))}]).tail).map Brn.n:=List.mem_map_of_mem hc'
   rw[List.map_tail,List.map_append,List.map_singleton] at h1
   have h2:c.n∈(List.map Brn.n (st.bs.take kept)++[(st.bs[kept]).n]).tail:=h1
   rw[<-List.map_singleton (f:=Brn.n),<-List.map_append,<-qo5 (List.getElem?_eq_getElem hk),<-List.map_tail] at h2
   obtain⟨b,hb,e⟩:=List.mem_map.mp h2
   rw[<-e]
   refine h.nr b ?_
   have h3:b∈(st.bs.tail).take kept:=by
    have:(st.bs.take (kept+1)).tail=st.bs.tail.take kept:=by cases st.bs <;> simp
    rw[<-this];exact hb
   exact List.mem_of_mem_take h3
  ·show(st.bs.take kept++[_]).length<=21
   rw[List.length_append,List.length_take,List.length_singleton];have:=h.l;omega
  ·show(st.ms++_).length<=_
   rw[List.length_append,List.length_map,List.length_reverse];have:=h.m;omega
 have:=b1.wup (f:=(·++qb3 rs ((st.bs.drop (kept+1)).map Brn.n))) (W':=W+20) (by omega) (fun c hc=>?_)
 ·show Bg _ _ _ _ _ _ {st with bs:=_,ms:=_}
  rw[e0]
  exact this
 ·have hB:=b1.c c hc
  have hw1:(qb3 rs ((st.bs.drop (kept+1)).map Brn.n)).length<=20:=by
   have h1:=xi3 rs (((st.bs.drop (kept+1)).map Brn.n).takeWhile fun n=>!(X8 rs n))
   have h2:(((st.bs.drop (kept+1)).map Brn.n).takeWhile fun n=>!(X8 rs n)).length<=((st.bs.drop (kept+1)).map Brn.n).length:=(List.takeWhile_sublist _).length_le
   rw[List.length_map] at h2
   unfold qb3;omega
  refine⟨by show(c.ws++_).length<=_;rw[List.length_append];have:=hB.ws;omega,fun n hn=>?_⟩
  rcases List.mem_append.mp hn with hn|hn
  ·exact hB.wr n hn
  ·obtain⟨b,hb,e⟩:=List.mem_map.mp (zf2 hn)
   rw[<-e]
   refine h.nr b ?_
   have:st.bs.drop (kept+1)=st.bs.tail.drop kept:=by rw[<-List.drop_one,List.drop_drop];congr 1;omega
   rw[this] at hb
   exact List.mem_of_mem_drop hb
theorem wx9(l:List Brn)(b1 b2:Brn):lvB (l++[b1,b2])=l++[{b1 with ps:=b1.ps++[Tr.nd b2.n b2.ps]}]:=by
 unfold lvB
 have e:l++[b1,b2]=(l++[b1])++[b2]:=by simp
 rw[e,List.dropLast_concat,List.dropLast_concat,qs0,qs0]
theorem xv0{bs:List Brn}(h:2<=bs.length):∃ l b1 b2,bs=l++[b1,b2]:=by
 rcases List.eq_nil_or_concat bs with e|⟨l,b2,e⟩
 ·rw[e] at h;simp at h
 ·rw[List.concat_eq_append] at e
  rcases List.eq_nil_or_concat l with e1|⟨l',b1,e1⟩
  ·rw[e,e1] at h;simp at h
  ·rw[List.concat_eq_append] at e1
   exact⟨l',b1,b2,by rw[e,e1];simp⟩
theorem Bg.lv(h:Bg rs P W M D T st)(h2:2<=st.bs.length):Bg rs (P+1) W M D T (lvS st):=by
 obtain⟨l,b1,b2,e⟩:=xv0 h2
 have e1:(lvS st).bs=l++[{b1 with ps:=b1.ps++[Tr.nd b2.n b2.ps]}]:=by show lvB st.bs=_;rw[e,wx9]
 have hb:=h.c b1 (by rw[e];simp)
 have hpl:=h.pl
 rw[e] at hpl
 refine⟨fun c hc=>?_,?_,fun c hc=>?_,by rw[e1];simp,by rw[e1];have:=h.l;rw[e] at this;simp at this ⊢;omega,h.m,h.d⟩
 ·rw[e1] at hc
  rcases List.mem_append.mp hc with hc|hc
  ·exact(h.c c (by rw[e];simp[hc])).mono (by omega) (by omega) (by omega)
  ·rw[List.mem_singleton.mp hc]
   refine⟨hb.n,?_,hb.ws,hb.wr,?_⟩
   ·show(b1.ps++[_]).length<=_;rw[List.length_append,List.length_singleton];have:=hb.ps;omega
   ·show adA (b1.ps++[_])<=_
    rw[zw3];exact Nat.zero_le _
 ·rw[e1,List.map_append]
  have e2:l++[b1,b2]=(l++[b1])++[b2]:=by simp
  rw[e2,List.map_append,List.length_append,List.length_singleton,List.range_succ] at hpl
  have:=(List.append_inj' hpl rfl).1
  rw[List.map_append] at this
  rw[show(l++[({b1 with ps:=b1.ps++[Tr.nd b2.n b2.ps]}:Brn)]).length=(l++[b1]).length by simp]
  exact this
 ·rw [e1] at hc
  have h1:c.n∈(l++[({b1 with ps:=b1.ps++[Tr.nd b2.n b2.ps]}:Brn)]).tail.map Brn.n:=List.mem_map_of_mem hc
  rw[List.map_tail,List.map_append] at h1
  have h2:c.n∈(l.map Brn.n++[b1.n]).tail:=h1
  have h3:c.n∈(st.bs.map Brn.n).tail:=by
   rw[e]
   cases l with
   | nil=>cases h2
   | cons x l =>
     have h4:c.n∈l.map Brn.n++[b1.n]:=h2
     show c.n∈(l++[b1,b2]).map Brn.n
     rw[List.map_append]
     rcases List.mem_append.mp h4 with h|h
     ·exact List.mem_append_left _ h
     ·exact List.mem_append_right _ (by rw[List.mem_singleton.mp h];simp)
  rw[<-List.map_tail] at h3
  obtain⟨b,hb,e4⟩:=List.mem_map.mp h3
  rw[<-e4];exact h.nr b hb
theorem Bg.tx(h:Bg rs P W M D T st):Bg rs (P+1) W M (D+1) (T+t.length) (txS st i g t):=by
 obtain⟨l,b,e,e2,hp,hb⟩:=h.snoc
 have e1:(txS st i g t).bs=l++[{b with ps:=adP b.ps t}]:=by show st.bs.dropLast++[_]=_;rw[e2,e,List.dropLast_concat]
 have hpl:=h.pl
 rw[e] at hpl
 refine⟨fun c hc=>?_,?_,fun c hc=>?_,by rw[e1];simp,by rw[e1];have:=h.l;rw[e] at this;simp at this ⊢;omega,h.m,by show(st.ls++[_]).length<=_;have:=h.d;simp;omega⟩
 ·rw[e1] at hc
  rcases List.mem_append.mp hc with hc|hc
  ·exact(h.c c (by rw[e];simp[hc])).mono (by omega) (by omega) (by omega)
  ·rw[List.mem_singleton.mp hc]
   refine⟨hb.n,?_,hb.ws,hb.wr,?_⟩
   ·show(adP b.ps t).length<=_;have:=hb.ps;have:=zn2 b.ps t;omega
   ·show adA (adP b.ps t)<=_
    rw[zn3];have:=hb.t;omega
 ·rw[e1,List.map_append]
  rw[List.map_append] at hpl
  rw[show(l++[({b with ps:=adP b.ps t}:Brn)]).length=(l++[b]).length by simp]
  exact hpl
 ·rw[e1] at hc
  have h1:c.n∈(l++[({b with ps:=adP b.ps t}:Brn)]).tail.map Brn.n:=List.mem_map_of_mem hc
  rw[List.map_tail,List.map_append] at h1
  have h2:c.n∈(st.bs.map Brn.n).tail:=by rw[e,List.map_append];exact h1
  rw[<-List.map_tail] at h2
  obtain⟨b,hb,e4⟩:=List.mem_map.mp h2
  rw[<-e4];exact h.nr b hb
theorem Bg.sign(h:Bg rs P W M D T st):Bg rs P W (M+g.length) D T (wm2 st i g) :=
 ⟨h.c,h.pl,h.nr,h.ne,h.l,by
  show(st.ms++_).length<=_
  rw[List.length_append,List.length_map]
  have h1:=wj9 g.cps.toList g.cps.toList.length
  have h2:g.cps.toList.length=g.length:=Array.length_toList
  have:=h.m;omega,h.d⟩
theorem xv1{rs:List Row}{P W M D T:Nat}{i:Int}(hN:∀ r∈rs,(Row.name r).length<=4000):∀ (ws:List Str) (s:Rst),Bg rs P W (M+21) D T s->s.ms.length<=M+s.bs.length->(∀ n∈ws,∃ r∈rs,Row.name r=n)->Bg rs P W (M+21) D T (ws.foldl (qg9 rs i) s)/\(ws.foldl (qg9 rs i) s).ms.length<=M+(ws.foldl (qg9 rs i) s).bs.length
 | [],s,h,hm,_=>⟨h,hm⟩
 | n :: ws,s,h,hm,hw=>by
   rw[List.foldl_cons]
   have hr:=hw n (by simp)
   refine xv1 hN ws _ ?_ ?_ fun m hm=>hw m (by simp[hm])
   ·unfold qg9
    split
    ·rename_i ha
     unfold wm1 at ha
     rw[Bool.and_eq_true,decide_eq_true_eq] at ha
     have hl:=h.nlen
     have hp:=h.put (n:=n) (i:=i) (rule := "anew") (by omega) (by obtain⟨r,h1,h2⟩:=hr;rw[<-h2];exact hN r h1) hr
     refine⟨hp.c,hp.pl,hp.nr,hp.ne,hp.l,?_,hp.d⟩
     have h2:=qz2 s n i "anew"
     have h3:=hp.l
     show(s.ms++[_]).length<=_
     rw[List.length_append,List.length_singleton]
     omega
    ·exact h
   ·unfold qg9
    split
    ·rw[qz2]
     show(s.ms++[_]).length<=_
     rw[List.length_append,List.length_singleton];omega
    ·exact hm
theorem yl0(h:Bg rs P W M D T st):(lwS rs st.bs).length<=W/\∀ n∈lwS rs st.bs,∃ r∈rs,Row.name r=n:=by
 obtain⟨l1,b,l2,e,lw⟩:=yd3 rs h.ne
 have hb:=h.c b (by rw[e];simp)
 rw[e,yk9 lw]
 exact⟨hb.ws,hb.wr⟩
theorem Bg.anews(h:Bg rs P W M D T st)(hN:∀ r∈rs,(Row.name r).length<=4000):Bg rs P W (M+21) D T (qx0 rs i st):=by
 have h1:=h.wup (f:=fun _=>[]) (W':=W) (Nat.le_refl _) fun c _=>⟨Nat.zero_le _,fun n hn=>by cases hn⟩
 refine(xv1 hN _ _ (h1.mono (Nat.le_refl _) (Nat.le_refl _) (by omega) (Nat.le_refl _) (Nat.le_refl _)) ?_ (yl0 h).2).1
 show st.ms.length<=_
 have:=h.m
 omega
theorem yl1{rec:Str->Nat×List Str}:∃ ps,(ws0 rs rk ys rec x).2=ps++[x]:=by
 unfold ws0
 split
 ·unfold qn5
  split
  ·exact⟨[],rfl⟩
  ·exact⟨_,rfl⟩
 ·split
  ·exact⟨[],rfl⟩
  ·exact⟨_,rfl⟩
theorem wy0(n:Nat)(x:Str):∃ ps,(N3 rs rk ys n x).2=ps++[x]:=by
 cases n <;> (rw[N3];exact yl1)
theorem wy1(h:L9 rs (some n)≠none):∃ r∈rs,Row.name r=n:=by
 unfold L9 at h
 cases e:qb2 rs (some n) with
 | none=>rw[e] at h;exact absurd rfl h
 | some r=>exact⟨r,(wg7 e).1,(wg7 e).2⟩
structure Bok(rs:List Row)(rk:Str->Nat):Prop where
 B:Boo rs
 f:wr3 rs rk
 k:∀ x,rk x<=13
 n:∀ r∈rs,(Row.name r).length<=4000
 sb:∀ r∈rs,r.shuts.length<=1000/\r.bars.length<=1000
theorem Bok.row(b:Bok rs rk){n:Str}(h:∃ r∈rs,Row.name r=n):n.length<=4000:=by obtain⟨r,h1,h2⟩:=h;rw[<-h2];exact b.n r h1
theorem Bg.op(b:Bok rs rk)(h:Bg rs P W M D T st):Bg rs (P+2) (W+20) (M+60) D T (opS rs rk st i g n):=by
 have hd:∀ rule,Bg rs (P+2) (W+20) (M+60) D T (qb7 st i g rule):=fun rule=>h.drop.mono (by omega) (by omega) (by omega) (by omega) (by omega)
 unfold opS
 split
 ·exact hd _
 rename_i hs
 split
 ·exact hd _
 split
 ·exact hd _
 rename_i hlen
 have hrow:=wy1 hs
 have w:=wj6 b.B b.f (ys:=L6 st) 13 n hrow (b.k n)
 have hnl:=h.nlen
 obtain⟨ps,hps⟩:=wy0 (rs:=rs) (rk:=rk) (ys:=L6 st) 13 n
 have hw1:=w.k
 have hm:=w.m
 generalize N3 rs rk (L6 st) 13 n=wt at *
 have hk:wt.1<st.bs.length:=by omega
 have e1:wt.2.dropLast=ps:=by rw[hps,List.dropLast_concat]
 have e2:wt.2.length=ps.length+1:=by rw[hps];simp
 have hc:=h.cls (i:=i) (rule := "shut") hk
 have hcl:(qa9 rs st wt.1 i "shut").bs.length=wt.1+1:=by rw[wk3,List.length_take];omega
 have hp:=hc.puts (ns:=ps) (i:=i) (rule := "frame") (by rw[hcl];omega) fun m hmm=>by
  have:=hm m (by rw[hps];simp[hmm])
  exact⟨b.row this,this⟩
 have hpl:=wk2 ps (qa9 rs st wt.1 i "shut") i "frame"
 have hpb:ps.length<=20:=by omega
 have he:=hp.ent (n:=n) (by rw[hpl,hcl];omega) (b.row hrow) hrow
 rw[e1]
 dsimp only
 split
 ·refine(he.lv ?_).mono (by omega) (by omega) (by omega) (by omega) (by omega)
  show 2<=(qa8 _ n).length
  unfold qa8
  rw[List.length_append,hpl,hcl,List.length_singleton];omega
 ·exact he.mono (by omega) (by omega) (by omega) (by omega) (by omega)
theorem zn4(ws:List Str)(n:Str):(woL ws n).length<=ws.length:=by
 unfold woL
 rw[List.length_reverse,<-List.length_reverse (as:=ws)]
 exact List.length_erase_le
theorem zn5{ws:List Str}{m:Str}(h:m∈woL ws n):m∈ws:=by
 unfold woL at h
 exact List.mem_reverse.mp (List.mem_of_mem_erase (List.mem_reverse.mp h))
theorem Bg.clo(h:Bg rs P W M D T st):Bg rs (P+2) (W+20) (M+60) D T (qz1 rs rk st i g n):=by
 have hnl:=h.nlen
 unfold qz1
 split
 ·rename_i k hk
  have:=xh5 hk
  refine((h.cls (by omega)).lv ?_).mono (by omega) (by omega) (by omega) (by omega) (by omega)
  rw[wk3,List.length_take];omega
 ·split
  ·refine((h.drop (i:=i) (g:=g) (rule := "late")).wup (f:=fun ws=>woL ws n) (W':=W) (Nat.le_refl _) fun c hc=>⟨?_,fun m hm=>?_⟩).mono (by omega) (by omega) (by omega) (by omega) (by omega)
   ·have h1:=(h.c c hc).ws
    have h2:=zn4 c.ws n
    exact Nat.le_trans h2 h1
   ·exact(h.c c hc).wr m (zn5 hm)
  ·exact h.drop.mono (by omega) (by omega) (by omega) (by omega) (by omega)
theorem Bg.run(b:Bok rs rk)(h:Bg rs P W M D T st):Bg rs (P+2) (W+20) (M+60+g.length) (D+1) (T+t.length) (qx1 rs st i g t):=by
 have hnl:=h.nlen
 unfold qx1
 split
 ·exact h.drop.mono (by omega) (by omega) (by omega) (by omega) (by omega)
 split
 ·exact h.drop.mono (by omega) (by omega) (by omega) (by omega) (by omega)
 rename_i hlen
 have hh:(R6 rs st).length<=12:=ql1 rs 12 _
 have hp:=h.puts (ns:=R6 rs st) (i:=i) (rule := "host") (by omega) fun m hm=>by
  have:=qy7 b.B 12 _ m hm
  exact⟨b.row this,this⟩
 exact((hp.anews (i:=i) b.n).sign.tx).mono (by omega) (by omega) (by omega) (by omega) (by omega)
theorem Bg.step(b:Bok rs rk)(h:Bg rs P W M D T st):Bg rs (P+2) (W+20) (M+60+g.length) (D+1) (T+t.length) (qo7 rs rk st kind i g t):=by
 unfold qo7
 split
 ·exact(h.op b).mono (by omega) (by omega) (by omega) (by omega) (by omega)
 split
 ·exact h.clo.mono (by omega) (by omega) (by omega) (by omega) (by omega)
 ·exact h.run b
end
theorem zq4(n p q w v:V):qm6 ("waiting":Str) v [(("name":Str),n),(("place":Str),p),(("parts":Str),q),(("waiting":Str),w)]=[(("name":Str),n),(("place":Str),p),(("parts":Str),q),(("waiting":Str),v)]:=by
 show(if(("name":Str)) = "waiting" then _ else _::(if(("place":Str)) = "waiting" then _ else _::(if(("parts":Str)) = "waiting" then _ else _::(if(("waiting":Str)) = "waiting" then _ else _))))=_
 rw[if_neg (by decide),if_neg (by decide),if_neg (by decide),if_pos rfl]
theorem zf4{H3:Hp}(h1:T5 H1 H2)(h2:T5 H2 H3):T5 H1 H3:=⟨fun c xs e=>h2.1 c xs (h1.1 c xs e),fun c o xs e=>h2.2 c o xs (h1.2 c o xs e)⟩
section
variable{kR kB r:Addr}{bv:V}{a:RAd}{st:Rst}
theorem Rup.waitN{x:BA}{w:Addr}{ws:List Str}(h:RdO K H kR kB r bv a st)(ea:a.as=m1++x::m2)(eb:st.bs=l1++b::l2)(hl:m1.length=l1.length)(hw:H w=none) :
 Rup K kR kB r bv H a (upd (upd H w (.lst (C1 ws))) x.o (.ins kB x.x (bF {x with w:=w} b))) {a with as:=m1++{x with w:=w}::m2} {st with bs:=l1++{b with ws:=ws}::l2}:=by
 have hb:=h.b
 rw[ea,eb] at hb
 have hx:=(hb.split hl).2.1
 have xnd:=h.xnd ea
 have no:x.o≠x.q:=by simp[BA.fp] at xnd;exact xnd.1.1
 have nwo:x.o≠w:=Y4 hw hx.o
 obtain⟨us,q1,q2⟩:=hx.q
 have nwq:x.q≠w:=Y4 hw q1
 have s1:=A7.new hw (.lst (C1 ws))
 have tk:T5 H (upd (upd H w (.lst (C1 ws))) x.o (.ins kB x.x (bF {x with w:=w} b))):=zf4 s1.tupK (N7 (.inr ⟨_,_,_,s1 _ _ hx.o⟩))
 refine Rup.swap h ea eb hl (fun z u e n=>J5 (s1 _ _ e) fun y=>n (by rw[y];simp[BA.fp])) ⟨A6,tk.sqT hx.p,⟨us,J5 (s1 _ _ q1) (Ne.symm no),Dvs.tupK tk _ _ (qe6 _) q2⟩,J5 A6 (Ne.symm nwo)⟩ (fun z hz=>?_) ?_ rfl
 ·simp only[BA.fp,List.mem_cons,List.not_mem_nil,or_false] at hz ⊢
  rcases hz with rfl|rfl|rfl
  ·exact .inl (.inl rfl)
  ·exact .inl (.inr (.inl rfl))
  ·exact .inr hw
 ·simp[BA.fp,no,nwo,nwq]
end
theorem zf5{a c:List Str}:(ys.any fun y=>decide (y∈[n]++a++c))=ys.any fun y=>decide (y∈n::(a++c)):=rfl
abbrev qu9(K:Fg):TS :=
 (M0 (ym1 (tOp xs4 (tCB (O6 K) (A2 (A3 1) B0)) (tC (.int 20))) (yw7 (E2 (X2 K) [] E0 (A2 (E2 (ql2 K) [] E0 (A2 (A3 0) (A2 (A3 1) B0))) (A2 (A3 4) B0))))))
abbrev qv0(K:Fg):TS :=
 (C0 (E9 (tOp (qy3 K) (tOp (qy3 K) (M2 (A2 (A3 2) B0)) (tOp (M7 K) (A3 3) (tC (.int 3)))) (tOp (M7 K) (A3 3) (tC (.int 4)))) (B2 4))
 (qu9 K))
def qb0(K:Fg):Sp:=fun vs H Q _=>∃ (v:V) (a:Addr) (ns:List Str) (n:Str) (rs:List Row),vs=[v,.ref a,.str n]/\BkO K H v rs/\SqT K H a (C1 ns)/\ns.length<=1000/\(∃ r∈rs,Row.name r=n)/\(∀ r∈rs,r.shuts.length<=1000/\r.bars.length<=1000)/\∀ H',A7 H H'->Q (.bl (wm1 rs ns n)) H'
def qf3(K:Fg):TS :=
 (C0 (E9 (E2 (qg6 K) [] E0 (A2 (A3 0) (A2 (A3 2) B0))) (B2 3))
 (qv0 K))
theorem wy2(h:qb0 K vs H Q E):qf3 K {nx:=fun _ H'=>Q .non H',rt:=Q} (E8 ["book","names","name","row","unfit"] vs) H:=by
 obtain⟨v,a,ns,n,rs,rfl,hk,ha,hl,hrow,hsb,q⟩:=h
 show qf3 K _ [some v,some (.ref a),some (.str n),none,none] H
 unfold qf3
 obtain⟨r0,er,hr0,hrn⟩:=xt5 hrow
 lk
 refine⟨v,some n,rs,rfl,hk.rws,fun e=>(by rw[er] at e;cases e),fun r u e hu=>?_⟩
 rw[er] at e
 obtain rfl:=Option.some.inj e
 obtain⟨b,ps,pb,rfl,hb,hps,hpb⟩:=xt6 hu
 obtain⟨l1,l2⟩:=hsb r0 hr0
 show qv0 K _ _ _
 lk
 refine⟨E1 (by z_go),fun p hp=>?_⟩
 have s1:=A7.new hp (.tup [.str n])
 lk
 refine W3 (s1.sqT hb) (v:=.ref ps) rfl ?_
 refine wn7 (SqT.of A6) (s1.sqT hps) (by rw[C3];exact E1 (by simp;omega)) fun p2 H2 s2 hp2=>?_
 have s12:=A7.tr s1 s2
 lk
 refine W3 (s12.sqT hb) (v:=.ref pb) rfl ?_
 refine wn7 hp2 (s12.sqT hpb) (by rw[C3,List.length_append,C3];exact E1 (by simp;omega)) fun p3 H3 s3 hp3=>?_
 have s13:=A7.tr s12 s3
 have hp3':SqT K H3 p3 (C1 ([n]++r0.shuts++r0.bars)):=by simpa [C1] using hp3
 show qu9 K _ _ _
 lk
 refine Q3 (.inr (s13.sqT ha)) ?_
 rw[C3]
 lk
 have esh:qp6 rs n=r0.shuts:=by unfold qp6;rw[er]
 have ebr:wg8 rs n=r0.bars:=by unfold wg8;rw[er]
 by_cases hlt:ns.length<20
 ·rw[decide_eq_true (show(ns.length:Int)<20 by omega)]
  x_go
  lk
  refine⟨v,a,ns,rs,rfl,(hk.same s13).rws,s13.sqT ha,hl,fun p4 H4 s4 hp4=>?_⟩
  lk
  refine⟨p4,p3,qd8 rs ns,_,rfl,hp4,s4.sqT hp3',by have:=qy6 rs ns.length ns rfl;omega,fun H5 s5=>?_⟩
  lk
  have ea:wm1 rs ns n=!((qd8 rs ns).any fun y=>decide (y∈[n]++r0.shuts++r0.bars)):=by
   unfold wm1
   rw[decide_eq_true hlt,esh,ebr,zf5];rfl
  have:=q H5 (A7.tr (A7.tr s13 s4) s5)
  rw[ea] at this
  exact this
 ·rw[decide_eq_false (show ¬(ns.length:Int)<20 by omega)]
  k_go
  have ea:wm1 rs ns n=false:=by unfold wm1;rw[decide_eq_false hlt];rfl
  have:=q H3 s13
  rw[ea] at this
  exact this
theorem xi5{n:Str}:∀ {ws:List Str},n∈ws->∃ A B,ws=A++n::B/\n∉B
 | [],h=>by cases h
 | x::ws,h=>by
   by_cases hn:n∈ws
   ·obtain⟨A,B,e,hB⟩:=xi5 hn
    exact⟨x::A,B,by rw[e];rfl,hB⟩
   ·rcases List.mem_cons.mp h with h|h
    ·exact⟨[],ws,by rw[h];rfl,hn⟩
    ·exact absurd h hn
theorem yw1(h:n∉B):woL (A++n::B) n=A++B:=by
 unfold woL
 rw[List.reverse_append,List.reverse_cons,List.append_assoc,List.erase_append_right _ (by simpa using h)]
 simp
abbrev qz3(K:Fg):TS :=
 (M0 (tOp (J0 K) (tSl (wq8 K) (A3 0) qh1 (Z4 (A3 2))) (tSl (wq8 K) (A3 0) (Z4 (tOp (J0 K) (A3 2) (tC (.int 1)))) qh1)))
abbrev qz4(K:Fg):TS :=
 (C0 (wa8 (L0 (tOp (xs3 K) (tOp (M7 K) (A3 0) (A3 2)) (A3 1)))
 (E9 (tOp (rI0 fun i j=>.int (i-j)) (A3 2) (tC (.int 1))) (B2 2)))
 (qz3 K))
def qf4(K:Fg):Sp:=fun vs H Q _=>∃ (p:Addr) (ws:List Str) (n:Str),vs=[.ref p,.str n]/\H p=some (.lst (C1 ws))/\n∈ws/\ws.length<=9000000/\∀ (q:Addr) (H':Hp),A7 H H'->H q=none->H' q=some (.lst (C1 (woL ws n)))->Q (.ref q) H'
def qi3(K:Fg):TS :=
 (C0 (E9 (tOp (rI0 fun i j=>.int (i-j)) (tCB (O6 K) (A2 (A3 0) B0)) (tC (.int 1))) (B2 2))
 (qz4 K))
theorem xc6(h:qf4 K vs H Q E):qi3 K {nx:=fun _ H'=>Q .non H',rt:=Q} (E8 ["names","name","number"] vs) H:=by
 obtain⟨p,ws,n,rfl,hp,hn,hl,q⟩:=h
 show qi3 K _ [some (.ref p),some (.str n),none] H
 unfold qi3
 obtain⟨A,B,rfl,hB⟩:=xi5 hn
 have hlen:(A++n::B).length=A.length+B.length+1:=by simp;omega
 lk
 refine Q3 (.inl (SqL.of hp)) ?_
 rw[C3,hlen]
 lk
 have e0:((A.length+B.length+1:Nat):Int)-1=((A.length+B.length:Nat):Int):=by omega
 rw[e0]
 show qz4 K _ _ _
 refine qg3 ?_
 refine yv1 (fun σ H'=>H'=H/\∃ m:Nat,m<=B.length/\σ=[some (.ref p),some (.str n),some (.int ((A.length+m:Nat):Int))]) (fun σ _=>match σ with | [_,_,some (.int k)]=>k.toNat-A.length|_=>0) ⟨rfl,B.length,Nat.le_refl _,rfl⟩ ?_
 rintro σ H' ⟨rfl,m,hm,rfl⟩
 lk
 cases m with
 | zero =>
   refine O0 (SqL.of hp) (v:=.str n) (U7 (by simp[C1])) ?_
   lk
   rw[decide_eq_true rfl]
   k_go
   show qz3 K _ _ _
   lk
   refine yo2 (SqL.of hp) fun p1 hp1=>?_
   have e1:qn3 (C1 (A++n::B)) none (some ((A.length+0:Nat):Int))=C1 A:=by rw[xh4];simp
   rw[e1]
   have s1:=A7.new hp1 (.lst (C1 A))
   lk
   refine yo2 (SqL.of (s1 _ _ hp)) fun p2 hp2=>?_
   have e2:qn3 (C1 (A++n::B)) (some (((A.length+0:Nat):Int)+1)) none=C1 B:=by
    rw[wx5 (by omega),show(((A.length+0:Nat):Int)+1).toNat=A.length+1 by omega]
    show((A++n::B).map V.str).drop _=B.map V.str
    rw[<-List.map_drop]
    congr 1
    rw[List.drop_append,List.drop_eq_nil_of_le (by omega),show A.length+1-A.length=1 by omega];rfl
   rw[e2]
   have s2:=A7.new hp2 (.lst (C1 B))
   lk
   refine xz5 (s2 _ _ A6) A6 (by rw[C3,C3,sizeLine_eq];omega) fun p3 hp3=>?_
   have s3:=A7.new hp3 (.lst (C1 A++C1 B))
   lk
   refine q _ _ (A7.tr (A7.tr s1 s2) s3) (A7.grow (A7.tr s1 s2) _ hp3) ?_
   rw[A6,yw1 hB]
   simp[C1]
 | succ m =>
   have hg:(A++n::B)[A.length+(m+1)]?=some B[m]:=by
    rw[List.getElem?_append_right (by omega),show A.length+(m+1)-A.length=m+1 by omega,List.getElem?_cons_succ,List.getElem?_eq_getElem (by omega)]
   refine O0 (SqL.of hp) (v:=.str B[m]) (U7 (by unfold C1;rw[List.getElem?_map,hg];rfl)) ?_
   lk
   rw[decide_eq_false fun e=>hB (by rw[<-e];exact List.getElem_mem _)]
   x_go
   refine⟨fun σ' H''=>H''=H'/\σ'=[some (.ref p),some (.str n),some (.int ((A.length+m:Nat):Int))],?_,?_⟩
   ·rintro σ' H'' ⟨rfl,rfl⟩
    refine⟨m,?_,?_,rfl,m,by omega,rfl⟩
    ·show m<(((A.length+(m+1):Nat):Int)).toNat-A.length;omega
    ·show m=(((A.length+m:Nat):Int)).toNat-A.length;omega
   ·lk
    refine⟨rfl,?_⟩
    show[some (V.ref p),some (V.str n),some (V.int (((A.length+(m+1):Nat):Int)-1))]=_
    rw[show((A.length+(m+1):Nat):Int)-1=((A.length+m:Nat):Int) by omega]
theorem RdO.old_w{r:Addr}{a:RAd}{x:BA}{w:Addr}(h:RdO K H kR kB r bv a st)(ea:a.as=m1++x::m2)(hw:H w=none)(hx:H x.w≠none):x.w∉RAd.fp r {a with as:=m1++{x with w:=w}::m2}:=by
 have nd:=h.nd
 have e1:RAd.fp r a=(r::a.L::a.M::a.A::(fpA m1++[x.o,x.q]))++x.w::fpA m2:=by
  unfold RAd.fp;rw[ea,R0,P9];simp[BA.fp]
 have e2:RAd.fp r {a with as:=m1++{x with w:=w}::m2}=(r::a.L::a.M::a.A::(fpA m1++[x.o,x.q]))++w::fpA m2:=by
  unfold RAd.fp
  show r::a.L::a.M::a.A::fpA (m1++{x with w:=w}::m2)=_
  rw[R0,P9];simp[BA.fp]
 rw[e1,List.nodup_append] at nd
 rw[e2]
 intro hm
 rcases List.mem_append.mp hm with hm|hm
 ·exact nd.2.2 _ hm _ (by simp) rfl
 ·rcases List.mem_cons.mp hm with hm|hm
  ·exact hx (hm▸hw)
  ·exact(List.nodup_cons.mp nd.2.1).1 hm
abbrev Y9(K:Fg)(k_Reader:Addr):TS :=
 (L7 (N9 k_Reader "put_in" (O4 K) [] E0 (A3 0) (A2 (A3 4) (A2 (A3 1) (A2 (tC (.str "anew")) B0)))))
abbrev Z0(K:Fg)(k_Reader:Addr):TS :=
 (T2 (tB (E2 (qb0 K) [] E0 (A2 (T3 K (A3 0) "book") (A2 (N9 k_Reader "open_names" (I0 K) [] E0 (A3 0) B0) (A2 (A3 4) B0)))))
 (Y9 K k_Reader) O5)
abbrev Z1(K:Fg)(k_Reader:Addr):TS :=
 (C0 (wf2 K (A3 2) (qd5 B0) "waiting")
 (qx9 (wf8 K (A3 3)) (B2 4)
 (Z0 K k_Reader)))
def N8(K:Fg):Sp:=fun vs H Q _=>∃ (kR kB r:Addr) (bv:V) (a:RAd) (st:Rst) (rs:List Row) (rk:Str->Nat) (i:Int) (P W M D T:Nat),vs=[.ref r,.int i]/\RdO K H kR kB r bv a st/\BkO K H bv rs/\Bok rs rk/\Bg rs P W M D T st/\P<=8500000/\W<=8500000/\M<=8500000/\∀ a' H',Rup K kR kB r bv H a H' a' (qx0 rs i st)->C2 H H'->Q .non H'
def O2(K:Fg)(k_Reader:Addr):TS :=
 (C0 (E9 (N9 k_Reader "last_wall" (N0 K) [] E0 (A3 0) B0) (B2 2))
 (C0 (E9 (T3 K (A3 2) "waiting") (B2 3))
 (Z1 K k_Reader)))
theorem qs1(cz:Cz K k_Branch k_Reader)(h:N8 K vs H Q E):O2 K k_Reader {nx:=fun _ H'=>Q .non H',rt:=Q} (E8 ["self","start","wall","names","name"] vs) H:=by
 obtain⟨kR,kB,r,bv,a,st,rs,rk,i,P,W,M,D,T,rfl,h,hk,bk,bg,hP,hWb,hM,q⟩:=h
 obtain rfl:=N6 cz.ns_Reader h.kr
 obtain rfl:=N6 cz.ns_Branch h.kb
 show O2 K _ _ [some (.ref r),some (.int i),none,none,none] H
 unfold O2
 lk
 refine J4 ?_
 lk
 refine⟨r,_,_,rfl,h.o,rfl,?_⟩
 lk
 refine⟨k_Reader,k_Branch,r,bv,a,st,rs,rfl,h,hk,bg.ne,by have:=bg.l;omega,fun m1 m2 x l1 l2 b H1 s1 ea eb hm lw=>?_⟩
 have h1:=h.same s1
 have hb1:=h1.b
 rw[ea,eb] at hb1
 have hx:=(hb1.split hm).2.1
 have elw:lwS rs st.bs=b.ws:=by rw[eb];exact yk9 lw
 have ewu:wUp rs (fun _=>[]) st.bs=l1++{b with ws:=[]}::l2:=by rw[eb];exact wo7 lw
 lk
 refine J9 ?_
 lk
 refine⟨x.o,_,x.x,_,_,rfl,hx.o,cz.cl_Branch,cz.na_Branch_waiting,rfl,?_⟩
 show Z1 K _ _ _ _
 refine qg3 (ql7 ?_)
 lk
 refine⟨E1 (by z_go),fun w hw=>?_⟩
 lk
 have s2:=A7.new hw (.lst [])
 refine⟨x.o,_,x.x,_,rfl,s2 _ _ hx.o,cz.cl_Branch,cz.na_Branch_waiting,by unfold bF;simp,?_⟩
 unfold bF
 rw[zq4]
 have u:=Rup.waitN (ws:=[]) h1 ea eb hm hw
 have xnd:=h1.xnd ea
 have no:x.w≠x.o:=by simp[BA.fp] at xnd;exact Ne.symm xnd.1.2
 have nxw:x.w∉RAd.fp r {a with as:=m1++{x with w:=w}::m2}:=h1.old_w ea hw (by rw[hx.w];exact fun z=>by cases z)
 have hw3:(upd (upd H1 w (.lst [])) x.o (.ins k_Branch x.x [(("name":Str),.str b.n),(("place":Str),.ref x.p),(("parts":Str),.ref x.q),(("waiting":Str),.ref w)])) x.w=some (.lst (C1 b.ws)):=J5 (s2 _ _ hx.w) no
 have g:C2 H1 (upd (upd H1 w (.lst [])) x.o (.ins k_Branch x.x [(("name":Str),.str b.n),(("place":Str),.ref x.p),(("parts":Str),.ref x.q),(("waiting":Str),.ref w)])):=C2.tr C2.upd C2.upd
 have u':Rup K k_Reader k_Branch r bv H1 a (upd (upd H1 w (.lst [])) x.o (.ins k_Branch x.x [(("name":Str),.str b.n),(("place":Str),.ref x.p),(("parts":Str),.ref x.q),(("waiting":Str),.ref w)])) {a with as:=m1++{x with w:=w}::m2} {st with bs:=wUp rs (fun _=>[]) st.bs}:=by rw[ewu];exact u
 generalize upd (upd H1 w (.lst [])) x.o (.ins k_Branch x.x [(("name":Str),.str b.n),(("place":Str),.ref x.p),(("parts":Str),.ref x.q),(("waiting":Str),.ref w)])=H2 at *
 rw[<-elw] at hw3
 obtain⟨a2,ea2⟩:∃ a2,a2=({a with as:=m1++{x with w:=w}::m2}:RAd):=⟨_,rfl⟩
 rw[<-ea2] at u' nxw
 have hk2:=(hk.same s1).tupK (u'.tupK h1)
 have bg1:=bg.wup (f:=fun _=>[]) (W':=W) (Nat.le_refl _) fun c _=>⟨Nat.zero_le _,fun n hn=>by cases hn⟩
 have bgj:∀ j,Bg rs P W (M+21) D T (((lwS rs st.bs).take j).foldl (qg9 rs i) {st with bs:=wUp rs (fun _=>[]) st.bs}):=fun j =>
  (xv1 bk.n _ _ (bg1.mono (Nat.le_refl _) (Nat.le_refl _) (by omega) (Nat.le_refl _) (Nat.le_refl _)) (by show st.ms.length<=_;have:=bg.m;omega) fun n hn=>(yl0 bg).2 n (List.mem_of_mem_take hn)).1
 lk
 refine wf9 (SqL.of hw3) (fun j σ H'=>∃ a' x4,σ=[some (.ref r),some (.int i),some (.ref x.o),some (.ref x.w),x4]/\Rup K k_Reader k_Branch r bv H2 a2 H' a' (((lwS rs st.bs).take j).foldl (qg9 rs i) {st with bs:=wUp rs (fun _=>[]) st.bs})/\C2 H2 H') ?_ ?_ ?_ ?_
 ·exact⟨a2,none,rfl,.keep u'.ok fun c o e _=>e,fun z hz=>hz⟩
 ·rintro j σ H' _ ⟨a',x4,rfl,uj,gj⟩
  exact SqL.of (uj.bt _ _ hw3 nxw)
 ·rintro j v σ H' hv ⟨a',x4,rfl,uj,gj⟩
  obtain⟨n,hn,rfl⟩:=qm8 hv
  have hr:=(yl0 bg).2 n (List.mem_of_getElem? hn)
  have bj:=bgj j
  have efold:((lwS rs st.bs).take (j+1)).foldl (qg9 rs i) {st with bs:=wUp rs (fun _=>[]) st.bs}=qg9 rs i (((lwS rs st.bs).take j).foldl (qg9 rs i) {st with bs:=wUp rs (fun _=>[]) st.bs}) n:=by
   rw[qo5 hn,List.foldl_append];rfl
  generalize ((lwS rs st.bs).take j).foldl (qg9 rs i) {st with bs:=wUp rs (fun _=>[]) st.bs}=sj at *
  obtain⟨b0,bs0,eb0⟩:=List.exists_cons_of_ne_nil bj.ne
  have hl0:bs0.length<=20:=by have:=bj.l;rw[eb0] at this;simp at this;omega
  have hnm:L6 sj=bs0.map Brn.n:=by unfold L6;rw[eb0];rfl
  have hkj:=hk2.tupK (uj.tupK u'.ok)
  refine L3 ?_
  show Z0 K _ _ _ _
  lk
  refine J9 ?_
  lk
  refine⟨r,_,a'.x,_,_,rfl,uj.ok.o,cz.cl_Reader,cz.na_Reader_book,rfl,?_⟩
  lk
  refine J4 ?_
  lk
  refine⟨r,_,_,rfl,uj.ok.o,rfl,?_⟩
  lk
  refine⟨k_Reader,k_Branch,r,bv,a',sj,b0,bs0,rfl,uj.ok,eb0,by omega,fun p H4 s4 hp=>?_⟩
  lk
  refine⟨bv,p,bs0.map Brn.n,n,rs,rfl,hkj.same s4,hp,by rw[List.length_map];omega,hr,bk.sb,fun H5 s5=>?_⟩
  have s45:=A7.tr s4 s5
  have h5:=uj.ok.same s45
  have u5:=uj.tr (uj.ok.up s45) gj
  have g5:=C2.tr gj (A7.grow s45)
  rw[<-hnm]
  lk
  by_cases ha:wm1 rs (L6 sj) n=true
  ·rw[ha]
   x_go
   show Y9 K _ _ _ _
   lk
   refine J4 ?_
   lk
   refine⟨r,_,_,rfl,h5.o,rfl,?_⟩
   lk
   obtain⟨lb,bb,e1,e2,e3,e4⟩:=bj.snoc
   have h3:=e4.ps
   have h4:=bj.m
   have h6:=bj.l
   rw[e1,List.length_append,List.length_singleton] at h6
   refine⟨k_Reader,k_Branch,r,bv,a',sj,n,i, "anew",lb,bb,rfl,h5,e1,by omega,by omega,by omega,by omega,bk.row hr,fun a6 H6 u6 g6=>?_⟩
   refine⟨a6,_,rfl,?_,C2.tr g5 g6⟩
   rw[efold]
   have ep:qg9 rs i sj n={sj with bs:=sj.bs++[⟨n,bb.pl++[(bb.ps.length:Int)],[],[]⟩],ms:=sj.ms++[⟨i,i,opn n, "anew"⟩]}:=by
    unfold qg9
    rw[if_pos ha]
    unfold wx7 qa8 xi4
    rw[e2]
   rw[ep]
   exact u5.tr u6 g5
  ·rw[Bool.eq_false_iff.mpr ha]
   k_go
   lk
   refine⟨a',_,rfl,?_,g5⟩
   rw[efold]
   unfold qg9
   rw[if_neg ha]
   exact u5
 ·rintro σ H' ⟨a',x4,rfl,uj,gj⟩
  rw[C3,List.take_length] at uj
  exact q _ _ (((h.up s1).tr u' (A7.grow s1)).tr uj (C2.tr (A7.grow s1) g)) (C2.tr (C2.tr (A7.grow s1) g) gj)
abbrev we6(K:Fg):TS :=
 (L7 (tBM K "list" N2 (T3 K (A3 4) "parts") (A2 (tOp (qy3 K) (A3 5) (A3 3)) B0)))
def adT(K:Fg):TS :=
 (C0 (L7 (tBM K "list" N2 (T3 K (A3 0) "laid") (A2 (M2 (A2 (A3 1) (A2 (A3 2) (A2 (tOp (qy3 K) (T3 K (A3 4) "place") (M2 (A2 (tCB (O6 K) (A2 (T3 K (A3 4) "parts") B0)) B0))) (A2 (tCB (O6 K) (A2 (A3 5) B0)) B0))))) B0)))
 (we6 K))
section
variable{kR kB r:Addr}{bv:V}{a:RAd}{st:Rst}
theorem Rup.parts{x:BA}{ps:List Tr}(h:RdO K H kR kB r bv a st)(ea:a.as=m1++x::m2)(eb:st.bs=l1++b::l2)(hl:m1.length=l1.length)(hd:Dvs K H (Tr.das ps) us) :
 Rup K kR kB r bv H a (upd H x.q (.lst us)) {a with as:=m1++x::m2} {st with bs:=l1++{b with ps:=ps}::l2}:=by
 have hb:=h.b
 rw[ea,eb] at hb
 have hx:=(hb.split hl).2.1
 have xnd:=h.xnd ea
 have no:x.o≠x.q:=by simp[BA.fp] at xnd;exact xnd.1.1
 have nq:x.w≠x.q:=by simp[BA.fp] at xnd;exact Ne.symm xnd.2
 obtain⟨us0,q1,q2⟩:=hx.q
 have tk:T5 H (upd H x.q (.lst us)):=N7 (.inl ⟨_,q1⟩)
 refine Rup.swap h ea eb hl (fun z u e n=>J5 e fun y=>n (by rw[y];simp[BA.fp])) ⟨J5 hx.o no,tk.sqT hx.p,⟨us,A6,Dvs.tupK tk _ _ (qe6 _) hd⟩,J5 hx.w nq⟩ (fun z hz=>.inl hz) xnd rfl
theorem Rup.laid{p2:Addr}{pl:List Int}(h:RdO K H kR kB r bv a st)(s1:A7 H H1)(e1:SqT K H1 p [.int i,.str g,.ref p2,.int m])(e2:SqT K H1 p2 (qd7 pl))(m2:Dvs K H (st.ls.map Lad.da) us) :
 Rup K kR kB r bv H a (upd H1 a.A (.lst (us++[.ref p]))) a {st with ls:=st.ls++[⟨i,g,pl,m⟩]}:=by
 refine .keep ((h.same s1).setA ?_) fun c o e n=>?_
 ·rw[List.map_append]
  exact Dvs.append (Dvs.same s1 _ _ m2) (Dvs.one (C7.mpr ⟨p,_,rfl,e1,B4 (O1.mpr rfl) (B4 (E6.mpr rfl) (B4 (C7.mpr ⟨p2,_,rfl,e2,xg6.mpr rfl⟩) (B4 (O1.mpr rfl) J7)))⟩))
 ·rw[B7 (fun z=>n (by rw[z];simp[RAd.fp]))];exact s1 c o e
theorem zw4(cz:Cz K k_Branch k_Reader){x:BA}{told u:Str}(h:RdO K H k_Reader k_Branch r bv a st)(ea:a.as=m1++x::[])(eb:st.bs=l1++b::[])(hl:m1.length=l1.length)(h1:b.ps.length<=9000000)(h2:b.pl.length<=1000)(h3:st.ls.length<=9000000)(h4:u.length+told.length<=1000000)(q:∀ a' H',Rup K k_Reader k_Branch r bv H a H' a' {st with bs:=l1++[{b with ps:=b.ps++[Tr.tx (u++told)]}],ls:=st.ls++[⟨i,g,b.pl++[(b.ps.length:Int)],u.length⟩]}->C2 H H'->D.nx [some (.ref r),some (.int i),some (.str g),some (.str told),some (.ref x.o),some (.str u)] H') :
 adT K D [some (.ref r),some (.int i),some (.str g),some (.str told),some (.ref x.o),some (.str u)] H:=by
 unfold adT
 have hb:=h.b
 rw[ea,eb] at hb
 have hx:=(hb.split hl).2.1
 obtain⟨us,q1,q2⟩:=hx.q
 obtain⟨ls,l1',l2'⟩:=h.d
 have hul:=wj2 q2
 have hll:ls.length=st.ls.length:=by have:=l2'.length;rw[List.length_map] at this;exact this
 lk
 refine J9 ?_
 lk
 refine⟨r,_,a.x,_,_,rfl,h.o,cz.cl_Reader,cz.na_Reader_laid,rfl,?_⟩
 lk
 refine⟨.inl ⟨rfl,_,SqL.of l1'⟩,?_⟩
 lk
 refine J9 ?_
 lk
 refine⟨x.o,_,x.x,_,_,rfl,hx.o,cz.cl_Branch,cz.na_Branch_place,rfl,?_⟩
 lk
 refine J9 ?_
 lk
 refine⟨x.o,_,x.x,_,_,rfl,hx.o,cz.cl_Branch,cz.na_Branch_parts,rfl,?_⟩
 lk
 refine Q3 (.inl (SqL.of q1)) ?_
 rw[hul]
 lk
 refine⟨E1 (by z_go),fun p1 hp1=>?_⟩
 have s1:=A7.new hp1 (.tup [.int b.ps.length])
 refine wn7 (s1.sqT hx.p) (SqT.of A6) (by rw[qm7];exact E1 (by show _+1<=_;omega)) fun p2 H2 s2 hp2=>?_
 rw[show qd7 b.pl++[V.int b.ps.length]=qd7 (b.pl++[(b.ps.length:Int)]) by simp[qd7]] at hp2
 have s12:=A7.tr s1 s2
 lk
 refine .inr (.inl ⟨u,rfl,by rw[sizeLine_eq];omega,?_⟩)
 lk
 refine⟨E1 (by z_go),fun p3 hp3=>?_⟩
 have s3:=A7.new hp3 (.tup [.int i,.str g,.ref p2,.int u.length])
 have s13:=A7.tr s12 s3
 lk
 refine N5 (s13 _ _ l1') (by rw[hll,sizeLine_eq];omega) ?_
 have u1:=Rup.laid h s13 (SqT.of A6) (s3.sqT hp2) l2'
 have g1:C2 H (upd (upd H2 p3 (.tup [.int i,.str g,.ref p2,.int u.length])) a.A (.lst (ls++[.ref p3]))):=C2.tr (A7.grow s13) C2.upd
 generalize upd (upd H2 p3 (.tup [.int i,.str g,.ref p2,.int u.length])) a.A (.lst (ls++[.ref p3]))=H3 at *
 have hb3:=u1.ok.b
 rw[show({st with ls:=st.ls++[⟨i,g,b.pl++[(b.ps.length:Int)],u.length⟩]}:Rst).bs=st.bs from rfl,ea,eb] at hb3
 have hx3:=(hb3.split hl).2.1
 obtain⟨us3,q3,q4⟩:=hx3.q
 have hul3:=wj2 q4
 lk
 refine J9 ?_
 lk
 refine⟨x.o,_,x.x,_,_,rfl,hx3.o,cz.cl_Branch,cz.na_Branch_parts,rfl,?_⟩
 lk
 refine⟨.inl ⟨rfl,_,SqL.of q3⟩,?_⟩
 lk
 refine .inl (U2 (by rw[sizeLine_eq];omega) ?_)
 lk
 refine N5 q3 (by rw[hul3,sizeLine_eq];omega) ?_
 have u2:=Rup.parts (ps:=b.ps++[Tr.tx (u++told)]) (us:=us3++[.str (u++told)]) u1.ok ea eb hl (by
  rw[Y0,List.map_append,<-Y0]
  exact Dvs.append q4 (Dvs.one (E6.mpr rfl)))
 exact q _ _ (u1.tr u2 g1) (C2.tr g1 C2.upd)
end
theorem xq4(t:Str):("":Str)++t=t:=(Y2 _ _).mpr (by rw[PySem.Str.cps_append,Array.toList_append];rfl)
theorem xi6:∀ {ds:List PyData} {d:PyData} {vs:List V} {v:V},Dvs K H (ds++[d]) (vs++[v])->Dvs K H ds vs
 | [],d,[],v,_=>J7
 | [],d,w::vs,v,h=>by have:=h.length;simp at this
 | e::ds,d,[],v,h=>by have:=h.length;simp at this
 | e::ds,d,w::vs,v,h=>by
   rw[List.cons_append,List.cons_append,Dvs] at h
   obtain⟨w',r,e1,h1,h2⟩:=h
   obtain⟨rfl,rfl⟩:=List.cons.inj e1
   exact B4 h1 (xi6 h2)
abbrev we7(K:Fg):TS :=
 (C0 (T2 (xb4 (L0 (tOp wv4 (tCB (O6 K) (A2 (T3 K (A3 4) "parts") B0)) (tC (.int 0)))) (tB (E2 (wb4 K) [] E0 (A2 (tOp (M7 K) (T3 K (A3 4) "parts") (tUn (rU fun i=>.int (-i)) (tC (.int 1)))) B0))))
 (E9 (yy6 K "list" yy7 (T3 K (A3 4) "parts")) (B2 5)) O5)
 (adT K))
def T8(K:Fg):Sp:=fun vs H Q _=>∃ (kR kB r:Addr) (bv:V) (a:RAd) (st:Rst) (l1:List Brn) (b:Brn) (i:Int) (g told:Str),vs=[.ref r,.int i,.str g,.str told]/\RdO K H kR kB r bv a st/\st.bs=l1++[b]/\b.ps.length<=9000000/\b.pl.length<=1000/\st.ls.length<=9000000/\adA b.ps+told.length<=1000000/\∀ a' H',Rup K kR kB r bv H a H' a' {st with bs:=l1++[{b with ps:=adP b.ps told}],ls:=st.ls++[⟨i,g,b.pl++[(adN b.ps:Int)],adA b.ps⟩]}->C2 H H'->Q .non H'
def U9(K:Fg):TS :=
 (C0 (E9 (tOp (M7 K) (T3 K (A3 0) "branches") (tUn (rU fun i=>.int (-i)) (tC (.int 1)))) (B2 4))
 (C0 (E9 (tC (.str "")) (B2 5))
 (we7 K)))
theorem wh1(cz:Cz K k_Branch k_Reader)(h:T8 K vs H Q E):U9 K {nx:=fun _ H'=>Q .non H',rt:=Q} (E8 ["self","start","signs","told","branch","ahead"] vs) H:=by
 obtain⟨kR,kB,r,bv,a,st,l1,b,i,g,told,rfl,h,eb,h1,h2,h3,h4,q⟩:=h
 obtain rfl:=N6 cz.ns_Reader h.kr
 obtain rfl:=N6 cz.ns_Branch h.kb
 show U9 K _ [some (.ref r),some (.int i),some (.str g),some (.str told),none,none] H
 unfold U9
 obtain⟨m1,x,m2,ea,hm,hx⟩:=h.as_split eb
 have hn:=h.b.len
 rw[ea,eb] at hn
 simp only[List.length_append,List.length_cons,List.length_nil] at hn
 obtain rfl:m2=[]:=List.eq_nil_of_length_eq_zero (by omega)
 obtain⟨us,q1,q2⟩:=hx.q
 have hul:=wj2 q2
 lk
 refine J9 ?_
 lk
 refine⟨r,_,a.x,_,_,rfl,h.o,cz.cl_Reader,cz.na_Reader_branches,rfl,?_⟩
 lk
 refine⟨1,rfl,?_⟩
 refine O0 (SqL.of h.l) (v:=.ref x.o) (ql8 (n:=m1.length) (by rw[ea];simp) (by rw[ea];simp)) ?_
 lk
 refine J9 ?_
 lk
 refine⟨x.o,_,x.x,_,_,rfl,hx.o,cz.cl_Branch,cz.na_Branch_parts,rfl,?_⟩
 lk
 refine Q3 (.inl (SqL.of q1)) ?_
 rw[hul]
 lk
 rcases List.eq_nil_or_concat b.ps with hps|⟨P,t,hps⟩
 ·rw[hps]
  k_go
  lk
  refine zw4 cz h ea eb hm h1 h2 h3 (by show 0+_<=_;omega) fun a' H' u g'=>q a' H' ?_ g'
  rw[xq4] at u
  have e1:adP b.ps told=b.ps++[.tx told]:=by rw[hps];rfl
  have e2:adN b.ps=b.ps.length:=by rw[hps];rfl
  have e3:adA b.ps=0:=by rw[hps];rfl
  rw[e1,e2,e3]
  exact u
 ·rw [List.concat_eq_append] at hps
  have hgl:b.ps.getLast?=some t:=by rw[hps,List.getLast?_concat]
  rw[hps] at hul
  refine zq3 (by rw[hps];simp) ?_
  lk
  refine J9 ?_
  lk
  refine⟨x.o,_,x.x,_,_,rfl,hx.o,cz.cl_Branch,cz.na_Branch_parts,rfl,?_⟩
  lk
  refine⟨1,rfl,?_⟩
  obtain⟨ut,eu,du⟩:=yo8 q2 (i:=P.length) (t:=t) (by rw[hps];simp)
  refine O0 (SqL.of q1) (v:=ut) (ql8 (n:=P.length) (by rw[hul];simp) eu) ?_
  lk
  refine⟨t,ut,rfl,du,?_⟩
  lk
  cases t with
  | tx u0 =>
    x_go
    lk
    refine J9 ?_
    lk
    refine⟨x.o,_,x.x,_,_,rfl,hx.o,cz.cl_Branch,cz.na_Branch_parts,rfl,?_⟩
    lk
    refine⟨.inl ⟨rfl,_,SqL.of q1⟩,?_⟩
    obtain⟨us1,eus⟩:∃ us1,us=us1++[.str u0]:=by
     have hut:ut=.str u0:=E6.mp du
     refine⟨us.take P.length,?_⟩
     rw[<-hut]
     have:=qo5 eu
     rw[<-this,List.take_of_length_le (by rw[hul];simp)]
    rw[eus] at q1
    refine zc1 q1 ?_
    have dP:Dvs K H (Tr.das P) us1:=by
     rw[eus,hps,Y0,List.map_append,<-Y0] at q2
     exact xi6 q2
    have u1:=Rup.parts (ps:=P) h ea eb hm dP
    have g1:C2 H (upd H x.q (.lst us1)):=C2.upd
    generalize upd H x.q (.lst us1)=H1 at *
    lk
    have e3:adA b.ps=u0.length:=by unfold adA;rw[hgl]
    refine zw4 cz u1.ok rfl rfl hm (by show P.length<=_;rw[hps] at h1;simp at h1;omega) h2 h3 (by rw[e3] at h4;exact h4) fun a' H' u g'=>q a' H' ?_ (C2.tr g1 g')
    have e1:adP b.ps told=P++[.tx (u0++told)]:=by unfold adP;rw[hgl];rw[hps];simp
    have e2:adN b.ps=P.length:=by unfold adN;rw[hgl,hps];simp
    rw[e1,e2,e3]
    exact u1.tr u g1
  | nd nn pp =>
    k_go
    lk
    refine zw4 cz h ea eb hm h1 h2 h3 (by show 0+_<=_;omega) fun a' H' u g'=>q a' H' ?_ g'
    rw[xq4] at u
    have e1:adP b.ps told=b.ps++[.tx told]:=by unfold adP;rw[hgl]
    have e2:adN b.ps=b.ps.length:=by unfold adN;rw[hgl]
    have e3:adA b.ps=0:=by unfold adA;rw[hgl]
    rw[e1,e2,e3]
    exact u
structure Lim(P W M D T:Nat):Prop where
 P:P<=8000000
 W:W<=8000000
 M:M<=8000000
 D:D<=8000000
 T:T<=500000
theorem xi7{g:TG}(hq:SqT K H a xs)(Pv:Nat->St->Hp->Prop)(h0:Pv 0 σ H)(hk:∀ i σ H',i<=xs.length->Pv i σ H'->SqT K H' a xs)(hs:∀ i x σ H,xs[i]?=some x->Pv i σ H->g x σ H fun σ2 H2=>tb {D with nx:=PAt Pv (i+1),ct:=PAt Pv (i+1),bk:=D.nx} σ2 H2)(hd:∀ σ H,Pv xs.length σ H->D.nx σ H) :
 ∃ b,V.ref a=.ref b/\(((∃ xs,SqL K H b xs)/\wq7 g tb D σ (Itl K b) H)\/((∃ xs,SqT K H b xs)/\wq7 g tb D σ (Itt K b) H)):=⟨a,rfl,.inr ⟨⟨xs,hq⟩,xr3 Pv h0 hk hs hd⟩⟩
theorem yp5{sj:Rst}(e2:Y8 sj.bs=bb):wx7 sj n i rule={sj with bs:=sj.bs++[⟨n,bb.pl++[(bb.ps.length:Int)],[],[]⟩],ms:=sj.ms++[⟨i,i,opn n,rule⟩]}:=by
 unfold wx7 qa8 xi4;rw[e2]
theorem zn6{bs:List Brn}(e2:Y8 bs=bb):qa8 bs n=bs++[⟨n,bb.pl++[(bb.ps.length:Int)],[],[]⟩]:=by
 unfold qa8 xi4;rw[e2]
theorem xi8(st:Rst)(ns:List Str)(n:Str)(i:Int)(rule:Str):U6 st (ns++[n]) i rule=wx7 (U6 st ns i rule) n i rule:=by
 unfold U6;rw[List.foldl_append];rfl
theorem yp6{pre:List Brn}(e:st.bs=pre++b::cl):qa9 rs st pre.length i rule={st with bs:=wUp rs (·++qb3 rs (cl.map Brn.n)) (pre++[{b with ps:=b.ps++V8 cl}]),ms:=st.ms++cl.reverse.map (clM i rule)}:=by
 have e1:st.bs.take pre.length=pre:=by rw[e,List.take_left' rfl]
 have e2:st.bs.drop (pre.length+1)=cl:=by
  rw[e,show pre++b::cl=(pre++[b])++cl by simp,List.drop_left' (by simp)]
 have e3:st.bs.getD pre.length xu7=b:=by rw[e];simp[List.getD]
 unfold qa9
 rw[e1,e2,e3]
theorem Bg.split{D k:Nat}(h:Bg rs P W M D T st)(hk:k<st.bs.length):∃ pre b cl,st.bs=pre++b::cl/\pre.length=k/\cl.length<=20/\∀ (i:Int) (rule:Str),qa9 rs st k i rule={st with bs:=wUp rs (·++qb3 rs (cl.map Brn.n)) (pre++[{b with ps:=b.ps++V8 cl}]),ms:=st.ms++cl.reverse.map (clM i rule)}:=by
 have e:st.bs=st.bs.take k++st.bs[k]::st.bs.drop (k+1):=by rw[List.getElem_cons_drop,List.take_append_drop]
 have hl:(st.bs.take k).length=k:=by rw[List.length_take];omega
 refine⟨_,_,_,e,hl,by rw[List.length_drop];have:=h.l;omega,fun i rule=>?_⟩
 have:=yp6 (rs:=rs) (i:=i) (rule:=rule) e
 rw[hl] at this
 exact this
theorem Bg.cond{D:Nat}(h:Bg rs P W M D T st)(hP:P<=9000000)(hW:W<=9000000):∀ c∈st.bs,c.n.length<=4000/\c.ps.length<=9000000/\c.ws.length<=9000000:=fun c hc=>by
 have:=h.c c hc
 exact⟨this.n,by have:=this.ps;omega,by have:=this.ws;omega⟩
theorem zf6{ps:List Str}:qn3 (C1 (ps++[n])) none (some (-1))=C1 ps:=by
 unfold qn3
 have e1:(C1 (ps++[n])).length=ps.length+1:=by rw[C3];simp
 have e2:HT.sIx (C1 (ps++[n])).length (C1 (ps++[n])).length (some (-1))=ps.length:=by
  rw[e1]
  show(if(-1:Int)<0 then((-1:Int)+((ps.length+1:Nat):Int)).toNat else min (-1:Int).toNat (ps.length+1))=_
  rw[if_pos (by decide)];omega
 rw[e2]
 show((C1 (ps++[n])).drop 0).take (ps.length-0)=_
 rw[List.drop_zero,Nat.sub_zero]
 unfold C1
 rw[List.map_append,List.take_left' (by simp)]
theorem zw5{o:Option Str}(h:o≠none):decide (oV o=V.non)=false:=by
 cases o with
 | none=>exact absurd rfl h
 | some x=>exact decide_eq_false fun z=>by cases z
abbrev qb8(K:Fg)(k_Reader:Addr):TS :=
 (C0 (L7 (N9 k_Reader "drop" (M5 K) [] E0 (A3 0) (A2 (A3 1) (A2 (A3 2) (A2 (tC (.str "strange")) B0)))))
 ym2)
abbrev qb9(K:Fg)(k_Reader:Addr):TS :=
 (C0 (L7 (N9 k_Reader "drop" (M5 K) [] E0 (A3 0) (A2 (A3 1) (A2 (A3 2) (A2 (tOp (M7 K) (A3 4) (tC (.int 1))) B0)))))
 ym2)
abbrev qc0(K:Fg)(k_Reader:Addr):TS :=
 (L7 (N9 k_Reader "put_in" (O4 K) [] E0 (A3 0) (A2 (A3 5) (A2 (A3 1) (A2 (tC (.str "frame")) B0)))))
abbrev qc1(K:Fg)(k_Reader:Addr):TS :=
 (T2 (L0 (tOp (qg1 K) (E2 (Z5 K) [] E0 (A2 (T3 K (A3 0) "book") (A2 (A3 3) B0))) (tC (.str "bare"))))
 (L7 (N9 k_Reader "leave" (P4 K) [] E0 (A3 0) B0)) O5)
abbrev qc2(K:Fg)(k_Reader:Addr):TS :=
 (C0 (L7 (N9 k_Reader "enter" (T6 K) [] E0 (A3 0) (A2 (A3 3) B0)))
 (qc1 K k_Reader))
abbrev qc3(K:Fg)(k_Reader:Addr):TS :=
 (C0 (qx9 (wf8 K (tSl (yi6 K) (tOp (M7 K) (A3 4) (tC (.int 2))) qh1 (Z4 (tUn (rU fun i=>.int (-i)) (tC (.int 1)))))) (B2 5)
 (qc0 K k_Reader))
 (qc2 K k_Reader))
abbrev qc4(K:Fg)(k_Reader:Addr):TS :=
 (C0 (L7 (N9 k_Reader "close_behind" (L8 K) [] E0 (A3 0) (A2 (tOp (M7 K) (A3 4) (tC (.int 1))) (A2 (A3 1) (A2 (tC (.str "shut")) B0)))))
 (qc3 K k_Reader))
abbrev R7(K:Fg)(k_Reader:Addr):TS :=
 (C0 (T2 (L0 (tOp (qg1 K) (tOp (M7 K) (A3 4) (tC (.int 0))) (tC (.str "drop"))))
 (qb9 K k_Reader) O5)
 (qc4 K k_Reader))
abbrev qc5(K:Fg)(k_Reader:Addr):TS :=
 (C0 (E9 (E2 (wb5 K) [] E0 (A2 (T3 K (A3 0) "book") (A2 (N9 k_Reader "open_names" (I0 K) [] E0 (A3 0) B0) (A2 (A3 3) B0)))) (B2 4))
 (R7 K k_Reader))
def O9(K:Fg):Sp:=fun vs H Q _=>∃ (kR kB r:Addr) (bv:V) (a:RAd) (st:Rst) (rs:List Row) (rk:Str->Nat) (P W M D T:Nat) (i:Int) (g n:Str),vs=[.ref r,.int i,.str g,.str n]/\RdO K H kR kB r bv a st/\BkO K H bv rs/\Bok rs rk/\Bg rs P W M D T st/\Lim P W M D T/\g.length<=100000/\∀ a' H',Rup K kR kB r bv H a H' a' (opS rs rk st i g n)->C2 H H'->Q .non H'
def P7(K:Fg)(k_Reader:Addr):TS :=
 (C0 (T2 (L0 (tOp xz1 (E2 (Z5 K) [] E0 (A2 (T3 K (A3 0) "book") (A2 (A3 3) B0))) (tC .non)))
 (qb8 K k_Reader) O5)
 (qc5 K k_Reader))
theorem qx2(cz:Cz K k_Branch k_Reader)(h:O9 K vs H Q E):P7 K k_Reader {nx:=fun _ H'=>Q .non H',rt:=Q} (E8 ["self","start","signs","name","plan","put"] vs) H:=by
 obtain⟨kR,kB,r,bv,a,st,rs,rk,P,W,M,D,T,i,g,n,rfl,h,hk,bk,bg,lim,hg,q⟩:=h
 obtain rfl:=N6 cz.ns_Reader h.kr
 show P7 K _ _ [some (.ref r),some (.int i),some (.str g),some (.str n),none,none] H
 unfold P7
 obtain⟨b0,bs0,eb0⟩:=List.exists_cons_of_ne_nil bg.ne
 have hnm:L6 st=bs0.map Brn.n:=by unfold L6;rw[eb0];rfl
 have hbl:=bg.l
 have hl0:bs0.length<=20:=by rw[eb0] at hbl;simp at hbl;omega
 have hms:=bg.m
 have l1:=lim.P
 have l2:=lim.W
 have l3:=lim.M
 lk
 refine J9 ?_
 lk
 refine⟨r,_,a.x,_,_,rfl,h.o,cz.cl_Reader,cz.na_Reader_book,rfl,?_⟩
 lk
 refine⟨bv,some n,rs,rfl,hk.rws,?_⟩
 lk
 by_cases hs:L9 rs (some n)=none
 ·have ed:decide (oV (L9 rs (some n))=V.non)=true:=by rw[hs];rfl
  rw[ed]
  x_go
  show qb8 K _ _ _ _
  lk
  refine J4 ?_
  lk
  refine⟨r,_,_,rfl,h.o,rfl,?_⟩
  lk
  refine⟨k_Reader,kB,r,bv,a,st,i,g, "strange",rfl,h,by omega,by omega,fun H1 u1 g1=>?_⟩
  lk
  have eo:opS rs rk st i g n=qb7 st i g "strange":=by unfold opS;rw[if_pos hs]
  exact q a H1 (by rw[eo];exact u1) g1
 rw[zw5 hs]
 k_go
 show qc5 K _ _ _ _
 have hrow:=wy1 hs
 lk
 refine J9 ?_
 lk
 refine⟨r,_,a.x,_,_,rfl,h.o,cz.cl_Reader,cz.na_Reader_book,rfl,?_⟩
 lk
 refine J4 ?_
 lk
 refine⟨r,_,_,rfl,h.o,rfl,?_⟩
 lk
 refine⟨k_Reader,kB,r,bv,a,st,b0,bs0,rfl,h,eb0,by omega,fun p H1 s1 hp=>?_⟩
 lk
 rw[<-hnm] at hp
 have hnl:=bg.nlen
 refine⟨bv,p,L6 st,n,rs,rk,rfl,(hk.same s1).rws,bk.B,bk.f,hp,by omega,hrow,bk.k n,fun w H2 s2 hw=>?_⟩
 have s12:=A7.tr s1 s2
 have h2:=h.same s12
 have hk2:=hk.same s12
 have drop:∀ rule:Str,xh6 rs rk (L6 st) n=.tuple [.str "drop",.str rule]->opS rs rk st i g n=qb7 st i g rule->R7 K k_Reader {nx:=fun _ H'=>Q .non H',rt:=Q} [some (.ref r),some (.int i),some (.str g),some (.str n),some (.ref w),none] H2:=fun rule ep eo=>by
  rw[ep] at hw
  obtain⟨w',ws,e1,hwq,hwd⟩:=C7.mp hw
  cases e1
  rw[Dvs] at hwd;obtain⟨v0,r0,rfl,d0,hwd⟩:=hwd
  rw[Dvs] at hwd;obtain⟨v1,r1,rfl,d1,hwd⟩:=hwd
  rw[Dvs] at hwd;subst hwd
  obtain rfl:=E6.mp d0
  obtain rfl:=E6.mp d1
  lk
  refine W3 hwq (v:=.str "drop") rfl ?_
  lk
  x_go
  show qb9 K _ _ _ _
  lk
  refine J4 ?_
  lk
  refine⟨r,_,_,rfl,h2.o,rfl,?_⟩
  lk
  refine W3 hwq (v:=.str rule) rfl ?_
  lk
  refine⟨k_Reader,kB,r,bv,a,st,i,g,rule,rfl,h2,by omega,by omega,fun H3 u3 g3=>?_⟩
  lk
  exact q a H3 (by rw[eo];exact(h.up s12).tr u3 (A7.grow s12)) (C2.tr (A7.grow s12) g3)
 by_cases hbar:bar rs ((L6 st).take (N3 rs rk (L6 st) 13 n).1) (N3 rs rk (L6 st) 13 n).2=true
 ·exact drop "barred" (by unfold xh6;rw[if_pos hbar]) (by unfold opS;rw[if_neg hs,if_pos hbar])
 by_cases hdeep:20<(N3 rs rk (L6 st) 13 n).1+(N3 rs rk (L6 st) 13 n).2.length
 ·exact drop "deep" (by unfold xh6;rw[if_neg hbar,if_pos hdeep]) (by unfold opS;rw[if_neg hs,if_neg hbar,if_pos hdeep])
 have ep:xh6 rs rk (L6 st) n=.tuple [.str "open",.int (N3 rs rk (L6 st) 13 n).1,.tuple (sDa (N3 rs rk (L6 st) 13 n).2)]:=by unfold xh6;rw[if_neg hbar,if_neg hdeep]
 have eo:opS rs rk st i g n=(if L9 rs (some n)=some ("bare":Str) then lvS {(U6 (qa9 rs st (N3 rs rk (L6 st) 13 n).1 i "shut") (N3 rs rk (L6 st) 13 n).2.dropLast i "frame") with bs:=qa8 (U6 (qa9 rs st (N3 rs rk (L6 st) 13 n).1 i "shut") (N3 rs rk (L6 st) 13 n).2.dropLast i "frame").bs n} else{(U6 (qa9 rs st (N3 rs rk (L6 st) 13 n).1 i "shut") (N3 rs rk (L6 st) 13 n).2.dropLast i "frame") with bs:=qa8 (U6 (qa9 rs st (N3 rs rk (L6 st) 13 n).1 i "shut") (N3 rs rk (L6 st) 13 n).2.dropLast i "frame").bs n}):=by
  unfold opS;rw[if_neg hs,if_neg hbar,if_neg hdeep]
 have wok:=wj6 bk.B bk.f (ys:=L6 st) 13 n hrow (bk.k n)
 obtain⟨ps,hps⟩:=wy0 (rs:=rs) (rk:=rk) (ys:=L6 st) 13 n
 have hw1:=wok.k
 have hwm:=wok.m
 rw[ep] at hw
 clear drop hbar
 generalize N3 rs rk (L6 st) 13 n=wt at *
 obtain⟨w',ws,e1,hwq,hwd⟩:=C7.mp hw
 cases e1
 rw[Dvs] at hwd;obtain⟨v0,r0,rfl,d0,hwd⟩:=hwd
 rw[Dvs] at hwd;obtain⟨v1,r1,rfl,d1,hwd⟩:=hwd
 rw[Dvs] at hwd;obtain⟨v2,r2,rfl,d2,hwd⟩:=hwd
 rw[Dvs] at hwd;subst hwd
 obtain rfl:=E6.mp d0
 obtain rfl:=O1.mp d1
 obtain⟨pz,zs,rfl,hz,dz⟩:=C7.mp d2
 rw[qe4] at dz;subst dz
 have hkl:wt.1<st.bs.length:=by omega
 obtain⟨pre,bb,cl,eb,hpre,hcl,ecl⟩:=bg.split hkl
 have edl:wt.2.dropLast=ps:=by rw[hps,List.dropLast_concat]
 have ell:wt.2.length=ps.length+1:=by rw[hps];simp
 rw[edl] at eo
 have bc:=bg.cls (i:=i) (rule := "shut") hkl
 have bcl:(qa9 rs st wt.1 i "shut").bs.length=wt.1+1:=by rw[wk3,List.length_take];omega
 have hpm:∀ m∈ps,m.length<=4000/\∃ r∈rs,Row.name r=m:=fun m hm=>by
  have:=hwm m (by rw[hps];simp[hm])
  exact⟨bk.row this,this⟩
 have bp:∀ j,Bg rs (P+1) (W+20) (M+20+(ps.take j).length) D T (U6 (qa9 rs st wt.1 i "shut") (ps.take j) i "frame"):=fun j=>by
  have:(ps.take j).length<=ps.length:=by rw[List.length_take];omega
  exact bc.puts (by rw[bcl];omega) fun m hm=>hpm m (List.mem_of_mem_take hm)
 have bpl:∀ j,(U6 (qa9 rs st wt.1 i "shut") (ps.take j) i "frame").bs.length=wt.1+1+(ps.take j).length:=fun j=>by rw[wk2,bcl]
 show R7 K _ _ _ _
 lk
 refine W3 hwq (v:=.str "open") rfl ?_
 lk
 k_go
 show qc4 K _ _ _ _
 lk
 refine J4 ?_
 lk
 refine⟨r,_,_,rfl,h2.o,rfl,?_⟩
 lk
 refine W3 hwq (v:=.int wt.1) rfl ?_
 lk
 refine⟨k_Reader,kB,r,bv,a,st,rs,pre,cl,bb,i, "shut",by rw[hpre];rfl,h2,hk2,eb,by omega,bg.cond (by omega) (by omega),by omega,fun a3 H3 u3 g3=>?_⟩
 rw[<-ecl i "shut"] at u3
 have tk3:=u3.tupK h2
 have hwq3:=tk3.sqT hwq
 have hz3:=tk3.sqT hz
 show qc3 K _ _ _ _
 lk
 refine W3 hwq3 (v:=.ref pz) rfl ?_
 lk
 refine⟨1,rfl,?_⟩
 refine⟨-1,rfl,?_⟩
 refine ya2 hz3 fun c H4 s4 hc=>?_
 rw[hps,zf6] at hc
 have h4:=u3.ok.same s4
 have hk4:=(hk2.tupK tk3).same s4
 refine xi7 hc (fun j σ H'=>∃ a' x5,σ=[some (.ref r),some (.int i),some (.str g),some (.str n),some (.ref w),x5]/\Rup K k_Reader kB r bv H4 a3 H' a' (U6 (qa9 rs st wt.1 i "shut") (ps.take j) i "frame")/\C2 H4 H') ?_ ?_ ?_ ?_
 ·exact⟨a3,none,rfl,.keep h4 fun c o e _=>e,fun z hz=>hz⟩
 ·rintro j σ H' _ ⟨a',x5,rfl,uj,gj⟩
  exact(uj.tupK h4).sqT hc
 ·rintro j v σ H' hv ⟨a',x5,rfl,uj,gj⟩
  obtain⟨m,hm,rfl⟩:=qm8 hv
  refine L3 ?_
  show qc0 K _ _ _ _
  lk
  refine J4 ?_
  lk
  refine⟨r,_,_,rfl,uj.ok.o,rfl,?_⟩
  lk
  have bj:=bp j
  have bjl:=bpl j
  have hjl:(ps.take j).length<=ps.length:=by rw[List.length_take];omega
  have em:U6 (qa9 rs st wt.1 i "shut") (ps.take (j+1)) i "frame"=wx7 (U6 (qa9 rs st wt.1 i "shut") (ps.take j) i "frame") m i "frame":=by rw[qo5 hm,xi8]
  rw[PAt,em]
  generalize U6 (qa9 rs st wt.1 i "shut") (ps.take j) i "frame"=sj at *
  obtain⟨lb,b9,e1,e2,e3,e4⟩:=bj.snoc
  have h3:=e4.ps
  have h5:=bj.m
  have h6:=bj.l
  rw[e1,List.length_append,List.length_singleton] at h6
  refine⟨k_Reader,kB,r,bv,a',sj,m,i, "frame",lb,b9,rfl,uj.ok,e1,by omega,by omega,by omega,by omega,(hpm m (List.mem_of_getElem? hm)).1,fun a6 H6 u6 g6=>?_⟩
  refine⟨a6,_,rfl,?_,C2.tr gj g6⟩
  rw[yp5 e2]
  exact uj.tr u6 gj
 rintro σ H5 ⟨a5,x5,rfl,u5,g5⟩
 have bj:=bp ps.length
 have bjl:=bpl ps.length
 rw[C3] at u5
 rw[List.take_length] at u5 bj bjl
 show qc2 K _ _ _ _
 lk
 refine J4 ?_
 lk
 refine⟨r,_,_,rfl,u5.ok.o,rfl,?_⟩
 lk
 generalize U6 (qa9 rs st wt.1 i "shut") ps i "frame"=sj at *
 obtain⟨lb,b9,e1,e2,e3,e4⟩:=bj.snoc
 have h3:=e4.ps
 have h6:=bj.l
 rw[e1,List.length_append,List.length_singleton] at h6
 refine⟨k_Reader,kB,r,bv,a5,sj,n,lb,b9,rfl,u5.ok,e1,by omega,by omega,by omega,fun a6 H6 u6 g6=>?_⟩
 have g12:=A7.grow s12
 have uu:=((((h.up s12).tr u3 g12).tr (u3.ok.up s4) (C2.tr g12 g3)).tr u5 (C2.tr (C2.tr g12 g3) (A7.grow s4))).tr u6 (C2.tr (C2.tr (C2.tr g12 g3) (A7.grow s4)) g5)
 have gg:=C2.tr (C2.tr (C2.tr (C2.tr g12 g3) (A7.grow s4)) g5) g6
 have hk6:=hk.tupK (uu.tupK h)
 rw[<-zn6 e2] at u6 uu
 show qc1 K _ _ _ _
 lk
 refine J9 ?_
 lk
 refine⟨r,_,a6.x,_,_,rfl,u6.ok.o,cz.cl_Reader,cz.na_Reader_book,rfl,?_⟩
 lk
 refine⟨bv,some n,rs,rfl,hk6.rws,?_⟩
 lk
 refine yk7 ?_
 lk
 by_cases hbare:L9 rs (some n)=some ("bare":Str)
 ·rw[decide_eq_true hbare]
  x_go
  lk
  refine J4 ?_
  lk
  refine⟨r,_,_,rfl,u6.ok.o,rfl,?_⟩
  lk
  have e7:qa8 sj.bs n=lb++[b9,xi4 b9 n]:=by unfold qa8;rw[e2,e1];simp
  refine⟨k_Reader,kB,r,bv,a6,_,lb,b9,xi4 b9 n,rfl,u6.ok,e7,by omega,fun a7 H7 u7 g7=>?_⟩
  refine q a7 H7 ?_ (C2.tr gg g7)
  rw[eo,if_pos hbare]
  unfold lvS
  show Rup _ _ _ _ _ _ _ _ _ {sj with bs:=lvB (qa8 sj.bs n)}
  rw[e7,wx9]
  exact uu.tr u7 gg
 ·rw[decide_eq_false hbare]
  k_go
  refine q a6 H6 ?_ gg
  rw[eo,if_neg hbare]
  exact uu
section
variable{kR kB r:Addr}{bv:V}{a:RAd}{st:Rst}
theorem Rup.waitO{x:BA}{w:Addr}{ws:List Str}(h:RdO K H kR kB r bv a st)(ea:a.as=m1++x::m2)(eb:st.bs=l1++b::l2)(hl:m1.length=l1.length)(s1:A7 H H1)(hw0:H w=none)(hw:H1 w=some (.lst (C1 ws))) :
 Rup K kR kB r bv H a (upd H1 x.o (.ins kB x.x (bF {x with w:=w} b))) {a with as:=m1++{x with w:=w}::m2} {st with bs:=l1++{b with ws:=ws}::l2}:=by
 have hb:=h.b
 rw[ea,eb] at hb
 have hx:=(hb.split hl).2.1
 have xnd:=h.xnd ea
 have no:x.o≠x.q:=by simp[BA.fp] at xnd;exact xnd.1.1
 have nwo:x.o≠w:=Y4 hw0 hx.o
 obtain⟨us,q1,q2⟩:=hx.q
 have nwq:x.q≠w:=Y4 hw0 q1
 have tk:T5 H (upd H1 x.o (.ins kB x.x (bF {x with w:=w} b))):=zf4 s1.tupK (N7 (.inr ⟨_,_,_,s1 _ _ hx.o⟩))
 refine Rup.swap h ea eb hl (fun z u e n=>J5 (s1 _ _ e) fun y=>n (by rw[y];simp[BA.fp])) ⟨A6,tk.sqT hx.p,⟨us,J5 (s1 _ _ q1) (Ne.symm no),Dvs.tupK tk _ _ (qe6 _) q2⟩,J5 hw (Ne.symm nwo)⟩ (fun z hz=>?_) ?_ rfl
 ·simp only[BA.fp,List.mem_cons,List.not_mem_nil,or_false] at hz ⊢
  rcases hz with rfl|rfl|rfl
  ·exact .inl (.inl rfl)
  ·exact .inl (.inr (.inl rfl))
  ·exact .inr hw0
 ·simp[BA.fp,no,nwo,nwq]
end
abbrev qc6(K:Fg)(k_Reader:Addr):TS :=
 (L7 (N9 k_Reader "drop" (M5 K) [] E0 (A3 0) (A2 (A3 1) (A2 (A3 2) (A2 (tC (.str "late")) B0)))))
abbrev qc7(K:Fg)(k_Reader:Addr):TS :=
 (C0 (wf2 K (A3 5) (E2 (qf4 K) [] E0 (A2 (T3 K (A3 5) "waiting") (A2 (A3 3) B0))) "waiting")
 (qc6 K k_Reader))
abbrev qc8(K:Fg)(k_Reader:Addr):TS :=
 (L7 (N9 k_Reader "drop" (M5 K) [] E0 (A3 0) (A2 (A3 1) (A2 (A3 2) (A2 (tC (.str "stray")) B0)))))
abbrev qc9(K:Fg)(k_Reader:Addr):TS :=
 (C0 (L7 (N9 k_Reader "close_behind" (L8 K) [] E0 (A3 0) (A2 (tOp (J0 K) (A3 4) (tC (.int 1))) (A2 (A3 1) (A2 (tC (.str "left")) B0)))))
 (L7 (N9 k_Reader "leave" (P4 K) [] E0 (A3 0) B0)))
abbrev qd0(K:Fg)(k_Reader:Addr):TS :=
 (T2 (L0 (tOp (xl4 K false) (A3 3) (T3 K (A3 5) "waiting")))
 (qc7 K k_Reader) (qc8 K k_Reader))
abbrev O3(K:Fg)(k_Reader:Addr):TS :=
 (T2 (L0 (tOp wj1 (A3 4) (tC .non)))
 (qc9 K k_Reader) (qd0 K k_Reader))
abbrev qd1(K:Fg)(k_Reader:Addr):TS :=
 (C0 (E9 (N9 k_Reader "last_wall" (N0 K) [] E0 (A3 0) B0) (B2 5))
 (O3 K k_Reader))
def P1(K:Fg):Sp:=fun vs H Q _=>∃ (kR kB r:Addr) (bv:V) (a:RAd) (st:Rst) (rs:List Row) (rk:Str->Nat) (P W M D T:Nat) (i:Int) (g n:Str),vs=[.ref r,.int i,.str g,.str n]/\RdO K H kR kB r bv a st/\BkO K H bv rs/\Bok rs rk/\Bg rs P W M D T st/\Lim P W M D T/\g.length<=100000/\∀ a' H',Rup K kR kB r bv H a H' a' (qz1 rs rk st i g n)->C2 H H'->Q .non H'
def P8(K:Fg)(k_Reader:Addr):TS :=
 (C0 (E9 (E2 (qr7 K) [] E0 (A2 (T3 K (A3 0) "book") (A2 (N9 k_Reader "open_names" (I0 K) [] E0 (A3 0) B0) (A2 (A3 3) B0)))) (B2 4))
 (qd1 K k_Reader))
theorem qx3(cz:Cz K k_Branch k_Reader)(h:P1 K vs H Q E):P8 K k_Reader {nx:=fun _ H'=>Q .non H',rt:=Q} (E8 ["self","start","signs","name","number","wall"] vs) H:=by
 obtain⟨kR,kB,r,bv,a,st,rs,rk,P,W,M,D,T,i,g,n,rfl,h,hk,bk,bg,lim,hg,q⟩:=h
 obtain rfl:=N6 cz.ns_Reader h.kr
 obtain rfl:=N6 cz.ns_Branch h.kb
 show P8 K _ _ [some (.ref r),some (.int i),some (.str g),some (.str n),none,none] H
 unfold P8
 obtain⟨b0,bs0,eb0⟩:=List.exists_cons_of_ne_nil bg.ne
 have hnm:L6 st=bs0.map Brn.n:=by unfold L6;rw[eb0];rfl
 have hbl:=bg.l
 have hl0:bs0.length<=20:=by rw[eb0] at hbl;simp at hbl;omega
 have hms:=bg.m
 have hnl:=bg.nlen
 have l1:=lim.P
 have l2:=lim.W
 have l3:=lim.M
 lk
 refine J9 ?_
 lk
 refine⟨r,_,a.x,_,_,rfl,h.o,cz.cl_Reader,cz.na_Reader_book,rfl,?_⟩
 lk
 refine J4 ?_
 lk
 refine⟨r,_,_,rfl,h.o,rfl,?_⟩
 lk
 refine⟨k_Reader,k_Branch,r,bv,a,st,b0,bs0,rfl,h,eb0,by omega,fun p H1 s1 hp=>?_⟩
 lk
 rw[<-hnm] at hp
 have h1:=h.same s1
 have hk1:=hk.same s1
 refine⟨bv,p,L6 st,n,rs,rk,rfl,hk1.rws,bk.f,.inr hp,by omega,?_⟩
 show qd1 K _ _ _ _
 lk
 refine J4 ?_
 lk
 refine⟨r,_,_,rfl,h1.o,rfl,?_⟩
 lk
 refine⟨k_Reader,k_Branch,r,bv,a,st,rs,rfl,h1,hk1,bg.ne,by omega,fun m1 m2 x k1 k2 bb H2 s2 ea eb hm lw=>?_⟩
 have s12:=A7.tr s1 s2
 have h2:=h.same s12
 have hk2:=hk.same s12
 have g12:=A7.grow s12
 have hb2:=h2.b
 rw[ea,eb] at hb2
 have hx:=(hb2.split hm).2.1
 show O3 K _ _ _ _
 cases hc:clo rs rk (L6 st) n (L6 st).length with
 | some k =>
   have hkl:=xh5 hc
   have eo:qz1 rs rk st i g n=lvS (qa9 rs st (k+1) i "left"):=by unfold qz1;rw[hc]
   show O3 K _ _ [some (.ref r),some (.int i),some (.str g),some (.str n),some (.int (k:Int)),some (.ref x.o)] _
   lk
   x_go
   show qc9 K _ _ _ _
   lk
   refine J4 ?_
   lk
   refine⟨r,_,_,rfl,h2.o,rfl,?_⟩
   lk
   have hkl2:k+1<st.bs.length:=by omega
   obtain⟨pre,b3,cl,e3,hpre,hcl,ecl⟩:=bg.split hkl2
   have bc:=bg.cls (i:=i) (rule := "left") hkl2
   have bcl:(qa9 rs st (k+1) i "left").bs.length=k+2:=by rw[wk3,List.length_take];omega
   refine⟨k_Reader,k_Branch,r,bv,a,st,rs,pre,cl,b3,i, "left",by rw[hpre];rfl,h2,hk2,e3,by omega,bg.cond (by omega) (by omega),by omega,fun a3 H3 u3 g3=>?_⟩
   rw[<-ecl i "left"] at u3
   lk
   refine J4 ?_
   lk
   refine⟨r,_,_,rfl,u3.ok.o,rfl,?_⟩
   lk
   generalize qa9 rs st (k+1) i "left"=sj at *
   obtain⟨lb,b5,b6,e5⟩:=xv0 (bs:=sj.bs) (by omega)
   have hb5:=(bc.c b5 (by rw[e5];simp)).ps
   refine⟨k_Reader,k_Branch,r,bv,a3,sj,lb,b5,b6,rfl,u3.ok,e5,by omega,fun a4 H4 u4 g4=>?_⟩
   refine q a4 H4 ?_ (C2.tr (C2.tr g12 g3) g4)
   rw[eo]
   unfold lvS
   rw[e5,wx9]
   exact((h.up s12).tr u3 g12).tr u4 (C2.tr g12 g3)
 | none =>
   show O3 K _ _ [some (.ref r),some (.int i),some (.str g),some (.str n),some .non,some (.ref x.o)] _
   lk
   k_go
   show qd0 K _ _ _ _
   have elw:lwS rs st.bs=bb.ws:=by rw[eb];exact yk9 lw
   have hbb:=bg.c bb (by rw[eb];simp)
   have hbw:=hbb.ws
   lk
   refine J9 ?_
   lk
   refine⟨x.o,_,x.x,_,_,rfl,hx.o,cz.cl_Branch,cz.na_Branch_waiting,rfl,?_⟩
   refine .inl (yt7 (.inl (SqL.of hx.w)) rfl (qg8 _) ?_)
   rw[qh3]
   lk
   by_cases hin:n∈bb.ws
   ·rw[decide_eq_true hin]
    x_go
    have eo:qz1 rs rk st i g n={(qb7 st i g "late") with bs:=wUp rs (fun ws=>woL ws n) st.bs}:=by unfold qz1;rw[hc,elw];exact if_pos hin
    have ewu:wUp rs (fun ws=>woL ws n) st.bs=k1++{bb with ws:=woL bb.ws n}::k2:=by rw[eb];exact wo7 lw
    show qc7 K _ _ _ _
    refine qg3 (ql7 ?_)
    lk
    refine J9 ?_
    lk
    refine⟨x.o,_,x.x,_,_,rfl,hx.o,cz.cl_Branch,cz.na_Branch_waiting,rfl,?_⟩
    lk
    refine⟨x.w,bb.ws,n,rfl,hx.w,hin,by omega,fun w H3 s3 hw0 hw=>?_⟩
    lk
    refine⟨x.o,_,x.x,_,rfl,s3 _ _ hx.o,cz.cl_Branch,cz.na_Branch_waiting,by unfold bF;simp,?_⟩
    unfold bF
    rw[zq4]
    have u3:=Rup.waitO (ws:=woL bb.ws n) h2 ea eb hm s3 hw0 hw
    rw[<-ewu] at u3
    have g3:C2 H2 (upd H3 x.o (.ins k_Branch x.x [(("name":Str),.str bb.n),(("place":Str),.ref x.p),(("parts":Str),.ref x.q),(("waiting":Str),.ref w)])):=C2.tr (A7.grow s3) C2.upd
    have u3':Rup K k_Reader k_Branch r bv H2 a (upd H3 x.o (.ins k_Branch x.x [(("name":Str),.str bb.n),(("place":Str),.ref x.p),(("parts":Str),.ref x.q),(("waiting":Str),.ref w)])) {a with as:=m1++{x with w:=w}::m2} {st with bs:=wUp rs (fun ws=>woL ws n) st.bs}:=u3
    generalize upd H3 x.o (.ins k_Branch x.x [(("name":Str),.str bb.n),(("place":Str),.ref x.p),(("parts":Str),.ref x.q),(("waiting":Str),.ref w)])=H4 at *
    show qc6 K _ _ _ _
    lk
    refine J4 ?_
    lk
    refine⟨r,_,_,rfl,u3'.ok.o,rfl,?_⟩
    lk
    refine⟨k_Reader,k_Branch,r,bv,_,_,i,g, "late",rfl,u3'.ok,by show st.ms.length<=_;omega,by omega,fun H5 u5 g5=>?_⟩
    refine q {a with as:=m1++{x with w:=w}::m2} H5 ?_ (C2.tr (C2.tr g12 g3) g5)
    rw[eo]
    exact((h.up s12).tr u3' g12).tr u5 (C2.tr g12 g3)
   ·rw[decide_eq_false hin]
    k_go
    have eo:qz1 rs rk st i g n=qb7 st i g "stray":=by unfold qz1;rw[hc,elw];exact if_neg hin
    show qc8 K _ _ _ _
    lk
    refine J4 ?_
    lk
    refine⟨r,_,_,rfl,h2.o,rfl,?_⟩
    lk
    refine⟨k_Reader,k_Branch,r,bv,a,st,i,g, "stray",rfl,h2,by omega,by omega,fun H5 u5 g5=>?_⟩
    refine q a H5 ?_ (C2.tr g12 g5)
    rw[eo]
    exact(h.up s12).tr u5 g12
theorem zf7{k n:Nat}(h:k∈qd9 l n):l[k]?=some 60\/l[k]?=some 38:=by
 unfold qd9 at h
 have:=(List.mem_filter.mp h).2
 unfold yk2 at this
 rw[Bool.or_eq_true,Bool.and_eq_true,decide_eq_true_eq,decide_eq_true_eq] at this
 exact this.imp id fun h=>h.1
theorem zw6:yv8 ⟨#[60]⟩ = "&l;":=by rw[Y2];rfl
theorem zw7:yv8 ⟨#[38]⟩ = "&a;":=by rw[Y2];rfl
theorem zf8{ns:List Nat}(h:(yb5 ns)[j]?=some v):∃ k,ns[j]?=some k/\v=.int (k:Int):=by
 unfold yb5 at h
 rw[List.getElem?_map] at h
 obtain⟨k,hk,e⟩:=Option.map_eq_some_iff.mp h
 exact⟨k,hk,e.symm⟩
abbrev qj6(K:Fg)(k_Reader:Addr):TS :=
 (L7 (N9 k_Reader "put_in" (O4 K) [] E0 (A3 0) (A2 (A3 5) (A2 (A3 1) (A2 (tC (.str "host")) B0)))))
abbrev qj7(K:Fg):TS :=
 (L7 (tBM K "list" N2 (T3 K (A3 0) "mends") (A2 (M2 (A2 (A3 7) (A2 (tOp (J0 K) (A3 7) (tC (.int 1))) (A2 (E2 (wc1 K) [] E0 (A2 (tOp (M7 K) (A3 2) (A3 6)) B0)) (A2 (tC (.str "sign")) B0))))) B0)))
abbrev qj8(K:Fg)(k_Reader:Addr):TS :=
 (L7 (N9 k_Reader "add_text" (T8 K) [] E0 (A3 0) (A2 (A3 1) (A2 (A3 2) (A2 (A3 3) B0)))))
abbrev qj9(K:Fg)(k_Reader:Addr):TS :=
 (C0 (qx9 (wf8 K (E2 (qp8 K) [] E0 (A2 (A3 2) B0))) (B2 6)
 (C0 (E9 (tOp (J0 K) (A3 1) (A3 6)) (B2 7))
 (qj7 K)))
 (qj8 K k_Reader))
abbrev qk0(K:Fg)(k_Reader:Addr):TS :=
 (C0 (L7 (N9 k_Reader "put_in_waiting" (N8 K) [] E0 (A3 0) (A2 (A3 1) B0)))
 (qj9 K k_Reader))
abbrev qk1(K:Fg)(k_Reader:Addr):TS :=
 (L7 (N9 k_Reader "drop" (M5 K) [] E0 (A3 0) (A2 (A3 1) (A2 (A3 2) (A2 (tC (.str "deep")) B0)))))
abbrev qk2(K:Fg)(k_Reader:Addr):TS :=
 (C0 (qx9 (wf8 K (A3 4)) (B2 5)
 (qj6 K k_Reader))
 (qk0 K k_Reader))
abbrev qk3(K:Fg)(k_Reader:Addr):TS :=
 (L7 (N9 k_Reader "drop" (M5 K) [] E0 (A3 0) (A2 (A3 1) (A2 (A3 2) (A2 (tC (.str "blank")) B0)))))
abbrev qk4(K:Fg)(k_Reader:Addr):TS :=
 (T2 (L0 (tOp xz1 (A3 4) (tC .non)))
 (qk1 K k_Reader) (qk2 K k_Reader))
abbrev qk5(K:Fg)(k_Reader:Addr):TS :=
 (T2 (xb4 (tB (N9 k_Reader "is_in_frame" (P5 K) [] E0 (A3 0) B0)) (L0 (tOp (qg1 K) (tBM K "str" yo5 (A3 3) (A2 (tC (.str " \n")) B0)) (tC (.str "")))))
 (qk3 K k_Reader) (qk4 K k_Reader))
theorem RdO.nop{r:Addr}{a:RAd}(h:RdO K H kR kB r bv a st)(hp:H p=none):p∉RAd.fp r a:=fun hz=>h.dom p hz hp
theorem zf9{r:Addr}{a:RAd}(cz:Cz K k_Branch k_Reader){D:Nat}{c:Addr}(h:RdO K H k_Reader k_Branch r bv a st)(hk:BkO K H bv rs)(bk:Bok rs rk)(bg:Bg rs P W M D T st)(lim:Lim P W M D T)(hg:g.length<=10000)(ht:t.length<=10000)(hc:SqT K H c (C1 (R6 rs st)))(hlen:¬20<(L6 st).length+(R6 rs st).length)(q:∀ a' H',Rup K k_Reader k_Branch r bv H a H' a' (txS (wm2 (qx0 rs i (U6 st (R6 rs st) i "host")) i g) i g t)->C2 H H'->Q .non H') :
 qk2 K k_Reader {nx:=fun _ H'=>Q .non H',rt:=Q} [some (.ref r),some (.int i),some (.str g),some (.str t),some (.ref c),none,none,none] H:=by
 have hnl:=bg.nlen
 have l1:=lim.P
 have l2:=lim.W
 have l3:=lim.M
 have l4:=lim.D
 have l5:=lim.T
 have hhl:(R6 rs st).length<=12:=ql1 rs 12 _
 have hpm:∀ m∈R6 rs st,m.length<=4000/\∃ r∈rs,Row.name r=m:=fun m hm=>by
  have:=qy7 bk.B 12 _ m hm
  exact⟨bk.row this,this⟩
 have bp:∀ j,Bg rs P W (M+((R6 rs st).take j).length) D T (U6 st ((R6 rs st).take j) i "host"):=fun j=>by
  have:((R6 rs st).take j).length<=(R6 rs st).length:=by rw[List.length_take];omega
  exact bg.puts (by omega) fun m hm=>hpm m (List.mem_of_mem_take hm)
 lk
 refine xi7 hc (fun j σ H'=>∃ a' x5,σ=[some (.ref r),some (.int i),some (.str g),some (.str t),some (.ref c),x5,none,none]/\Rup K k_Reader k_Branch r bv H a H' a' (U6 st ((R6 rs st).take j) i "host")/\C2 H H') ?_ ?_ ?_ ?_
 ·exact⟨a,none,rfl,.keep h fun c o e _=>e,fun z hz=>hz⟩
 ·rintro j σ H' _ ⟨a',x5,rfl,uj,gj⟩
  exact(uj.tupK h).sqT hc
 ·rintro j v σ H' hv ⟨a',x5,rfl,uj,gj⟩
  obtain⟨m,hm,rfl⟩:=qm8 hv
  refine L3 ?_
  show qj6 K _ _ _ _
  lk
  refine J4 ?_
  lk
  refine⟨r,_,_,rfl,uj.ok.o,rfl,?_⟩
  lk
  have bj:=bp j
  have hjl:((R6 rs st).take j).length<=(R6 rs st).length:=by rw[List.length_take];omega
  have em:U6 st ((R6 rs st).take (j+1)) i "host"=wx7 (U6 st ((R6 rs st).take j) i "host") m i "host":=by rw[qo5 hm,xi8]
  rw[PAt,em]
  generalize U6 st ((R6 rs st).take j) i "host"=sj at *
  obtain⟨lb,b9,e1,e2,e3,e4⟩:=bj.snoc
  have h3:=e4.ps
  have h5:=bj.m
  have h6:=bj.l
  rw[e1,List.length_append,List.length_singleton] at h6
  refine⟨k_Reader,k_Branch,r,bv,a',sj,m,i, "host",lb,b9,rfl,uj.ok,e1,by omega,by omega,by omega,by omega,(hpm m (List.mem_of_getElem? hm)).1,fun a6 H6 u6 g6=>?_⟩
  refine⟨a6,_,rfl,?_,C2.tr gj g6⟩
  rw[yp5 e2]
  exact uj.tr u6 gj
 rintro σ H5 ⟨a5,x5,rfl,u5,g5⟩
 have bj:=bp (R6 rs st).length
 rw[C3] at u5
 rw[List.take_length] at u5 bj
 have hk5:=hk.tupK (u5.tupK h)
 show qk0 K _ _ _ _
 lk
 refine J4 ?_
 lk
 refine⟨r,_,_,rfl,u5.ok.o,rfl,?_⟩
 lk
 generalize U6 st (R6 rs st) i "host"=sj at *
 refine⟨k_Reader,k_Branch,r,bv,a5,sj,rs,rk,i,P,W,M+(R6 rs st).length,D,T,rfl,u5.ok,hk5,bk,bj,by omega,by omega,by omega,fun a6 H6 u6 g6=>?_⟩
 have b6:=bj.anews (i:=i) bk.n
 have u56:=u5.tr u6 g5
 have g56:=C2.tr g5 g6
 generalize qx0 rs i sj=s6 at *
 show qj9 K _ _ _ _
 lk
 refine⟨g,rfl,by omega,fun p7 H7 s7 hp70 hp7=>?_⟩
 have h7:=u6.ok.same s7
 have np:p7∉RAd.fp r a6:=u6.ok.nop hp70
 have gl:g.cps.toList.length=g.length:=Array.length_toList
 have lol:=wj9 g.cps.toList g.cps.toList.length
 have h6m:=b6.m
 refine wf9 (SqL.of hp7) (fun j σ H'=>∃ x6 x7,σ=[some (.ref r),some (.int i),some (.str g),some (.str t),some (.ref c),x5,x6,x7]/\Rup K k_Reader k_Branch r bv H7 a6 H' a6 {s6 with ms:=s6.ms++((qd9 g.cps.toList g.cps.toList.length).take j).map (wx8 i g)}/\C2 H7 H') ?_ ?_ ?_ ?_
 ·refine⟨none,none,rfl,?_,fun z hz=>hz⟩
  rw[List.take_zero,List.map_nil,List.append_nil]
  exact .keep h7 fun c o e _=>e
 ·rintro j σ H' _ ⟨x6,x7,rfl,uj,gj⟩
  exact SqL.of (uj.bt _ _ hp7 np)
 ·rintro j v σ H' hv ⟨x6,x7,rfl,uj,gj⟩
  obtain⟨k,hkk,rfl⟩:=zf8 hv
  have hlo:=zf7 (List.mem_of_getElem? hkk)
  obtain⟨cc,hcc⟩:∃ cc,g.cps.toList[k]?=some cc:=by rcases hlo with e|e <;> exact⟨_,e⟩
  refine L3 ?_
  lk
  show qj7 K _ _ _
  obtain⟨us,m1,m2⟩:=uj.ok.m
  have hul:=RdO.ms_len m2
  have hul2:us.length=s6.ms.length+((qd9 g.cps.toList g.cps.toList.length).take j).length:=by rw[hul];show(s6.ms++_).length=_;rw[List.length_append,List.length_map]
  have htl:((qd9 g.cps.toList g.cps.toList.length).take j).length<=(qd9 g.cps.toList g.cps.toList.length).length:=by rw[List.length_take];omega
  lk
  refine J9 ?_
  lk
  refine⟨r,_,a6.x,_,_,rfl,uj.ok.o,cz.cl_Reader,cz.na_Reader_mends,rfl,?_⟩
  lk
  refine⟨.inl ⟨rfl,_,SqL.of m1⟩,?_⟩
  lk
  refine zb0 (by rw[sizeLine_eq];omega) (U7 hcc) ?_
  lk
  refine⟨⟨#[cc]⟩,rfl,by show 1<=30000;decide,?_⟩
  have ee:yv8 ⟨#[cc]⟩=(wx8 i g k).t:=by
   show _=if g.cps.toList[k]?=some 60 then _ else _
   rcases hlo with e|e
   ·rw[if_pos e]
    rw[e] at hcc
    obtain rfl:=Option.some.inj hcc
    exact zw6
   ·rw[if_neg (by rw[e];decide)]
    rw[e] at hcc
    obtain rfl:=Option.some.inj hcc
    exact zw7
  rw[ee]
  lk
  refine⟨E1 (by z_go),fun p hp=>?_⟩
  lk
  have s8:=A7.new hp (.tup [.int (i+k),.int (i+k+1),.str (wx8 i g k).t,.str "sign"])
  refine N5 (s8 _ _ m1) (by rw[hul2,sizeLine_eq];omega) ?_
  have u8:=Rup.mend uj.ok s8 (SqT.of A6) m2
  refine⟨_,_,rfl,?_,C2.tr gj (C2.tr C2.upd C2.upd)⟩
  rw[qo5 hkk,List.map_append,<-List.append_assoc]
  exact uj.tr u8 gj
 rintro σ H8 ⟨x6,x7,rfl,u8,g8⟩
 have el:(qd9 g.cps.toList g.cps.toList.length).take (yb5 (qd9 g.cps.toList g.cps.toList.length)).length=qd9 g.cps.toList g.cps.toList.length:=by
  unfold yb5;rw[List.length_map];exact List.take_length
 rw[el] at u8
 have u8':Rup K k_Reader k_Branch r bv H7 a6 H8 a6 (wm2 s6 i g):=u8
 have b8:=b6.sign (i:=i) (g:=g)
 generalize wm2 s6 i g=s8 at *
 show qj8 K _ _ _ _
 lk
 refine J4 ?_
 lk
 refine⟨r,_,_,rfl,u8'.ok.o,rfl,?_⟩
 lk
 obtain⟨lb,b9,e1,e2,e3,e4⟩:=b8.snoc
 have h3:=e4.ps
 have h4:=e4.t
 have h5:=b8.d
 have h6:=b8.l
 rw[e1,List.length_append,List.length_singleton] at h6
 refine⟨k_Reader,k_Branch,r,bv,a6,s8,lb,b9,i,g,t,rfl,u8'.ok,e1,by omega,by omega,by omega,by omega,fun a9 H9 u9 g9=>?_⟩
 refine q a9 H9 ?_ (C2.tr (C2.tr (C2.tr g56 (A7.grow s7)) g8) g9)
 have et:txS s8 i g t={s8 with bs:=lb++[{b9 with ps:=adP b9.ps t}],ls:=s8.ls++[⟨i,g,b9.pl++[(adN b9.ps:Int)],adA b9.ps⟩]}:=by
  unfold txS
  rw[e2,e1,List.dropLast_concat]
 rw[et]
 exact(((u56.tr (u6.ok.up s7) g56).tr u8' (C2.tr g56 (A7.grow s7)))).tr u9 (C2.tr (C2.tr g56 (A7.grow s7)) g8)
def T9(K:Fg):Sp:=fun vs H Q _=>∃ (kR kB r:Addr) (bv:V) (a:RAd) (st:Rst) (rs:List Row) (rk:Str->Nat) (P W M D T:Nat) (i:Int) (g t:Str),vs=[.ref r,.int i,.str g,.str t]/\RdO K H kR kB r bv a st/\BkO K H bv rs/\Bok rs rk/\Bg rs P W M D T st/\Lim P W M D T/\g.length<=10000/\t.length<=10000/\∀ a' H',Rup K kR kB r bv H a H' a' (qx1 rs st i g t)->C2 H H'->Q .non H'
def V0(K:Fg)(k_Reader:Addr):TS :=
 (C0 (E9 (E2 (qp5 K) [] E0 (A2 (T3 K (A3 0) "book") (A2 (N9 k_Reader "open_names" (I0 K) [] E0 (A3 0) B0) B0))) (B2 4))
 (qk5 K k_Reader))
theorem wh2(cz:Cz K k_Branch k_Reader)(h:T9 K vs H Q E):V0 K k_Reader {nx:=fun _ H'=>Q .non H',rt:=Q} (E8 ["self","start","signs","told","hosts","host","number","place"] vs) H:=by
 obtain⟨kR,kB,r,bv,a,st,rs,rk,P,W,M,D,T,i,g,t,rfl,h,hk,bk,bg,lim,hg,ht,q⟩:=h
 obtain rfl:=N6 cz.ns_Reader h.kr
 obtain rfl:=N6 cz.ns_Branch h.kb
 show V0 K _ _ [some (.ref r),some (.int i),some (.str g),some (.str t),none,none,none,none] H
 unfold V0
 obtain⟨b0,bs0,eb0⟩:=List.exists_cons_of_ne_nil bg.ne
 have hnm:L6 st=bs0.map Brn.n:=by unfold L6;rw[eb0];rfl
 have hbl:=bg.l
 have hl0:bs0.length<=20:=by rw[eb0] at hbl;simp at hbl;omega
 have hms:=bg.m
 have l3:=lim.M
 lk
 refine J9 ?_
 lk
 refine⟨r,_,a.x,_,_,rfl,h.o,cz.cl_Reader,cz.na_Reader_book,rfl,?_⟩
 lk
 refine J4 ?_
 lk
 refine⟨r,_,_,rfl,h.o,rfl,?_⟩
 lk
 refine⟨k_Reader,k_Branch,r,bv,a,st,b0,bs0,rfl,h,eb0,by omega,fun p H1 s1 hp=>?_⟩
 lk
 rw[<-hnm] at hp
 have rest:∀ (v:V) (H2:Hp),A7 H H2->((20<(L6 st).length+(R6 rs st).length/\v=.non)\/(¬20<(L6 st).length+(R6 rs st).length/\∃ c,v=.ref c/\SqT K H2 c (C1 (R6 rs st))))->qk5 K k_Reader {nx:=fun _ H'=>Q .non H',rt:=Q} [some (.ref r),some (.int i),some (.str g),some (.str t),some v,none,none,none] H2:=fun v H2 s2 hv=>by
  have h2:=h.same s2
  have hk2:=hk.same s2
  lk
  refine J4 ?_
  lk
  refine⟨r,_,_,rfl,h2.o,rfl,?_⟩
  lk
  refine⟨k_Reader,k_Branch,r,bv,a,st,b0,bs0,rs,rfl,h2,hk2,eb0,by omega,fun H3 s3=>?_⟩
  rw[<-hnm]
  have s23:=A7.tr s2 s3
  have h3:=h.same s23
  have hk3:=hk.same s23
  have g3:=A7.grow s23
  have stay:¬(L9 rs (some (V7 (L6 st)))=some ("frame":Str)/\yk8 t=true)->qk4 K k_Reader {nx:=fun _ H'=>Q .non H',rt:=Q} [some (.ref r),some (.int i),some (.str g),some (.str t),some v,none,none,none] H3:=fun hn=>by
   rcases hv with⟨hd,rfl⟩|⟨hd,c,rfl,hc⟩
   ·have eo:qx1 rs st i g t=qb7 st i g "deep":=by unfold qx1;rw[if_neg hn,if_pos hd]
    lk
    x_go
    show qk1 K _ _ _ _
    lk
    refine J4 ?_
    lk
    refine⟨r,_,_,rfl,h3.o,rfl,?_⟩
    lk
    refine⟨k_Reader,k_Branch,r,bv,a,st,i,g, "deep",rfl,h3,by omega,by omega,fun H5 u5 g5=>?_⟩
    refine q a H5 ?_ (C2.tr g3 g5)
    rw[eo]
    exact(h.up s23).tr u5 g3
   ·have eo:qx1 rs st i g t=txS (wm2 (qx0 rs i (U6 st (R6 rs st) i "host")) i g) i g t:=by unfold qx1;rw[if_neg hn,if_neg hd]
    lk
    k_go
    refine zf9 cz h3 hk3 bk bg lim hg ht (s3.sqT hc) hd fun a' H' u' g'=>q a' H' ?_ (C2.tr g3 g')
    rw[eo]
    exact(h.up s23).tr u' g3
  lk
  by_cases hf:L9 rs (some (V7 (L6 st)))=some ("frame":Str)
  ·rw[decide_eq_true hf]
   x_go
   lk
   refine⟨rfl,?_⟩
   lk
   refine⟨t, " \n",rfl,rfl,by omega,?_⟩
   lk
   by_cases hb:yk8 t=true
   ·have e1:=of_decide_eq_true hb
    rw[decide_eq_true e1]
    x_go
    have eo:qx1 rs st i g t=qb7 st i g "blank":=by unfold qx1;rw[if_pos ⟨hf,hb⟩]
    show qk3 K _ _ _ _
    lk
    refine J4 ?_
    lk
    refine⟨r,_,_,rfl,h3.o,rfl,?_⟩
    lk
    refine⟨k_Reader,k_Branch,r,bv,a,st,i,g, "blank",rfl,h3,by omega,by omega,fun H5 u5 g5=>?_⟩
    refine q a H5 ?_ (C2.tr g3 g5)
    rw[eo]
    exact(h.up s23).tr u5 g3
   ·have e1:=of_decide_eq_false (Bool.eq_false_iff.mpr hb)
    rw[decide_eq_false e1]
    k_go
    exact stay fun z=>hb z.2
  ·rw[decide_eq_false hf]
   k_go
   first|exact stay fun z=>hf z.1|(refine Z2 ?_;exact stay fun z=>hf z.1)
 refine⟨bv,p,L6 st,rs,rfl,(hk.same s1).rws,bk.B,.inr hp,fun hd H2 s2=>?_,fun hd c H2 s2 hc=>?_⟩
 ·exact rest _ _ (A7.tr s1 s2) (.inl ⟨hd,rfl⟩)
 ·exact rest _ _ (A7.tr s1 s2) (.inr ⟨hd,c,rfl,hc⟩)
abbrev qv1(K:Fg)(k_Reader:Addr):TS :=
 (L7 (N9 k_Reader "read_closing" (P1 K) [] E0 (A3 0) (A2 (A3 2) (A2 (A3 3) (A2 (A3 4) B0)))))
abbrev qv2(K:Fg)(k_Reader:Addr):TS :=
 (L7 (N9 k_Reader "read_run" (T9 K) [] E0 (A3 0) (A2 (A3 2) (A2 (A3 3) (A2 (A3 4) B0)))))
abbrev qv3(K:Fg)(k_Reader:Addr):TS :=
 (L7 (N9 k_Reader "read_opening" (O9 K) [] E0 (A3 0) (A2 (A3 2) (A2 (A3 3) (A2 (A3 4) B0)))))
abbrev qv4(K:Fg)(k_Reader:Addr):TS :=
 (T2 (L0 (tOp (qg1 K) (A3 1) (tC (.str "close"))))
 (qv1 K k_Reader) (qv2 K k_Reader))
def qb1(K:Fg):Sp:=fun vs H Q _=>∃ (kR kB r:Addr) (bv:V) (a:RAd) (st:Rst) (rs:List Row) (rk:Str->Nat) (P W M D T:Nat) (kind:Str) (i:Int) (g t:Str),vs=[.ref r,.str kind,.int i,.str g,.str t]/\RdO K H kR kB r bv a st/\BkO K H bv rs/\Bok rs rk/\Bg rs P W M D T st/\Lim P W M D T/\g.length<=10000/\t.length<=10000/\∀ a' H',Rup K kR kB r bv H a H' a' (qo7 rs rk st kind i g t)->C2 H H'->Q .non H'
def qf5(K:Fg)(k_Reader:Addr):TS :=
 (T2 (L0 (tOp (qg1 K) (A3 1) (tC (.str "open"))))
 (qv3 K k_Reader) (qv4 K k_Reader))
theorem wy4(cz:Cz K k_Branch k_Reader)(h:qb1 K vs H Q E):qf5 K k_Reader {nx:=fun _ H'=>Q .non H',rt:=Q} (E8 ["self","kind","start","signs","told"] vs) H:=by
 obtain⟨kR,kB,r,bv,a,st,rs,rk,P,W,M,D,T,kind,i,g,t,rfl,h,hk,bk,bg,lim,hg,ht,q⟩:=h
 obtain rfl:=N6 cz.ns_Reader h.kr
 show qf5 K _ _ [some (.ref r),some (.str kind),some (.int i),some (.str g),some (.str t)] H
 unfold qf5
 lk
 by_cases ho:kind=("open":Str)
 ·rw[decide_eq_true ho]
  x_go
  show qv3 K _ _ _ _
  have eo:qo7 rs rk st kind i g t=opS rs rk st i g t:=by unfold qo7;rw[if_pos ho]
  rw[eo] at q
  lk
  refine J4 ?_
  lk
  refine⟨r,_,_,rfl,h.o,rfl,?_⟩
  lk
  exact⟨k_Reader,kB,r,bv,a,st,rs,rk,P,W,M,D,T,i,g,t,rfl,h,hk,bk,bg,lim,by omega,q⟩
 rw[decide_eq_false ho]
 k_go
 show qv4 K _ _ _ _
 lk
 by_cases hc:kind=("close":Str)
 ·rw[decide_eq_true hc]
  x_go
  show qv1 K _ _ _ _
  have eo:qo7 rs rk st kind i g t=qz1 rs rk st i g t:=by unfold qo7;rw[if_neg ho,if_pos hc]
  rw[eo] at q
  lk
  refine J4 ?_
  lk
  refine⟨r,_,_,rfl,h.o,rfl,?_⟩
  lk
  exact⟨k_Reader,kB,r,bv,a,st,rs,rk,P,W,M,D,T,i,g,t,rfl,h,hk,bk,bg,lim,by omega,q⟩
 ·rw[decide_eq_false hc]
  k_go
  show qv2 K _ _ _ _
  have eo:qo7 rs rk st kind i g t=qx1 rs st i g t:=by unfold qo7;rw[if_neg ho,if_neg hc]
  rw[eo] at q
  lk
  refine J4 ?_
  lk
  refine⟨r,_,_,rfl,h.o,rfl,?_⟩
  lk
  exact⟨k_Reader,kB,r,bv,a,st,rs,rk,P,W,M,D,T,i,g,t,rfl,h,hk,bk,bg,lim,hg,ht,q⟩
inductive TkC(l:List Nat):Nat->List PyData->Prop
 | nil {p:Nat}:p=l.length->TkC l p []
 | cons {p e:Nat} {kind t:Str} {ds:List PyData}:p<e->e<=l.length->t.length<=e-p->TkC l e ds->TkC l p (.tuple [.str kind,.int (p:Int),.int (e:Int),.str t]::ds)
theorem wt1:∀ (k:Nat) (l:List Nat),(TX.told k l).length<=l.length
 | _,[]=>by simp[TX.told]
 | k+1,c::l=>by rw[TX.told];have:=wt1 k l;simp;omega
 | 0,c::l=>by
   rw[TX.told]
   have h0:=wt1 0 l
   have h2:=wt1 2 l
   split
   ·simp;omega
   ·split <;> (simp;omega)
theorem yp7(l:List Nat):(TX.ofL l).length=l.length:=by unfold TX.ofL;simp[PySem.Str.length]
theorem xi9{k:Nat}(h:s<=k)(hk:k<=l.length)(hd:TkC l k ds):TkC l s (TX.runs l s k++ds):=by
 unfold TX.runs
 by_cases e:s<k
 ·rw[if_pos e]
  unfold TX.runD
  refine .cons e hk ?_ hd
  rw[yp7]
  have:=wt1 0 ((l.drop s).take (k-s))
  rw[List.length_take,List.length_drop] at this
  omega
 ·rw[if_neg e]
  obtain rfl:s=k:=by omega
  exact hd
theorem xv2(l:List Nat):∀ (n k s:Nat),s<=k->k<=l.length->TkC l s (TX.cutAt l n k s)
 | 0,k,s,h,hk=>by
   rw[TX.cutAt]
   have:=xi9 (l:=l) (s:=s) (k:=l.length) (by omega) (Nat.le_refl _) (.nil rfl)
   simpa using this
 | n+1,k,s,h,hk=>by
   rw[TX.cutAt]
   by_cases e:l.length<=k
   ·rw[if_pos e]
    have:=xi9 (l:=l) (s:=s) (k:=l.length) (by omega) (Nat.le_refl _) (.nil rfl)
    simpa using this
   ·rw[if_neg e]
    cases ht:TX.tagAt l k with
    | none=>exact xv2 l n (k+1) s (by omega) (by omega)
    | some fe =>
      obtain⟨f,e2⟩:=fe
      obtain⟨h1,h2,h3,h4,_⟩:=TX.tagAt_gt ht
      refine xi9 h hk ?_
      unfold TX.tagD
      refine .cons h1 h2 ?_ (xv2 l n e2 e2 (Nat.le_refl _) h2)
      rw[yp7,List.length_take,List.length_drop]
      have:k<f:=by rw[h3];unfold TX.nst;split <;> omega
      omega
theorem yd4(l:List Nat):TkC l 0 (TX.toks l 0 0):=xv2 l _ 0 0 (Nat.le_refl _) (Nat.zero_le _)
def st0:Rst:=⟨[xu7],[],[]⟩
def xc7(rs:List Row)(rk:Str->Nat)(z:Str)(st:Rst):PyData->Rst
 | .tuple [.str kind,.int i,.int e,.str t]=>qo7 rs rk st kind i (qh2 z (some i) (some e)) t
 | _=>st
def xa9(rs:List Row)(rk:Str->Nat)(z:Str):Rst:=(TX.toks z.cps.toList 0 0).foldl (xc7 rs rk z) st0
def rdS(rs:List Row)(rk:Str->Nat)(z:Str):Rst:=qa9 rs (xa9 rs rk z) 0 z.length "end"
def rtS(st:Rst):List Tr:=(st.bs.headD xu7).ps
theorem zg0(z:Str)(lo hi:Option Int):(qh2 z lo hi).length<=z.length:=by
 unfold qh2
 show(List.toArray _).size<=z.cps.size
 rw[List.size_toArray,List.length_take,List.length_drop,Array.length_toList]
 omega
theorem yw2(z:Str){p:Nat}(h1:p<=e)(h2:e<=z.length):(qh2 z (some (p:Int)) (some (e:Int))).length=e-p:=by
 have gl:z.cps.toList.length=z.length:=Array.length_toList
 unfold qh2
 show(List.toArray _).size=_
 rw[List.size_toArray,List.length_take,List.length_drop,HT.wb1,HT.wb1]
 omega
theorem bg0(rs:List Row):Bg rs 0 0 0 0 0 st0:=by
 refine⟨fun c hc=>?_,rfl,fun c hc=>(by cases hc),by unfold st0;simp,by unfold st0;simp,Nat.le_refl _,Nat.le_refl _⟩
 rw[List.mem_singleton.mp hc]
 exact⟨by show(0:Nat)<=_;omega,Nat.le_refl _,Nat.le_refl _,fun n hn=>(by cases hn),Nat.le_refl _⟩
theorem yp8{rs:List Row}{rk:Str->Nat}{z:Str}(b:Bok rs rk):∀ (ds:List PyData) (p j:Nat) (st:Rst),TkC z.cps.toList p ds->j<=p->Bg rs (2*j) (20*j) (60*j+p) j p st->∀ i,i<=ds.length->∃ p',p<=p'/\p'<=z.length/\j+i<=p'/\TkC z.cps.toList p' (ds.drop i)/\Bg rs (2*(j+i)) (20*(j+i)) (60*(j+i)+p') (j+i) p' ((ds.take i).foldl (xc7 rs rk z) st)
 | [],p,j,st,h,hj,hb,i,hi=>by
   obtain rfl:i=0:=by simpa using hi
   cases h with
   | nil e=>exact⟨p,Nat.le_refl _,by rw[e];exact Nat.le_of_eq Array.length_toList,hj,.nil e,hb⟩
 | d :: ds,p,j,st,h,hj,hb,0,_=>by
   refine⟨p,Nat.le_refl _,?_,hj,h,hb⟩
   cases h with
   | cons h1 h2 _ _ =>
     have:z.cps.toList.length=z.length:=Array.length_toList
     omega
 | d :: ds,p,j,st,h,hj,hb,i+1,hi=>by
   cases h with
   | cons h1 h2 h3 h4 =>
     rename_i e kind t
     have gl:z.cps.toList.length=z.length:=Array.length_toList
     have hs:=hb.step (rk:=rk) (kind:=kind) (i:=(p:Int)) (g:=qh2 z (some (p:Int)) (some (e:Int))) (t:=t) b
     rw[yw2 z (by omega) (by omega)] at hs
     have hs2:=hs.mono (P':=2*(j+1)) (W':=20*(j+1)) (M':=60*(j+1)+e) (D':=j+1) (T':=e) (by omega) (by omega) (by omega) (by omega) (by omega)
     obtain⟨p',q1,q2,q3,q4,q5⟩:=yp8 b ds e (j+1) _ h4 (by omega) hs2 i (by simpa using hi)
     refine⟨p',by omega,q2,by omega,q4,?_⟩
     rw[show j+(i+1)=j+1+i by omega]
     exact q5
theorem xv3(b:Bok rs rk)(i:Nat)(hi:i<=(TX.toks z.cps.toList 0 0).length):∃ p,p<=z.length/\i<=p/\TkC z.cps.toList p ((TX.toks z.cps.toList 0 0).drop i)/\Bg rs (2*i) (20*i) (60*i+p) i p (((TX.toks z.cps.toList 0 0).take i).foldl (xc7 rs rk z) st0):=by
 obtain⟨p,_,h1,h2,h3,h4⟩:=yp8 (z:=z) b (TX.toks z.cps.toList 0 0) 0 0 st0 (yd4 _) (Nat.le_refl _) (bg0 rs) i hi
 rw[Nat.zero_add] at h2 h4
 exact⟨p,h1,h2,h3,h4⟩
abbrev wm3(K:Fg)(k_Reader:Addr):TS :=
 (L7 (N9 k_Reader "read" (qb1 K) [] E0 (A3 2) (A2 (A3 3) (A2 (A3 4) (A2 (tSl (wq8 K) (A3 1) (Z4 (A3 4)) (Z4 (A3 5))) (A2 (A3 6) B0))))))
abbrev wm4(K:Fg)(k_Reader:Addr):TS :=
 (C0 (L7 (N9 k_Reader "finish" (W9 K) [] E0 (A3 2) (A2 (tCB (O6 K) (A2 (A3 1) B0)) B0)))
 (M0 (A3 2)))
abbrev wm5(K:Fg)(k_Reader:Addr):TS :=
 (C0 (qx9 (wf8 K (E2 (qq1 K) [] E0 (A2 (A3 1) B0))) (yf4 K 4 (qr0 (B2 3) (qr0 (B2 4) (qr0 (B2 5) (qr0 (B2 6) yf3)))))
 (wm3 K k_Reader))
 (wm4 K k_Reader))
def qq5(K:Fg):Sp:=fun vs H Q _=>∃ (bv:V) (z:Str) (rs:List Row) (rk:Str->Nat),vs=[bv,.str z]/\BkO K H bv rs/\Bok rs rk/\z.length<=10000/\∀ (kR kB r:Addr) (a:RAd) (H':Hp),RdO K H' kR kB r bv a (rdS rs rk z)->A7 H H'->(∀ x∈RAd.fp r a,H x=none)->Q (.ref r) H'
def qv5(K:Fg)(k_Reader:Addr):TS :=
 (C0 (E9 (xy3 k_Reader (qa5 K) [] E0 (A2 (A3 0) B0)) (B2 2))
 (wm5 K k_Reader))
theorem xv4(cz:Cz K k_Branch k_Reader)(h:qq5 K vs H Q E):qv5 K k_Reader {nx:=fun _ H'=>Q .non H',rt:=Q} (E8 ["book","text","reader","kind","start","stop","told"] vs) H:=by
 obtain⟨bv,z,rs,rk,rfl,hk,bk,hz,q⟩:=h
 show qv5 K _ _ [some bv,some (.str z),none,none,none,none,none] H
 unfold qv5
 lk
 refine xt0 ?_
 lk
 intro r dx hr hdx ne
 have s0:A7 H (upd (upd H dx (.own r)) r (.ins k_Reader dx [])):=fun c u e=>J5 (J5 e (Y4 hdx e)) (Y4 hr e)
 have e0:(upd (upd H dx (.own r)) r (.ins k_Reader dx [])) r=some (.ins k_Reader dx []):=A6
 have g0:C2 H (upd (upd H dx (.own r)) r (.ins k_Reader dx [])):=C2.tr C2.upd C2.upd
 generalize upd (upd H dx (.own r)) r (.ins k_Reader dx [])=H0 at *
 refine⟨k_Reader,r,dx,bv,rfl,cz.ns_Reader,e0,fun kB a H1 h1 bt1 fr1 g1=>⟨rfl,?_⟩⟩
 have s1:A7 H H1:=fun c u e=>bt1 c u (s0 c u e) (by simp;exact Y4 hr e)
 have hk1:=hk.same s1
 have fr2:∀ x∈RAd.fp r a,H x=none:=fun x hx=>by
  rcases fr1 x hx with h|h
  ·rw[h];exact hr
  ·exact g0 _ h
 show wm5 K _ _ _ _
 lk
 refine⟨z,rfl,by omega,fun p us H2 s2 hp0 hp hd=>?_⟩
 have h2:=h1.same s2
 have hk2:=hk1.same s2
 have np:p∉RAd.fp r a:=h1.nop hp0
 have hul:=hd.length
 refine wf9 (SqL.of hp) (fun j σ H'=>∃ a' x3 x4 x5 x6,σ=[some bv,some (.str z),some (.ref r),x3,x4,x5,x6]/\Rup K k_Reader kB r bv H2 a H' a' (((TX.toks z.cps.toList 0 0).take j).foldl (xc7 rs rk z) st0)/\C2 H2 H') ?_ ?_ ?_ ?_
 ·exact⟨a,none,none,none,none,rfl,.keep h2 fun c o e _=>e,fun z hz=>hz⟩
 ·rintro j σ H' _ ⟨a',x3,x4,x5,x6,rfl,u,g⟩
  exact SqL.of (u.bt _ _ hp np)
 ·rintro j v σ H' hv ⟨a',x3,x4,x5,x6,rfl,u,g⟩
  have hj:j<us.length:=by rcases Nat.lt_or_ge j us.length with h|h;exact h;rw[List.getElem?_eq_none_iff.mpr h] at hv;cases hv
  have hj2:j<(TX.toks z.cps.toList 0 0).length:=by omega
  obtain⟨pp,hp1,hp2,hp3,bj⟩:=xv3 (z:=z) bk j (by omega)
  have hjd:(TX.toks z.cps.toList 0 0)[j]?=some ((TX.toks z.cps.toList 0 0)[j]'hj2):=List.getElem?_eq_getElem _
  obtain⟨w,hw,dw⟩:=hd.get hjd
  rw[hv] at hw
  obtain rfl:=Option.some.inj hw
  have ef:((TX.toks z.cps.toList 0 0).take (j+1)).foldl (xc7 rs rk z) st0=xc7 rs rk z (((TX.toks z.cps.toList 0 0).take j).foldl (xc7 rs rk z) st0) ((TX.toks z.cps.toList 0 0)[j]'hj2):=by
   rw[qo5 hjd,List.foldl_append];rfl
  rw[PAt,ef]
  generalize ((TX.toks z.cps.toList 0 0).take j).foldl (xc7 rs rk z) st0=sj at *
  rw[<-List.getElem_cons_drop (h:=hj2)] at hp3
  generalize (TX.toks z.cps.toList 0 0)[j]'hj2=d at *
  cases hp3 with
  | cons c1 c2 c3 c4 =>
  rename_i e kind t
  have gl:z.cps.toList.length=z.length:=Array.length_toList
  have tk:=u.tupK h2
  obtain⟨q1,ws,rfl,hq,hwd⟩:=C7.mp dw
  rw[Dvs] at hwd;obtain⟨v0,r0,rfl,d0,hwd⟩:=hwd
  rw[Dvs] at hwd;obtain⟨v1,r1,rfl,d1,hwd⟩:=hwd
  rw[Dvs] at hwd;obtain⟨v2,r2,rfl,d2,hwd⟩:=hwd
  rw[Dvs] at hwd;obtain⟨v3,r3,rfl,d3,hwd⟩:=hwd
  rw[Dvs] at hwd;subst hwd
  obtain rfl:=E6.mp d0
  obtain rfl:=O1.mp d1
  obtain rfl:=O1.mp d2
  obtain rfl:=E6.mp d3
  refine⟨q1,_,rfl,tk.sqT hq,rfl,_,_,rfl,L3 ⟨_,_,rfl,L3 ⟨_,_,rfl,L3 ⟨_,_,rfl,L3 ⟨rfl,?_⟩⟩⟩⟩⟩
  show wm3 K _ _ _ _
  lk
  refine J4 ?_
  lk
  refine⟨r,_,_,rfl,u.ok.o,rfl,?_⟩
  lk
  refine xp5 (E1 (by omega)) ?_
  lk
  have hcl:=zg0 z (some (pp:Int)) (some (e:Int))
  refine⟨k_Reader,kB,r,bv,a',sj,rs,rk,_,_,_,_,_,kind,pp,_,t,rfl,u.ok,hk2.tupK tk,bk,bj,⟨by omega,by omega,by omega,by omega,by omega⟩,by omega,by omega,fun a2 H3 u2 g2=>?_⟩
  exact⟨a2,_,_,_,_,rfl,u.tr u2 g,C2.tr g g2⟩
 ·rintro σ H' ⟨a',x3,x4,x5,x6,rfl,u,g⟩
  obtain⟨pp,hp1,hp2,hp3,bj⟩:=xv3 (z:=z) bk (TX.toks z.cps.toList 0 0).length (Nat.le_refl _)
  rw[hul,List.take_length] at u
  rw[List.take_length] at bj
  have u':Rup K k_Reader kB r bv H2 a H' a' (xa9 rs rk z):=u
  have bj':Bg rs _ _ _ _ _ (xa9 rs rk z):=bj
  have tk:=u'.tupK h2
  show wm4 K _ _ _ _
  lk
  refine J4 ?_
  lk
  refine⟨r,_,_,rfl,u'.ok.o,rfl,?_⟩
  lk
  refine .inr (.inl ⟨z,rfl,E1 (by omega),?_⟩)
  lk
  have erd:rdS rs rk z=qa9 rs (xa9 rs rk z) 0 z.length "end":=rfl
  generalize xa9 rs rk z=sj at *
  obtain⟨b0,cl,eb⟩:=List.exists_cons_of_ne_nil bj'.ne
  have hl:=bj'.l
  have hm:=bj'.m
  have hcl:cl.length<=20:=by rw[eb] at hl;simp at hl;omega
  refine⟨k_Reader,kB,r,bv,a',sj,rs,cl,b0,z.length,rfl,u'.ok,hk2.tupK tk,eb,by omega,bj'.cond (by omega) (by omega),by omega,fun a3 H3 u3 g3=>?_⟩
  lk
  have uu:=u'.tr u3 g
  have e5:=yp6 (rs:=rs) (st:=sj) (pre:=[]) (cl:=cl) (b:=b0) (i:=z.length) (rule := "end") eb
  have e6:rdS rs rk z={sj with bs:=wUp rs (·++qb3 rs (cl.map Brn.n)) [{b0 with ps:=b0.ps++V8 cl}],ms:=sj.ms++cl.reverse.map (clM z.length "end")}:=erd.trans e5
  have u4:Rup K k_Reader kB r bv H2 a H3 a3 (rdS rs rk z):=by rw[e6];exact uu
  refine q _ kB r a3 H3 u4.ok (fun c o e=>u4.bt c o (s2 c o (s1 c o e)) fun hc=>?_) fun x hx=>?_
  ·have:=fr2 c hc;rw[e] at this;cases this
  ·rcases u4.fr x hx with h|h
   ·exact fr2 x h
   ·exact(A7.grow s1) _ (A7.grow s2 _ h)
abbrev wm6(K:Fg)(k_Reader:Addr):TS :=
 (M0 (M2 (A2 (N9 k_Reader "root" (qa6 K) [] E0 (A3 2) B0) (A2 (T3 K (A3 2) "mends") B0))))
def qq6(K:Fg):Sp:=fun vs H Q _=>∃ (bv:V) (z:Str) (rs:List Row) (rk:Str->Nat),vs=[bv,.str z]/\BkO K H bv rs/\Bok rs rk/\z.length<=10000/\∀ (v1:V) (p q:Addr) (us:List V) (H':Hp),SqT K H' p [v1,.ref q]->Dv K H' (Tr.nd "" (rtS (rdS rs rk z))).da v1->H' q=some (.lst us)->Dvs K H' ((rdS rs rk z).ms.map Mnd.da) us->A7 H H'->H q=none->Q (.ref p) H'
def qv6(K:Fg)(k_Reader:Addr):TS :=
 (C0 (E9 (E2 (qq5 K) [] E0 (A2 (A3 0) (A2 (A3 1) B0))) (B2 2))
 (wm6 K k_Reader))
theorem xv5(cz:Cz K k_Branch k_Reader)(h:qq6 K vs H Q E):qv6 K k_Reader {nx:=fun _ H'=>Q .non H',rt:=Q} (E8 ["book","text","reader"] vs) H:=by
 obtain⟨bv,z,rs,rk,rfl,hk,bk,hz,q⟩:=h
 show qv6 K _ _ [some bv,some (.str z),none] H
 unfold qv6
 lk
 refine⟨bv,z,rs,rk,rfl,hk,bk,hz,fun kR kB r a H1 h1 s1 hn=>?_⟩
 obtain rfl:=N6 cz.ns_Reader h1.kr
 show wm6 K _ _ _ _
 lk
 refine J4 ?_
 lk
 refine⟨r,_,_,rfl,h1.o,rfl,?_⟩
 lk
 have hne:(rdS rs rk z).bs≠[]:=xu8 (by simp)
 obtain⟨b',t',ebf⟩:=List.exists_cons_of_ne_nil hne
 have ert:rtS (rdS rs rk z)=b'.ps:=by unfold rtS;rw[ebf];rfl
 refine⟨k_Reader,kB,r,bv,a,_,b',t',rfl,h1,ebf,fun v H2 s2 hv=>?_⟩
 rw[<-ert] at hv
 have h2:=h1.same s2
 obtain⟨us,m1,m2⟩:=h2.m
 lk
 refine J9 ?_
 lk
 refine⟨r,_,a.x,_,_,rfl,h2.o,cz.cl_Reader,cz.na_Reader_mends,rfl,?_⟩
 lk
 refine⟨E1 (by z_go),fun p hp=>?_⟩
 have s3:=A7.new hp (.tup [v,.ref a.M])
 exact q v p a.M us _ (SqT.of A6) (Dv.same s3 _ _ hv) (s3 _ _ m1) (Dvs.same s3 _ _ m2) (A7.tr (A7.tr s1 s2) s3) (hn _ (by simp[RAd.fp]))
mutual
theorem zq5:∀ t:Tr,nd t.da=true
 | .tx s=>by rw[Tr.da,nd]
 | .nd n ps=>by rw[Tr.da,nd,nds,nd,nds,nd,nds,yp9 ps];rfl
theorem yp9:∀ ts:List Tr,nds (Tr.das ts)=true
 | []=>by rw[Tr.das,nds]
 | t::ts=>by rw[Tr.das,nds,zq5 t,yp9 ts];rfl
end
mutual
theorem yd5:∀ t:Tr,t.da.depth<=2*hgt t+4
 | .tx s=>by rw[Tr.da];simp[PyData.depth]
 | .nd n ps=>by
   have:=xq5 ps
   rw[Tr.da,hgt]
   simp[PyData.depth,PyData.depthAll] at this ⊢
   omega
theorem xq5:∀ ts:List Tr,PyData.depthAll (Tr.das ts)<=2*Z6 ts+4
 | []=>by rw[Tr.das];simp[PyData.depthAll]
 | t::ts=>by
   have h1:=yd5 t
   have h2:=xq5 ts
   rw[Tr.das,Z6]
   simp[PyData.depthAll] at h2 ⊢
   omega
end
theorem zg1:∀ ms:List Mnd,nds (ms.map Mnd.da)=true
 | []=>rfl
 | m::ms=>by rw[List.map_cons,nds,zg1 ms];rfl
theorem yd6:∀ ms:List Mnd,PyData.depthAll (ms.map Mnd.da)<=4
 | []=>by simp[PyData.depthAll]
 | m::ms=>by
   have:=yd6 ms
   rw[List.map_cons,PyData.depthAll]
   have h2:m.da.depth<=4:=by unfold Mnd.da;simp[PyData.depth,PyData.depthAll]
   omega
theorem zn7{t:Tr}{ms:List Mnd}{x y:V}(hh:hgt t<=80)(h1:Dv K H (.tuple [t.da,.list (ms.map Mnd.da)]) x)(h2:Dv K H (.tuple [t.da,.list (ms.map Mnd.da)]) y)(q:Q (.bl true) H):qg1 K x y H Q:=by
 refine Aa8 h1 h2 ?_ ?_
 ·have e1:=yd5 t
  have e2:=yd6 ms
  simp only[PyData.depth,PyData.depthAll]
  omega
 ·rw[wq6 _ (by rw[nd,nds,zq5,nds,nd,zg1,nds];rfl)];exact q
def Bh(m:Nat)(bs:List Brn):Prop:=∀ (i:Nat) (c:Brn),bs[i]?=some c->Z6 c.ps+i<=m
section
variable{m:Nat}{bs:List Brn}{rs:List Row}
theorem Bh.map{bs':List Brn}(h:Bh m bs)(e:bs'.map Brn.ps=bs.map Brn.ps):Bh m bs':=fun i c hc=>by
 have h1:(bs'.map Brn.ps)[i]?=some c.ps:=by rw[List.getElem?_map,hc];rfl
 rw[e,List.getElem?_map] at h1
 obtain⟨d,hd,ed⟩:=Option.map_eq_some_iff.mp h1
 rw[<-ed];exact h i d hd
theorem Bh.take(h:Bh m bs)(k:Nat):Bh m (bs.take k):=fun i c hc=>by
 rw[List.getElem?_take] at hc
 split at hc
 ·exact h i c hc
 ·cases hc
theorem Bh.snoc(h:Bh m bs)(hb:Z6 b.ps+bs.length<=m):Bh m (bs++[b]):=fun i c hc=>by
 rcases Nat.lt_or_ge i bs.length with hi|hi
 ·rw[List.getElem?_append_left hi] at hc;exact h i c hc
 ·rw[List.getElem?_append_right hi] at hc
  rcases Nat.eq_zero_or_pos (i-bs.length) with h0|h0
  ·rw[h0] at hc
   obtain rfl:=Option.some.inj hc
   rw[show i=bs.length by omega];exact hb
  ·rw[List.getElem?_eq_none_iff.mpr (by simp;omega)] at hc;cases hc
theorem yq0:∀ (C:List Brn) (j:Nat),(∀ i e,C[i]?=some e->Z6 e.ps+(j+i)<=m)->j<=m+1->Z6 (V8 C)+j<=m+1
 | [],j,_,hj=>by rw[V8,Z6];omega
 | e::t,j,h,hj=>by
   have h0:=h 0 e rfl
   have h1:=yq0 t (j+1) (fun i e he=>by have:=h (i+1) e (by simpa using he);omega) (by omega)
   rw[V8,Z6,Z6,hgt,qr6]
   omega
theorem Bh.cls{k:Nat}(h:Bh m st.bs)(hk:k<st.bs.length)(hl:st.bs.length<=m+1):Bh m (qa9 rs st k i rule).bs:=by
 have e:(qa9 rs st k i rule).bs.map Brn.ps=(st.bs.take k++[{(st.bs[k]) with ps:=(st.bs[k]).ps++V8 (st.bs.drop (k+1))}]).map Brn.ps:=by
  show(wUp rs _ _).map Brn.ps=_
  rw[ws7 fun _ _=>rfl,xu9 hk]
 refine Bh.map ?_ e
 refine(h.take k).snoc ?_
 have h0:=h k _ (List.getElem?_eq_getElem hk)
 have h1:=yq0 (m:=m) (st.bs.drop (k+1)) (k+1) (fun i e he=>by
  rw[List.getElem?_drop] at he
  exact h _ e he) (by omega)
 show Z6 (_++_)+_<=m
 rw[qr6,List.length_take];omega
theorem Bh.ent(h:Bh m bs)(hl:bs.length<=m):Bh m (qa8 bs n):=by
 unfold qa8
 refine h.snoc ?_
 show Z6 []+_<=m
 rw[Z6];omega
theorem Bh.puts:∀ {ns:List Str} {st:Rst} {i:Int} {rule:Str},Bh m st.bs->st.bs.length+ns.length<=m->Bh m (U6 st ns i rule).bs
 | [],st,i,rule,h,_=>h
 | n::ns,st,i,rule,h,hl=>by
   rw[List.length_cons] at hl
   exact Bh.puts (st:=wx7 st n i rule) (h.ent (by omega)) (by rw[qz2];omega)
theorem Bh.lv(h:Bh m bs)(h2:2<=bs.length):Bh m (lvB bs):=by
 obtain⟨l,b1,b2,rfl⟩:=xv0 h2
 rw[wx9]
 have h1:=h l.length b1 (by simp)
 have h3:=h (l.length+1) b2 (by simp)
 have e:l++[b1,b2]=l++([b1]++[b2]):=rfl
 have hl:Bh m l:=fun i c hc=>h i c (by rw[List.getElem?_append_left (List.getElem?_eq_some_iff.mp hc).1];exact hc)
 refine hl.snoc ?_
 show Z6 (b1.ps++[Tr.nd b2.n b2.ps])+_<=m
 rw[qr6,Z6,Z6,hgt];omega
theorem Ac4(ps:List Tr)(t:Str):Z6 (adP ps t)<=max (Z6 ps) (hgt (.tx t)):=by
 unfold adP
 split
 ·rename_i u e
  have hd:Z6 ps.dropLast<=Z6 ps:=by
   have e2:ps=ps.dropLast++[.tx u]:=by
    rcases List.eq_nil_or_concat ps with h|⟨q,x,h⟩
    ·rw[h] at e;cases e
    ·rw[List.concat_eq_append] at h
     rw[h,List.getLast?_concat] at e
     rw[h,List.dropLast_concat,Option.some.inj e]
   have h1:=qr6 ps.dropLast [.tx u]
   rw[<-e2] at h1
   omega
  rw[qr6,Z6,Z6,hgt,hgt];omega
 ·rw[qr6,Z6,Z6];omega
theorem Bh.tx(h:Bh m st.bs)(hne:st.bs≠[])(hl:st.bs.length<=m):Bh m (txS st i g t).bs:=by
 rcases List.eq_nil_or_concat st.bs with e|⟨l,b,e⟩
 ·exact absurd e hne
 ·rw[List.concat_eq_append] at e
  have e1:(txS st i g t).bs=l++[{b with ps:=adP b.ps t}]:=by
   show st.bs.dropLast++[{(Y8 st.bs) with ps:=adP (Y8 st.bs).ps t}]=_
   rw[e,qs0,List.dropLast_concat]
  rw[e1]
  rw[e] at h hl
  have h1:=h l.length b (by simp)
  have hl':Bh m l:=fun i c hc=>h i c (by rw[List.getElem?_append_left (List.getElem?_eq_some_iff.mp hc).1];exact hc)
  refine hl'.snoc ?_
  have:=Ac4 b.ps t
  rw[hgt] at this
  show Z6 (adP b.ps t)+_<=m
  rw[List.length_append,List.length_singleton] at hl
  omega
theorem Bh.wup(h:Bh m bs):Bh m (wUp rs f bs):=h.map (ws7 (fun _ _=>rfl) bs)
theorem xv6{i:Int}:∀ (ws:List Str) (st:Rst),Bh 21 st.bs->st.bs.length<=21->st.bs≠[]->Bh 21 (ws.foldl (qg9 rs i) st).bs
 | [],st,h,_,_=>h
 | n::ws,st,h,hl,hne=>by
   rw[List.foldl_cons]
   have hp:0<st.bs.length:=List.length_pos_iff.mpr hne
   by_cases ha:wm1 rs (L6 st) n=true
   ·have e:qg9 rs i st n=wx7 st n i "anew":=by unfold qg9;rw[if_pos ha]
    rw[e]
    unfold wm1 at ha
    rw[Bool.and_eq_true,decide_eq_true_eq] at ha
    have hnl:(L6 st).length+1=st.bs.length:=by unfold L6;rw[List.length_map,List.length_tail];omega
    exact xv6 ws _ (h.ent hl) (by rw[qz2];omega) (by show qa8 st.bs n≠[];unfold qa8;simp)
   ·have e:qg9 rs i st n=st:=by unfold qg9;rw[if_neg ha]
    rw[e]
    exact xv6 ws st h hl hne
theorem Bh.step{D:Nat}(b:Bok rs rk)(bg:Bg rs P W M D T st)(h:Bh 21 st.bs):Bh 21 (qo7 rs rk st kind i g t).bs:=by
 have hl:=bg.l
 have hnl:=bg.nlen
 unfold qo7
 split
 ·unfold opS
  split
  ·exact h
  rename_i hs
  split
  ·exact h
  split
  ·exact h
  rename_i hlen
  have hrow:=wy1 hs
  have w:=wj6 b.B b.f (ys:=L6 st) 13 t hrow (b.k t)
  obtain⟨ps,hps⟩:=wy0 (rs:=rs) (rk:=rk) (ys:=L6 st) 13 t
  have hw1:=w.k
  generalize N3 rs rk (L6 st) 13 t=wt at *
  have hk:wt.1<st.bs.length:=by omega
  have e1:wt.2.dropLast=ps:=by rw[hps,List.dropLast_concat]
  have e2:wt.2.length=ps.length+1:=by rw[hps];simp
  have hc:=h.cls (rs:=rs) (i:=i) (rule := "shut") hk (by omega)
  have hcl:(qa9 rs st wt.1 i "shut").bs.length=wt.1+1:=by rw[wk3,List.length_take];omega
  have hp:=Bh.puts (ns:=ps) (i:=i) (rule := "frame") hc (by rw[hcl];omega)
  have hpl:=wk2 ps (qa9 rs st wt.1 i "shut") i "frame"
  rw[e1]
  dsimp only
  have he:=hp.ent (n:=t) (by omega)
  split
  ·refine he.lv ?_
   show 2<=(qa8 _ t).length
   unfold qa8
   rw[List.length_append,hpl,hcl,List.length_singleton];omega
  ·exact he
 split
 ·unfold qz1
  split
  ·rename_i k hk
   have:=xh5 hk
   refine(h.cls (rs:=rs) (by omega) (by omega)).lv ?_
   rw[wk3,List.length_take];omega
  ·split
   ·exact h.wup
   ·exact h
 ·unfold qx1
  split
  ·exact h
  split
  ·exact h
  rename_i hlen
  have hh:(R6 rs st).length<=12:=ql1 rs 12 _
  have hp:=Bh.puts (ns:=R6 rs st) (i:=i) (rule := "host") h (by omega)
  have hpb:=bg.puts (ns:=R6 rs st) (i:=i) (rule := "host") (by omega) fun m hm=>by
   have:=qy7 b.B 12 _ m hm
   exact⟨b.row this,this⟩
  have hA:=hpb.anews (i:=i) b.n
  refine Bh.tx ?_ hA.ne (by have:=hA.l;exact this)
  unfold wm2 qx0
  exact xv6 _ _ hp.wup (by show(wUp rs _ _).length<=21;rw[ws8];exact hpb.l) (xu8 hpb.ne)
theorem yq1{rk:Str->Nat}{z:Str}(b:Bok rs rk):∀ (ds:List PyData) (p:Nat) (st:Rst) (P W M D T:Nat),TkC z.cps.toList p ds->Bg rs P W M D T st->Bh 21 st.bs->Bh 21 (ds.foldl (xc7 rs rk z) st).bs
 | [],_,_,_,_,_,_,_,_,_,h=>h
 | d::ds,p,st,P,W,M,D,T,hd,bg,h=>by
   cases hd with
   | cons _ _ _ h4=>exact yq1 b ds _ _ _ _ _ _ _ h4 (bg.step b) (h.step b bg)
theorem zn8(b:Bok rs rk):hgt (Tr.nd "" (rtS (rdS rs rk z)))<=80:=by
 have h0:Bh 21 st0.bs:=fun i c hc=>by
  cases i with
  | zero=>simp[st0] at hc;subst hc;show Z6 []+0<=21;rw[Z6];omega
  | succ i=>simp[st0] at hc
 have h1:=yq1 (z:=z) b _ 0 st0 _ _ _ _ _ (yd4 _) (bg0 rs) h0
 obtain⟨p,_,_,_,bj⟩:=xv3 (z:=z) b (TX.toks z.cps.toList 0 0).length (Nat.le_refl _)
 rw[List.take_length] at bj
 have hp:0<(xa9 rs rk z).bs.length:=List.length_pos_iff.mpr bj.ne
 have hl:(xa9 rs rk z).bs.length<=21:=bj.l
 have h2:Bh 21 (rdS rs rk z).bs:=Bh.cls (rs:=rs) (i:=z.length) (rule := "end") h1 hp (by omega)
 have hne:(rdS rs rk z).bs≠[]:=xu8 (by simp)
 obtain⟨c,t,e⟩:=List.exists_cons_of_ne_nil hne
 have h3:=h2 0 c (by rw[e];rfl)
 rw[hgt]
 unfold rtS
 rw[e]
 show 1+Z6 c.ps<=80
 omega
end
theorem qf6(z:Str):z.cps.toList.length=z.length:=Array.length_toList
theorem yq2(z:Str):TX.ofL z.cps.toList=z:=by unfold TX.ofL;cases z;simp
def rml(H:Hp)(ps:List Addr):Hp:=fun z=>if z∈ps then none else H z
theorem zg2{z:Addr}(h:z∈ps):rml H ps z=none:=if_pos h
theorem xv7{z:Addr}(h:z∉ps):rml H ps z=H z:=if_neg h
theorem zg3:A7 (rml H ps) H:=fun c o e=>by
 by_cases h:c∈ps
 ·rw[zg2 h] at e;cases e
 ·rw[xv7 h] at e;exact e
theorem A7.rml(s:A7 H0 H)(h:∀ z∈ps,H0 z=none):A7 H0 (rml H ps):=fun c o e=>by
 rw[xv7 fun hc=>by rw[h c hc] at e;cases e];exact s c o e
inductive HsB(K:Fg)(H:Hp):List Addr->List (List Tr)->Prop
 | nil:HsB K H [] []
 | cons {a:Addr} {w:List Tr} {us:List V} {as:List Addr} {ws:List (List Tr)}:H a=some (.lst us)->Dvs K H (Tr.das w) us->HsB K H as ws->HsB K H (a::as) (w::ws)
structure Hps(K:Fg)(H:Hp)(L:Addr)(as:List Addr)(ws:List (List Tr)):Prop where
 l:H L=some (.lst (as.map V.ref))
 b:HsB K H as ws
 nd:(L::as).Nodup
section
variable{H':Hp}{L:Addr}{as as2:List Addr}{ws ws2:List (List Tr)}{w:List Tr}{ps:List Addr}
theorem HsB.len(h:HsB K H as ws):as.length=ws.length:=by
 induction h with
 | nil=>rfl
 | cons _ _ _ ih=>simp[ih]
theorem HsB.but(h:HsB K H as ws)(bt:But ps H H')(tk:T5 H H')(hd:∀ z∈as,z∉ps):HsB K H' as ws:=by
 induction h with
 | nil=>exact .nil
 | cons h1 h2 _ ih=>exact .cons (bt _ _ h1 (hd _ (by simp))) (Dvs.tupK tk _ _ (qe6 _) h2) (ih fun z hz=>hd z (by simp[hz]))
theorem HsB.app(h:HsB K H as ws)(h2:HsB K H as2 ws2):HsB K H (as++as2) (ws++ws2):=by
 induction h with
 | nil=>exact h2
 | cons h1 h3 _ ih=>exact .cons h1 h3 ih
theorem HsB.snoc(h:HsB K H as (ws++[w])):∃ as' a us,as=as'++[a]/\HsB K H as' ws/\H a=some (.lst us)/\Dvs K H (Tr.das w) us:=by
 induction ws generalizing as with
 | nil=>cases h with|cons h1 h2 h3=>cases h3;exact⟨[],_,_,rfl,.nil,h1,h2⟩
 | cons c ws ih =>
   cases h with
   | cons h1 h2 h3 =>
     obtain⟨as',a,us,rfl,h4,h5,h6⟩:=ih h3
     exact⟨_::as',a,us,rfl,.cons h1 h2 h4,h5,h6⟩
theorem HsB.mut(h:HsB K H as ws):∀ z∈as,xg7 H z:=by
 induction h with
 | nil=>intro z hz;cases hz
 | cons h1 _ _ ih =>
   intro z hz
   rcases List.mem_cons.mp hz with rfl|hz
   ·exact .inl ⟨_,h1⟩
   ·exact ih z hz
theorem Hps.mut(h:Hps K H L as ws):∀ z∈L::as,xg7 H z:=fun z hz=>by
 rcases List.mem_cons.mp hz with rfl|hz
 ·exact .inl ⟨_,h.l⟩
 ·exact h.b.mut z hz
theorem xg7.some{z:Addr}(h:xg7 H z):H z≠none:=fun e=>by
 rcases h with⟨xs,e2⟩|⟨C,dx,fs,e2⟩ <;> rw[e] at e2 <;> cases e2
theorem Hps.but(h:Hps K H L as ws)(bt:But ps H H')(tk:T5 H H')(hd:∀ z∈L::as,z∉ps):Hps K H' L as ws :=
 ⟨bt _ _ h.l (hd _ (by simp)),h.b.but bt tk fun z hz=>hd z (by simp[hz]),h.nd⟩
theorem Hps.same(h:Hps K H L as ws)(s:A7 H H'):Hps K H' L as ws:=h.but (ps:=[]) (fun c o e _=>s c o e) s.tupK fun _ _ z=>by cases z
theorem Hps.upd(h:Hps K H L as ws)(hp:xg7 H p\/H p=none)(hn:p∉L::as):Hps K (upd H p o) L as ws :=
 h.but But.upd1 (hp.elim N7 fun e=>(A7.new e o).tupK) fun z hz e=>hn (by rw[List.mem_singleton.mp e] at hz;exact hz)
theorem Hps.pop(h:Hps K H L as (ws++[w])):∃ as' a us,as=as'++[a]/\H L=some (.lst (as'.map V.ref++[.ref a]))/\Hps K (L2.upd H L (.lst (as'.map V.ref))) L as' ws/\(L2.upd H L (.lst (as'.map V.ref))) a=some (.lst us)/\Dvs K (L2.upd H L (.lst (as'.map V.ref))) (Tr.das w) us:=by
 obtain⟨as',a,us,rfl,h1,h2,h3⟩:=h.b.snoc
 have nd:=h.nd
 rw[List.nodup_cons,List.nodup_append] at nd
 have tk:T5 H (L2.upd H L (.lst (as'.map V.ref))):=N7 (.inl ⟨_,h.l⟩)
 have nL:∀ z∈as'++[a],z≠L:=fun z hz e=>nd.1 (e▸hz)
 refine⟨as',a,us,rfl,by rw[h.l,List.map_append];rfl,⟨A6,h1.but But.upd1 tk fun z hz e=>nL z (by simp[hz]) (List.mem_singleton.mp e),?_⟩,J5 h2 (nL a (by simp)),Dvs.tupK tk _ _ (qe6 _) h3⟩
 rw[List.nodup_cons]
 exact⟨fun e=>nd.1 (by simp[e]),nd.2.1⟩
theorem Hps.top(h:Hps K H L as (ws++[w])):∃ as' a us,as=as'++[a]/\H a=some (.lst us)/\Dvs K H (Tr.das w) us/\H L=some (.lst (as'.map V.ref++[.ref a]))/\∀ w' us',Dvs K H (Tr.das w') us'->Hps K (L2.upd H a (.lst us')) L as (ws++[w']):=by
 obtain⟨as',a,us,rfl,h1,h2,h3⟩:=h.b.snoc
 have nd:=h.nd
 rw[List.nodup_cons,List.nodup_append] at nd
 refine⟨as',a,us,rfl,h2,h3,by rw[h.l,List.map_append];rfl,fun w' us' hd=>?_⟩
 have tk:T5 H (L2.upd H a (.lst us')):=N7 (.inl ⟨_,h2⟩)
 refine⟨J5 h.l fun e=>nd.1 (by rw[e];simp),(h1.but But.upd1 tk fun z hz e=>nd.2.2.2 z hz a (by simp) (List.mem_singleton.mp e)).app (.cons A6 (Dvs.tupK tk _ _ (qe6 _) hd) .nil),h.nd⟩
theorem Hps.put{w':List Tr}{us':List V}(h:Hps K H L (as++[a]) (ws++[w]))(hd:Dvs K H (Tr.das w') us'):Hps K (L2.upd H a (.lst us')) L (as++[a]) (ws++[w']):=by
 obtain⟨as',a',us,e,_,_,_,q⟩:=h.top
 obtain⟨rfl,e2⟩:=List.append_inj' e rfl
 obtain rfl:=(List.cons.inj e2).1
 exact q w' us' hd
theorem Hps.push(h:Hps K H L as ws)(hp:H p=none)(hd:Dvs K H (Tr.das w) us):Hps K (L2.upd (L2.upd H p (.lst us)) L (.lst (as.map V.ref++[.ref p]))) L (as++[p]) (ws++[w]):=by
 have nd:=h.nd
 have s:=A7.new hp (.lst us)
 have nL:p≠L:=fun e=>by rw[e,h.l] at hp;cases hp
 have na:∀ z∈as,z≠p:=fun z hz e=>(h.b.mut z hz).some (e▸hp)
 have h1:=h.same s
 have e1:(L2.upd H p (.lst us)) p=some (.lst us):=A6
 have d1:=Dvs.same s _ _ hd
 generalize L2.upd H p (.lst us)=H1 at *
 have tk:T5 H1 (L2.upd H1 L (.lst (as.map V.ref++[.ref p]))):=N7 (.inl ⟨_,h1.l⟩)
 rw[List.nodup_cons] at nd
 refine⟨by rw[A6,List.map_append];rfl,(h1.b.but But.upd1 tk fun z hz e=>nd.1 (by rw[List.mem_singleton.mp e] at hz;exact hz)).app (.cons (J5 e1 nL) (Dvs.tupK tk _ _ (qe6 _) d1) .nil),?_⟩
 rw[List.nodup_cons,List.nodup_append]
 exact⟨fun e=>(List.mem_append.mp e).elim nd.1 fun e=>nL (List.mem_singleton.mp e).symm,nd.2,by simp,fun x hx y hy e=>na x hx (by rw[e];exact List.mem_singleton.mp hy)⟩
theorem Hps.first(h:Hps K H L as (w::ws)):∃ a as' us,as=a::as'/\H a=some (.lst us)/\Dvs K H (Tr.das w) us:=by
 have:=h.b
 cases this with
 | cons h1 h2 h3=>exact⟨_,_,_,rfl,h1,h2⟩
end
variable{w:List Tr}
theorem wh3{t:Tr}(h:Dvs K H (Tr.das w) us)(hv:Dv K H t.da v):Dvs K H (Tr.das (w++[t])) (us++[v]):=by
 rw[Y0,List.map_append,<-Y0]
 exact Dvs.append h (Dvs.one hv)
structure FlB(names:List Str)(c:Nat)(srt:Nat->Str)(rs:List Row):Prop where
 len:rs.length=c
 row:∀ (k:Nat) (r:Row),rs[k]?=some r->r=Row.mk (gd names k) (srt k) "" [] []
 ok:∀ k,k<c->xh0 (srt k)/\srt k≠("frame":Str)
section
variable{names:List Str}{c:Nat}{srt:Nat->Str}{rs:List Row}
theorem FlB.mem(h:FlB names c srt rs)(hr:r∈rs):∃ k,k<c/\r=⟨gd names k,srt k, "",[],[]⟩:=by
 obtain⟨k,hk,e⟩:=List.getElem_of_mem hr
 exact⟨k,by rw[<-h.len];exact hk,h.row k r (by rw[List.getElem?_eq_getElem hk,e])⟩
theorem FlB.nofr(h:FlB names c srt rs)(hr:r∈rs):r.sort≠("frame":Str):=by
 obtain⟨k,hk,rfl⟩:=h.mem hr
 exact(h.ok k hk).2
theorem FlB.names_eq(h:FlB names c srt rs)(hc:c<=names.length):rs.map (·.name)=names.take c:=by
 apply List.ext_getElem?
 intro i
 rw[List.getElem?_map,List.getElem?_take]
 by_cases hi:i<c
 ·have hi':i<rs.length:=by rw[h.len];exact hi
  have e1:rs[i]?=some rs[i]:=List.getElem?_eq_getElem hi'
  rw[if_pos hi,e1,ww4 (by omega)]
  show some (rs[i].name)=_
  rw[h.row i _ e1]
 ·rw[if_neg hi,List.getElem?_eq_none_iff.mpr (by rw[h.len];omega)];rfl
theorem FlB.bok(h:FlB names c srt rs)(hN:Nms names)(hc:c<=names.length)(h1:1<=c)(h12:c<=12):Bok rs fun _=>0:=by
 have nm:∀ r∈rs,Row.name r∈names:=fun r hr=>by
  have:r.name∈names.take c:=by rw[<-h.names_eq hc];exact List.mem_map_of_mem hr
  exact List.mem_of_mem_take this
 refine⟨⟨by rw[h.len];exact h1,by rw[h.len];exact h12,?_,fun r hr=>hN.ne _ (nm r hr),⟨fun _=>0,fun r hr=>Nat.zero_lt_succ _,fun r hr hf=>absurd hf (h.nofr hr)⟩,fun r hr _=>?_,fun r hr r' hr' hf=>absurd hf (h.nofr hr),fun r hr=>?_,fun r hr x hx f hf hs=>absurd hs (h.nofr hf)⟩,fun x y e=>?_,fun _=>Nat.zero_le _,fun r hr=>?_,fun r hr=>?_⟩
 ·rw[h.names_eq hc];exact hN.nd.sublist (List.take_sublist _ _)
 ·obtain⟨k,hk,rfl⟩:=h.mem hr;rfl
 ·obtain⟨k,hk,rfl⟩:=h.mem hr;exact(h.ok k hk).1
 ·obtain⟨r,hr,_,hf,_⟩:=ww7 e
  exact absurd hf (h.nofr hr)
 ·have:=hN.le _ (nm r hr);omega
 ·obtain⟨k,hk,rfl⟩:=h.mem hr
  exact⟨Nat.zero_le _,Nat.zero_le _⟩
theorem FlB.frame(h:FlB names c srt rs)(x:Option Str):N4 rs x=none:=by
 unfold N4
 rw[List.find?_eq_none.mpr fun r hr=>?_];rfl
 rw[decide_eq_false (h.nofr hr)];simp
theorem FlB.host(h:FlB names c srt rs)(x:Option Str):Q8 rs x=none:=by
 unfold Q8
 cases e:qb2 rs x with
 | none=>rfl
 | some r =>
   show(if r.sort=("frame":Str) then _ else _)=_
   rw[if_neg (h.nofr (List.mem_of_find?_eq_some e))]
theorem FlB.hosts(h:FlB names c srt rs)(x:Str):M9 rs x=[]:=by
 unfold M9 qh7
 rw[h.host]
theorem FlB.shuts(h:FlB names c srt rs)(x:Str):qp6 rs x=[]:=by
 unfold qp6
 cases e:qb2 rs (some x) with
 | none=>rfl
 | some r=>obtain⟨k,_,rfl⟩:=h.mem (List.mem_of_find?_eq_some e);rfl
theorem FlB.bars(h:FlB names c srt rs)(x:Str):wg8 rs x=[]:=by
 unfold wg8
 cases e:qb2 rs (some x) with
 | none=>rfl
 | some r=>obtain⟨k,_,rfl⟩:=h.mem (List.mem_of_find?_eq_some e);rfl
theorem FlB.rowAt(h:FlB names c srt rs)(hN:Nms names)(hc:c<=names.length){k:Nat}(hk:k<c):qb2 rs (some (gd names k))=some ⟨gd names k,srt k, "",[],[]⟩:=by
 have hk2:k<rs.length:=by rw[h.len];exact hk
 have e:rs[k]?=some rs[k]:=List.getElem?_eq_getElem hk2
 have hr:rs[k]∈rs:=List.getElem_mem hk2
 have:=yv4 (rs:=rs) (by rw[h.names_eq hc];exact hN.nd.sublist (List.take_sublist _ _)) hr
 rw[h.row k _ e] at this
 exact this
theorem FlB.sort(h:FlB names c srt rs)(hN:Nms names)(hc:c<=names.length){k:Nat}(hk:k<c):L9 rs (some (gd names k))=some (srt k):=by
 unfold L9;rw[h.rowAt hN hc hk];rfl
theorem FlB.nosort(h:FlB names c srt rs)(hc:c<=names.length)(hx:x∉names.take c):L9 rs (some x)=none:=by
 unfold L9
 cases e:qb2 rs (some x) with
 | none=>rfl
 | some r =>
   obtain⟨h1,h2⟩:=wg7 e
   exact absurd (by rw[<-h.names_eq hc,<-h2];exact List.mem_map_of_mem h1) hx
theorem FlB.nofrS(h:FlB names c srt rs)(x:Option Str):L9 rs x≠some ("frame":Str):=by
 unfold L9
 cases e:qb2 rs x with
 | none=>simp
 | some r =>
   intro z
   exact h.nofr (List.mem_of_find?_eq_some e) (Option.some.inj z)
theorem yq3(ys:List Str):∀ m k,kpt ys [] k m=k+m
 | 0,k=>rfl
 | m+1,k=>by rw[kpt,if_neg (by simp),yq3 ys m];omega
theorem FlB.want(h:FlB names c srt rs)(ys:List Str)(rk:Str->Nat)(x:Str):N3 rs rk ys 13 x=(ys.length,[x]):=by
 rw[N3,ws0,h.frame]
 show qn5 rs ys x=_
 unfold qn5
 rw[if_pos (h.hosts _)]
 have:=qy6 rs ys.length ys rfl
 unfold xa7
 rw[h.shuts,yq3]
 congr 1
 omega
theorem FlB.bar(h:FlB names c srt rs)(ks:List Str)(x:Str):bar rs ks [x]=false:=by
 rw[My.bar,h.bars,My.bar]
 simp
theorem zn9(h:∀ ws,f ws=ws)(bs:List Brn):wUp rs f bs=bs:=by
 cases bs with
 | nil=>unfold wUp;split <;> rfl
 | cons c t =>
   obtain⟨l1,b,l2,e,h2⟩:=yd3 rs (bs:=c::t) (by simp)
   rw[e,wo7 h2,h]
theorem wy5{kept:Nat}(h:kept+1=st.bs.length):qa9 rs st kept i rule=st:=by
 have e1:st.bs.drop (kept+1)=[]:=List.drop_eq_nil_of_le (by omega)
 have e2:st.bs.take kept++[st.bs[kept]'(by omega)]=st.bs:=by rw[<-qo5 (List.getElem?_eq_getElem (by omega)),h,List.take_length]
 unfold qa9
 rw[e1,xu9 (by omega)]
 have e3:qb3 rs (([]:List Brn).map Brn.n)=[]:=rfl
 rw[e3,zn9 fun ws=>List.append_nil ws]
 show({bs:=st.bs.take kept++[{(st.bs[kept]'(by omega)) with ps:=(st.bs[kept]'(by omega)).ps++[]}],ms:=st.ms++[],ls:=st.ls}:Rst)=st
 rw[List.append_nil,List.append_nil]
 show({bs:=st.bs.take kept++[st.bs[kept]'(by omega)],ms:=st.ms,ls:=st.ls}:Rst)=st
 rw[e2]
theorem FlB.op(h:FlB names c srt rs)(hne:st.bs≠[])(hl:st.bs.length<=20)(hs:L9 rs (some n)≠none):opS rs rk st i g n=if L9 rs (some n)=some ("bare":Str) then lvS {st with bs:=qa8 st.bs n} else{st with bs:=qa8 st.bs n}:=by
 have hp:0<st.bs.length:=List.length_pos_iff.mpr hne
 have hnl:(L6 st).length+1=st.bs.length:=by unfold L6;rw[List.length_map,List.length_tail];omega
 unfold opS
 rw[if_neg hs,h.want,h.bar]
 show(if false=true then _ else if 20<(L6 st).length+1 then _ else _)=_
 rw[if_neg (by decide),if_neg (by omega),wy5 hnl]
 rfl
theorem yd7(hs:L9 rs (some n)=none):opS rs rk st i g n=qb7 st i g "strange":=by unfold opS;rw[if_pos hs]
theorem FlB.run(h:FlB names c srt rs)(hne:st.bs≠[])(hl:st.bs.length<=21):qx1 rs st i g t=txS (wm2 (qx0 rs i st) i g) i g t:=by
 have hp:0<st.bs.length:=List.length_pos_iff.mpr hne
 have hnl:(L6 st).length+1=st.bs.length:=by unfold L6;rw[List.length_map,List.length_tail];omega
 have hh:R6 rs st=[]:=h.hosts _
 unfold qx1
 rw[if_neg fun z=>h.nofrS _ z.1,hh,if_neg (by simp;omega)]
 rfl
end
theorem zg4{l:List Brn}(e:st.bs=l++[b]):(txS st i g t).bs=l++[{b with ps:=adP b.ps t}]:=by
 show st.bs.dropLast++[{(Y8 st.bs) with ps:=adP (Y8 st.bs).ps t}]=_
 rw[e,qs0,List.dropLast_concat]
structure yl2(n:Str):Prop where
 n1:1<=n.length
 n8:n.length<=8
 lt:∀ c∈n.cps.toList,97<=c/\c<=122
variable{R:List Nat}
theorem zw8{P:List Nat}(el:l=P++60::(n.cps.toList++62::R))(h:yl2 n):TX.tagAt l P.length=some (P.length+1,P.length+n.length+2)/\TX.tagD l P.length (P.length+1) (P.length+n.length+2)=.tuple [.str "open",.int (P.length:Int),.int ((P.length+n.length+2:Nat):Int),.str n]:=by
 have en:=qf6 n
 have h1:=h.n1
 have h8:=h.n8
 have at0:l[P.length]?=some 60:=by rw[el];simp
 have dr:l.drop (P.length+1)=n.cps.toList++62::R:=by
  rw[el,List.drop_append,List.drop_eq_nil_of_le (by omega),show P.length+1-P.length=1 by omega];rfl
 have hnm:TX.nm (l.drop (P.length+1))=some n.length:=by
  rw[TX.nm_iff,dr]
  refine⟨h1,h8,fun i hi=>?_,by rw[List.getElem?_append_right (by omega),en,Nat.sub_self];rfl⟩
  have hi2:i<n.cps.toList.length:=by omega
  refine⟨n.cps.toList[i],by rw[List.getElem?_append_left hi2,List.getElem?_eq_getElem hi2],?_⟩
  have:=h.lt _ (List.getElem_mem hi2)
  unfold TX.letter
  rw[decide_eq_true this.1,decide_eq_true this.2];rfl
 have hns:TX.nst l P.length=P.length+1:=by
  unfold TX.nst
  rw[if_neg]
  intro e
  have e2:(l.drop (P.length+1))[0]?=some 47:=by rw[List.getElem?_drop];exact e
  rw[dr,List.getElem?_append_left (by omega),List.getElem?_eq_getElem (by omega)] at e2
  have:=h.lt _ (List.getElem_mem (show 0<n.cps.toList.length by omega))
  have e3:=Option.some.inj e2
  omega
 constructor
 ·unfold TX.tagAt
  rw[if_pos at0,hns,hnm]
  show some (P.length+1,P.length+1+n.length+1)=_
  rw[show P.length+1+n.length+1=P.length+n.length+2 by omega]
 ·unfold TX.tagD
  rw[if_pos rfl,dr,show P.length+n.length+2-1-(P.length+1)=n.cps.toList.length by omega,List.take_left' rfl,yq2]
theorem zw9{P:List Nat}(el:l=P++60::47::(n.cps.toList++62::R))(h:yl2 n):TX.tagAt l P.length=some (P.length+2,P.length+n.length+3)/\TX.tagD l P.length (P.length+2) (P.length+n.length+3)=.tuple [.str "close",.int (P.length:Int),.int ((P.length+n.length+3:Nat):Int),.str n]:=by
 have en:=qf6 n
 have h1:=h.n1
 have h8:=h.n8
 have at0:l[P.length]?=some 60:=by rw[el];simp
 have at1:l[P.length+1]?=some 47:=by rw[el,List.getElem?_append_right (by omega)];simp
 have dr:l.drop (P.length+2)=n.cps.toList++62::R:=by
  rw[el,List.drop_append,List.drop_eq_nil_of_le (by omega),show P.length+2-P.length=2 by omega];rfl
 have hnm:TX.nm (l.drop (P.length+2))=some n.length:=by
  rw[TX.nm_iff,dr]
  refine⟨h1,h8,fun i hi=>?_,by rw[List.getElem?_append_right (by omega),en,Nat.sub_self];rfl⟩
  have hi2:i<n.cps.toList.length:=by omega
  refine⟨n.cps.toList[i],by rw[List.getElem?_append_left hi2,List.getElem?_eq_getElem hi2],?_⟩
  have:=h.lt _ (List.getElem_mem hi2)
  unfold TX.letter
  rw[decide_eq_true this.1,decide_eq_true this.2];rfl
 have hns:TX.nst l P.length=P.length+2:=by
  unfold TX.nst
  rw[if_pos at1]
 constructor
 ·unfold TX.tagAt
  rw[if_pos at0,hns,hnm]
  show some (P.length+2,P.length+2+n.length+1)=_
  rw[show P.length+2+n.length+1=P.length+n.length+3 by omega]
 ·unfold TX.tagD
  rw[if_neg (by omega),dr,show P.length+n.length+3-1-(P.length+2)=n.cps.toList.length by omega,List.take_left' rfl,yq2]
theorem yq4(n:Str):(opn n).length=n.length+2:=by unfold opn;rw[U8,U8];show 1+_+1=_;omega
theorem wk4(n:Str):(cls n).length=n.length+3:=by unfold cls;rw[U8,U8];show 2+_+1=_;omega
theorem xv8(n:Str):(opn n).cps.toList=60::(n.cps.toList++[62]):=by unfold opn;simp only[PySem.Str.cps_append,Array.toList_append];rfl
theorem wk5(n:Str):(cls n).cps.toList=60::47::(n.cps.toList++[62]):=by unfold cls;simp only[PySem.Str.cps_append,Array.toList_append];rfl
inductive Pq
 | op (n:Str)
 | cl (n:Str)
 | rn (r t:Str)
def Pq.tx:Pq->List Nat
 | .op n=>60::(n.cps.toList++[62])
 | .cl n=>60::47::(n.cps.toList++[62])
 | .rn r _=>r.cps.toList
def txQ(ps:List Pq):List Nat:=ps.flatMap Pq.tx
def zq6(r:Str):Prop:=∀ P R:List Nat,(R=[]\/∃ R',R=60::R')->∀ j,j<r.length->TX.tagAt (P++(r.cps.toList++R)) (P.length+j)=none
def Pq.ok:Pq->Prop
 | .op n=>yl2 n
 | .cl n=>yl2 n
 | .rn r t=>zq6 r/\1<=r.length/\t=TX.ofL (TX.told 0 r.cps.toList)
def Pq.isR:Pq->Bool
 | .rn _ _=>true
 | _=>false
def xq6:Bool->List Pq->Prop
 | _,[]=>True
 | b,x::ps=>(b=true->x.isR=false)/\xq6 x.isR ps
def stQ(rs:List Row)(rk:Str->Nat)(p:Nat)(st:Rst):Pq->Rst
 | .op n=>opS rs rk st p (opn n) n
 | .cl n=>qz1 rs rk st p (cls n) n
 | .rn r t=>qx1 rs st p r t
def pq(rs:List Row)(rk:Str->Nat):Nat->List Pq->Rst->Rst
 | _,[],st=>st
 | p,x::ps,st=>pq rs rk (p+x.tx.length) ps (stQ rs rk p st x)
theorem Pq.len:∀ x:Pq,x.tx.length=(match x with | .op n=>n.length+2 | .cl n=>n.length+3 | .rn r _=>r.length)
 | .op n=>by simp[Pq.tx,qf6];rfl
 | .cl n=>by simp[Pq.tx,qf6];rfl
 | .rn r _=>qf6 r
theorem xj0{l:List Nat}{s:Nat}:∀ (d k:Nat),k+d<=l.length->(∀ j,j<d->TX.tagAt l (k+j)=none)->TX.toks l k s=TX.toks l (k+d) s
 | 0,k,_,_=>rfl
 | d+1,k,h,hn=>by
   rw[TX.toks_none (by omega) (show TX.tagAt l k=none from hn 0 (by omega)),xj0 d (k+1) (by omega) fun j hj=>by rw[show k+1+j=k+(j+1) by omega];exact hn (j+1) (by omega)]
   congr 1;omega
theorem zg5{ps:List Pq}(h:∀ x t,ps=x::t->x.isR=false):txQ ps=[]\/∃ R',txQ ps=60::R':=by
 cases ps with
 | nil=>exact .inl rfl
 | cons x t =>
   have:=h x t rfl
   cases x with
   | op n=>exact .inr ⟨_,rfl⟩
   | cl n=>exact .inr ⟨_,rfl⟩
   | rn r u=>cases this
theorem xv9{rs:List Row}{rk:Str->Nat}{z:Str}:∀ (ps:List Pq) (Pz:List Nat) (s:Nat) (g t:Str) (st:Rst) (b:Bool),z.cps.toList=Pz++txQ ps->(∀ x∈ps,x.ok)->xq6 b ps->(s<Pz.length->b=true)->s<=Pz.length->Pz.drop s=g.cps.toList->t=TX.ofL (TX.told 0 g.cps.toList) ->
 (TX.toks z.cps.toList Pz.length s).foldl (xc7 rs rk z) st=pq rs rk Pz.length ps (if s<Pz.length then qx1 rs st s g t else st)
 | [],Pz,s,g,t,st,b,ez,_,_,_,hs,hg,ht=>by
   have ez':z.cps.toList=Pz:=by rw[ez];simp[txQ]
   have gl:=qf6 z
   rw[TX.toks_end (by rw[ez'];exact Nat.le_refl _),pq]
   unfold TX.runs
   by_cases h:s<Pz.length
   ·rw[if_pos (by rw[ez'];exact h),if_pos h]
    have e0:((z.cps.toList).drop s).take (z.cps.toList.length-s)=g.cps.toList:=by rw[List.take_of_length_le (by rw[List.length_drop];exact Nat.le_refl _),ez',hg]
    have e1:TX.runD z.cps.toList s z.cps.toList.length=.tuple [.str "run",.int (s:Int),.int (z.cps.toList.length:Int),.str t]:=by
     unfold TX.runD;rw[e0,ht]
    have e2:qh2 z (some (s:Int)) (some (z.cps.toList.length:Int))=g:=by rw[Y2,wb7 rfl rfl,e0]
    rw[e1]
    show qo7 rs rk st "run" s (qh2 z (some (s:Int)) (some (z.cps.toList.length:Int))) t=_
    rw[e2];rfl
   ·rw[if_neg (by rw[ez'];exact h),if_neg h];rfl
 | x :: ps,Pz,s,g,t,st,b,ez,hok,hap,hsb,hs,hg,ht=>by
   have gl:=qf6 z
   have ez2:z.cps.toList=(Pz++x.tx)++txQ ps:=by rw[ez];simp[txQ]
   have hzl:Pz.length+x.tx.length<=z.length:=by
    have:=congrArg List.length ez2
    rw[List.length_append,List.length_append] at this;omega
   have hx:=hok x (by simp)
   have hrest:∀ y∈ps,y.ok:=fun y hy=>hok y (by simp[hy])
   obtain⟨hap1,hap2⟩:=hap
   have hrun:∀ ds:List PyData,(TX.runs z.cps.toList s Pz.length++ds).foldl (xc7 rs rk z) st=ds.foldl (xc7 rs rk z) (if s<Pz.length then qx1 rs st s g t else st):=fun ds=>by
    unfold TX.runs
    by_cases h:s<Pz.length
    ·rw[if_pos h,if_pos h]
     have e0:((z.cps.toList).drop s).take (Pz.length-s)=g.cps.toList:=by
      rw[ez,List.drop_append,List.take_append,List.length_drop]
      rw[List.take_of_length_le (by rw[List.length_drop];exact Nat.le_refl _),show Pz.length-s-(Pz.length-s)=0 by omega,List.take_zero,List.append_nil,hg]
     have e1:TX.runD z.cps.toList s Pz.length=.tuple [.str "run",.int (s:Int),.int (Pz.length:Int),.str t]:=by
      unfold TX.runD;rw[e0,ht]
     have e2:qh2 z (some (s:Int)) (some (Pz.length:Int))=g:=by rw[Y2,wb7 rfl rfl,e0]
     rw[e1]
     show ds.foldl _ (qo7 rs rk st "run" s (qh2 z (some (s:Int)) (some (Pz.length:Int))) t)=_
     rw[e2];rfl
    ·rw[if_neg h,if_neg h];rfl
   have cutx:∀ v:Str,v.cps.toList=x.tx->qh2 z (some (Pz.length:Int)) (some ((Pz.length+x.tx.length:Nat):Int))=v:=fun v hv=>by
    rw[Y2,wb7 rfl rfl,ez2,List.append_assoc,List.drop_left' rfl,show Pz.length+x.tx.length-Pz.length=x.tx.length by omega,List.take_left' rfl,hv]
   have lenP:(Pz++x.tx).length=Pz.length+x.tx.length:=List.length_append
   cases x with
   | op n =>
     have hl:(Pq.op n).tx.length=n.length+2:=Pq.len (.op n)
     obtain⟨ht',hd⟩:=zw8 (l:=z.cps.toList) (P:=Pz) (R:=txQ ps) (n:=n) (by rw[ez];simp[txQ,Pq.tx]) hx
     rw[TX.toks_some ht',hd,hrun,List.foldl_cons]
     have ih:=xv9 (rs:=rs) (rk:=rk) (z:=z) ps (Pz++(Pq.op n).tx) (Pz++(Pq.op n).tx).length "" "" (opS rs rk (if s<Pz.length then qx1 rs st s g t else st) Pz.length (opn n) n) false ez2 hrest hap2 (fun h=>absurd h (Nat.lt_irrefl _)) (Nat.le_refl _) (by rw[List.drop_length];rfl) rfl
     rw[if_neg (Nat.lt_irrefl _),lenP,hl] at ih
     have hc:=cutx (opn n) (xv8 n)
     rw[hl] at hc
     show List.foldl _ (qo7 rs rk _ "open" Pz.length (qh2 z (some (Pz.length:Int)) (some ((Pz.length+n.length+2:Nat):Int))) n) _=_
     rw[show Pz.length+n.length+2=Pz.length+(n.length+2) by omega,hc]
     rw[pq,hl]
     exact ih
   | cl n =>
     have hl:(Pq.cl n).tx.length=n.length+3:=Pq.len (.cl n)
     obtain⟨ht',hd⟩:=zw9 (l:=z.cps.toList) (P:=Pz) (R:=txQ ps) (n:=n) (by rw[ez];simp[txQ,Pq.tx]) hx
     rw[TX.toks_some ht',hd,hrun,List.foldl_cons]
     have ih:=xv9 (rs:=rs) (rk:=rk) (z:=z) ps (Pz++(Pq.cl n).tx) (Pz++(Pq.cl n).tx).length "" "" (qz1 rs rk (if s<Pz.length then qx1 rs st s g t else st) Pz.length (cls n) n) false ez2 hrest hap2 (fun h=>absurd h (Nat.lt_irrefl _)) (Nat.le_refl _) (by rw[List.drop_length];rfl) rfl
     rw[if_neg (Nat.lt_irrefl _),lenP,hl] at ih
     have hc:=cutx (cls n) (wk5 n)
     rw[hl] at hc
     show List.foldl _ (qo7 rs rk _ "close" Pz.length (qh2 z (some (Pz.length:Int)) (some ((Pz.length+n.length+3:Nat):Int))) n) _=_
     rw[show Pz.length+n.length+3=Pz.length+(n.length+3) by omega,hc]
     rw[pq,hl]
     exact ih
   | rn r u =>
     have hl:(Pq.rn r u).tx.length=r.length:=qf6 r
     obtain⟨hq,hr1,hu⟩:=hx
     have hns:¬s<Pz.length:=fun h=>by have:=hap1 (hsb h);cases this
     have es:s=Pz.length:=by omega
     have hsk:TX.toks z.cps.toList Pz.length s=TX.toks z.cps.toList (Pz.length+r.length) s:=by
      refine xj0 r.length _ (by omega) fun j hj=>?_
      have:=hq Pz (txQ ps) (zg5 fun x t e=>by
       subst e
       exact hap2.1 rfl) j hj
      have e:Pz++(r.cps.toList++txQ ps)=z.cps.toList:=by rw[ez];simp[txQ,Pq.tx]
      rw[e] at this
      exact this
     have hgw:(Pz++(Pq.rn r u).tx).drop s=r.cps.toList:=by
      rw[es,List.drop_left' rfl];rfl
     have ih:=xv9 (rs:=rs) (rk:=rk) (z:=z) ps (Pz++(Pq.rn r u).tx) s r u st true ez2 hrest hap2 (fun _=>rfl) (by rw[lenP];omega) hgw hu
     rw[if_pos (by rw[lenP,hl];omega),lenP,hl] at ih
     rw[hsk,ih,pq,hl,if_neg hns,es]
     rfl
theorem zo0{ps:List Pq}(ez:z.cps.toList=txQ ps)(hok:∀ x∈ps,x.ok)(hap:xq6 false ps):xa9 rs rk z=pq rs rk 0 ps st0:=by
 have:=xv9 (rs:=rs) (rk:=rk) (z:=z) ps [] 0 "" "" st0 false ez hok hap (fun h=>by simp at h) (Nat.le_refl _) rfl rfl
 rw[if_neg (show ¬0<([]:List Nat).length by simp)] at this
 exact this
theorem yq5{rs:List Row}{rk:Str->Nat}(x:Pq):∀ (ps:List Pq) (p:Nat) (st:Rst),pq rs rk p (ps++[x]) st=stQ rs rk (p+(txQ ps).length) (pq rs rk p ps st) x
 | [],p,st=>by simp[pq,txQ]
 | y::ps,p,st=>by
   rw[List.cons_append,pq,pq,yq5 x ps]
   congr 1
   simp[txQ];omega
theorem zg6(ps:List Pq)(x:Pq):txQ (ps++[x])=txQ ps++x.tx:=by unfold txQ;rw[List.flatMap_append];simp
theorem xj1{x:Pq}:∀ {ps:List Pq} {b:Bool},xq6 b ps->((ps.getLast?.map Pq.isR).getD b=true->x.isR=false)->xq6 b (ps++[x])
 | [],b,_,h=>⟨h,trivial⟩
 | y :: ps,b,⟨h1,h2⟩,h=>by
   refine⟨h1,xj1 h2 fun e=>h ?_⟩
   cases ps with
   | nil=>exact e
   | cons w t =>
     have:(y::w::t).getLast?=(w::t).getLast?:=by simp
     rw[this]
     cases hg:(w::t).getLast? with
     | none=>simp at hg
     | some q=>rw[hg] at e;exact e
theorem Bg.stQ{D:Nat}{p:Nat}(b:Bok rs rk)(h:Bg rs P W M D T st):∀ x:Pq,Bg rs (P+2) (W+20) (M+60+x.tx.length) (D+1) (T+(match x with | .rn _ t=>t.length|_=>0)) (stQ rs rk p st x)
 | .op n=>(h.op b).mono (by omega) (by omega) (by omega) (by omega) (by omega)
 | .cl n=>h.clo.mono (by omega) (by omega) (by omega) (by omega) (by omega)
 | .rn r t=>by have:=h.run (i:=p) (g:=r) (t:=t) b;rw[Pq.len];exact this
theorem xw0{m:Mnd}(h:H p=some (.tup [.int m.s,.int m.e,.str m.t,.str m.r])):Dv K H m.da (.ref p):=C7.mpr ⟨p,_,rfl,SqT.of h,B4 (O1.mpr rfl) (B4 (O1.mpr rfl) (B4 (E6.mpr rfl) (B4 (E6.mpr rfl) J7)))⟩
def Ac5(w:List Tr):Tr->List Tr
 | .tx t=>adP w t
 | .nd n qs=>w++[.nd n qs]
theorem zo1{n:Nat}:ixN (n+1) (-1)=some n:=by
 unfold ixN
 rw[if_neg (by decide),if_pos (by omega)]
 congr 1;omega
theorem xd9{x:Addr}(hx:H x=some (.lst us))(hl:us.length<=1000000)(q:D.nx [some (.ref x),some v] (upd H x (.lst (us++[v])))):(L7 (tBM K "list" N2 (A3 0) (A2 (A3 1) B0))) D [some (.ref x),some v] H:=by
 lk
 refine⟨.inl ⟨rfl,_,SqL.of hx⟩,?_⟩
 lk
 exact N5 hx (by rw[sizeLine_eq];omega) q
abbrev wt2(K:Fg):TS :=
 (E9 (tOp (J0 K) (tOp (M7 K) (A3 0) (tUn (rU fun i=>.int (-i)) (tC (.int 1)))) (A3 1)) (yx2 (A3 0) (tUn (rU fun i=>.int (-i)) (tC (.int 1))) yo0))
def Z7(K:Fg):Sp:=fun vs H Q _=>∃ (x:Addr) (w:List Tr) (us:List V) (t:Tr) (v:V),vs=[.ref x,v]/\H x=some (.lst us)/\Dvs K H (Tr.das w) us/\Dv K H t.da v/\w.length<=1000000/\adA w<=1000000/\(∀ u,t=.tx u->u.length<=1000000)/\∀ (us':List V) (H1:Hp),A7 H H1->Dvs K H1 (Tr.das (Ac5 w t)) us'->Q .non (upd H1 x (.lst us'))
def wc4(K:Fg):TS :=
 (T2 (xb4 (tB (tCB (yi1 K) (A2 (A3 1) (A2 (tC (.ty "str")) B0)))) (xb4 (L0 (tOp (xs3 K) (A3 0) (qd5 B0))) (tB (tCB (yi1 K) (A2 (tOp (M7 K) (A3 0) (tUn (rU fun i=>.int (-i)) (tC (.int 1)))) (A2 (tC (.ty "str")) B0))))))
 (wt2 K) (L7 (tBM K "list" N2 (A3 0) (A2 (A3 1) B0))))
theorem yd8(h:Z7 K vs H Q E):wc4 K {nx:=fun _ H'=>Q .non H',rt:=Q} (E8 ["_law_heap","_law_thing"] vs) H:=by
 obtain⟨x,w,us,t,v,rfl,hx,hd,hv,hl,ha,htl,q⟩:=h
 show wc4 K _ [some (.ref x),some v] H
 unfold wc4
 have hul:=wj2 hd
 lk
 refine yj3 hv ?_
 lk
 cases t with
 | nd n qs =>
   k_go
   first
   | exact xd9 hx (by omega) (q _ H (A7.refl H) (wh3 hd hv))
   | (refine Z2 ?_;exact xd9 hx (by omega) (q _ H (A7.refl H) (wh3 hd hv)))
 | tx u =>
   obtain rfl:v=.str u:=E6.mp hv
   have hu:=htl u rfl
   x_go
   lk
   refine⟨E1 (by z_go),fun e0 he0=>?_⟩
   have s1:=A7.new he0 (.lst [])
   have hx1:=s1 _ _ hx
   have hd1:=Dvs.same s1 _ _ hd
   lk
   refine Ab8 (ds:=Tr.das w) (qu1.mpr ⟨x,us,rfl,SqL.of hx1,hd1⟩) A6 ?_
   generalize upd H e0 (.lst [])=H1 at *
   lk
   rcases List.eq_nil_or_concat w with hps|⟨P0,t0,hps⟩
   ·have eis:(Tr.das w).isEmpty=true:=by rw[hps,Tr.das];rfl
    have ea:adP w u=w++[.tx u]:=by rw[hps];rfl
    rw[eis]
    have fin:=xd9 (K:=K) (D:={nx:=fun _ H'=>Q .non H',rt:=Q}) (v:=.str u) hx1 (by omega) (q _ H1 s1 (by show Dvs K H1 (Tr.das (adP w u)) _;rw[ea];exact wh3 hd1 (E6.mpr rfl)))
    k_go
    first|exact fin|(refine Z2 ?_;exact fin)|(refine Z2 ?_;refine Z2 ?_;exact fin)
   ·rw [List.concat_eq_append] at hps
    have eis:(Tr.das w).isEmpty=false:=by
     rw[hps,Y0,List.map_append];simp
    have hgl:w.getLast?=some t0:=by rw[hps,List.getLast?_concat]
    rw[eis]
    x_go
    lk
    refine⟨1,rfl,?_⟩
    obtain⟨ut,eu,du⟩:=yo8 hd1 (i:=P0.length) (t:=t0) (by rw[hps];simp)
    have hul2:us.length=P0.length+1:=by rw[hul,hps];simp
    refine O0 (SqL.of hx1) (v:=ut) (ql8 (n:=P0.length) hul2 eu) ?_
    lk
    refine yj3 du ?_
    lk
    cases t0 with
    | nd nn pp =>
      have ea:adP w u=w++[.tx u]:=by unfold adP;rw[hgl]
      have fin:=xd9 (K:=K) (D:={nx:=fun _ H'=>Q .non H',rt:=Q}) (v:=.str u) hx1 (by omega) (q _ H1 s1 (by show Dvs K H1 (Tr.das (adP w u)) _;rw[ea];exact wh3 hd1 (E6.mpr rfl)))
      k_go
      first|exact fin|(refine Z2 ?_;exact fin)|(refine Z2 ?_;refine Z2 ?_;exact fin)
    | tx u0 =>
      x_go
      show wt2 K _ _ _
      have hut:ut=.str u0:=E6.mp du
      subst hut
      obtain⟨us1,eus⟩:∃ us1,us=us1++[.str u0]:=by
       refine⟨us.take P0.length,?_⟩
       have:=qo5 eu
       rw[<-this,List.take_of_length_le (by omega)]
      have hu0:u0.length<=1000000:=by
       have:adA w=u0.length:=by unfold adA;rw[hgl]
       omega
      lk
      refine⟨1,rfl,?_⟩
      refine O0 (SqL.of hx1) (v:=.str u0) (ql8 (n:=P0.length) hul2 eu) ?_
      lk
      refine U2 (i:=u0) (j:=u) (by rw[sizeLine_eq];omega) ?_
      lk
      refine⟨1,rfl,?_⟩
      refine .inl (yi0 (j:=P0.length) hx1 (by rw[hul2];exact zo1) ?_)
      have hl1:us1.length=P0.length:=by rw[eus] at hul2;simp at hul2;exact hul2
      have eset:us.set P0.length (.str (u0++u))=us1++[.str (u0++u)]:=by rw[eus,<-hl1];simp
      rw[eset]
      refine q _ H1 s1 ?_
      show Dvs K H1 (Tr.das (adP w u)) _
      have ea:adP w u=P0++[.tx (u0++u)]:=by unfold adP;rw[hgl,hps,List.dropLast_concat]
      rw[ea]
      have dP:Dvs K H1 (Tr.das P0) us1:=by
       rw[hps,eus,Y0,List.map_append,<-Y0] at hd1
       exact xi6 hd1
      exact wh3 dP (E6.mpr rfl)
theorem zx0{s:List Nat}(hR:R=[]\/∃ R',R=60::R')(h:TX.nm s=none):TX.nm (s++R)=none:=by
 have e0:R.takeWhile TX.letter=[]:=by
  rcases hR with rfl|⟨R',rfl⟩
  ·rfl
  ·rw[List.takeWhile_cons,show TX.letter 60=false by decide];rfl
 have e1:(s++R).takeWhile TX.letter=s.takeWhile TX.letter:=by
  rw[List.takeWhile_append,e0,List.append_nil]
  split
  ·rename_i h
   have:=List.takeWhile_prefix (p:=TX.letter) (l:=s)
   exact(this.eq_of_length h).symm
  ·rfl
 unfold TX.nm at h ⊢
 rw[e1,if_neg]
 rintro⟨h1,h2,h3⟩
 have hle:(s.takeWhile TX.letter).length<=s.length:=(List.takeWhile_prefix (p:=TX.letter) (l:=s)).length_le
 rcases Nat.lt_or_ge (s.takeWhile TX.letter).length s.length with hl|hl
 ·rw[List.getElem?_append_left hl] at h3
  rw[if_pos ⟨h1,h2,h3⟩] at h;cases h
 ·rw[List.getElem?_append_right hl,show(s.takeWhile TX.letter).length-s.length=0 by omega] at h3
  rcases hR with rfl|⟨R',rfl⟩
  ·cases h3
  ·simp at h3
theorem zg7{r:Str}(h:∀ j,j<r.length->TX.tagAt r.cps.toList j=none):zq6 r:=fun P R hR j hj=>by
 have hl:=qf6 r
 obtain⟨l,el⟩:∃ l,l=r.cps.toList:=⟨_,rfl⟩
 have h1:=h j hj
 rw[<-el] at h1 hl ⊢
 have hj:j<l.length:=by omega
 have e1:(P++(l++R))[P.length+j]?=l[j]?:=by rw[List.getElem?_append_right (by omega),show P.length+j-P.length=j by omega,List.getElem?_append_left hj]
 unfold TX.tagAt at h1 ⊢
 rw[e1]
 by_cases h6:l[j]?=some 60
 ·rw [if_pos h6] at h1 ⊢
  have hn:TX.nst (P++(l++R)) (P.length+j)=P.length+TX.nst l j/\TX.nst l j<=l.length:=by
   unfold TX.nst
   have e2:(P++(l++R))[P.length+j+1]?=(l++R)[j+1]?:=by rw[List.getElem?_append_right (by omega),show P.length+j+1-P.length=j+1 by omega]
   rw[e2]
   rcases Nat.lt_or_ge (j+1) l.length with hl2|hl2
   ·rw[List.getElem?_append_left hl2]
    split <;> exact⟨by omega,by omega⟩
   ·rw[List.getElem?_append_right hl2,show j+1-l.length=0 by omega,List.getElem?_eq_none_iff.mpr hl2]
    have:R[0]?≠some 47:=by
     rcases hR with rfl|⟨R',rfl⟩
     ·simp
     ·simp
    rw[if_neg this,if_neg (by simp)]
    exact⟨by omega,by omega⟩
  rw[hn.1]
  have e3:(P++(l++R)).drop (P.length+TX.nst l j)=l.drop (TX.nst l j)++R:=by
   rw[<-List.drop_drop,List.drop_left,List.drop_append_of_le_length hn.2]
  rw[e3]
  have h2:TX.nm (l.drop (TX.nst l j))=none:=Option.map_eq_none_iff.mp h1
  rw[zx0 hR h2];rfl
 ·rw[if_neg h6]
def yl3:List (Str×Str×List Nat):=[("a","a",[]),("x < y","x < y",[2]),("&l;&a;","<&",[]),("&","&",[0]),("<<b","<<b",[0,1]),("&amp;","&amp;",[0]),(" \n"," \n",[]),("</ a>","</ a>",[0]),("<Aa>","<Aa>",[0]),("q;","q;",[]),("&l","&l",[0]),("&&a;","&&",[0])]
theorem zo2:yl3.all (fun x=>(List.range x.1.length).all (fun j=>decide (TX.tagAt x.1.cps.toList j=none)) && decide (1<=x.1.length) && decide (x.1.length<=11) && decide (x.2.1.length<=11) && decide (x.2.1=TX.ofL (TX.told 0 x.1.cps.toList)) && decide (qd9 x.1.cps.toList x.1.cps.toList.length=x.2.2) && x.2.2.all fun k=>decide (k<x.1.length) && (decide (x.1.cps.toList[k]?=some 60) || decide (x.1.cps.toList[k]?=some 38)))=true:=by decide +kernel
structure zq7(r t:Str)(ks:List Nat):Prop where
 ok:(Pq.rn r t).ok
 rl:r.length<=11
 tl:t.length<=11
 l:qd9 r.cps.toList r.cps.toList.length=ks
 k:∀ k∈ks,k<r.length/\(r.cps.toList[k]?=some 60\/r.cps.toList[k]?=some 38)
variable{ks:List Nat}
theorem zg8{r:Str}(h:(r,t,ks)∈yl3):zq7 r t ks:=by
 have:=List.all_eq_true.mp zo2 _ h
 simp only[Bool.and_eq_true,decide_eq_true_eq,List.all_eq_true,List.mem_range,Bool.or_eq_true] at this
 obtain⟨⟨⟨⟨⟨⟨h1,h2⟩,h3⟩,h4⟩,h5⟩,h6⟩,h7⟩:=this
 exact⟨⟨zg7 h1,h2,h5⟩,h3,h4,h6,h7⟩
def yl4(k:Nat):Str:=if k=1 then "bare" else "plain"
def lvl(nm:List Str)(i:Nat):Str:=gd nm (i % 2*2)
structure S1(nm:List Str)(hs:List (List Tr))(st:Rst):Prop where
 ne:st.bs≠[]
 p:st.bs.map Brn.ps=hs
 n:L6 st=(List.range (hs.length-1)).map (lvl nm)
 w:∀ b∈st.bs,b.ws=[]
variable{ws:List (List Tr)}
section
variable{nm:List Str}{rs:List Row}{rk:Str->Nat}{hs:List (List Tr)}{st:Rst}{i:Int}{g:Str}
theorem S1.len(s:S1 nm hs st):st.bs.length=hs.length/\1<=hs.length:=by
 have h1:st.bs.length=hs.length:=by rw[<-s.p,List.length_map]
 have h2:=List.length_pos_iff.mpr s.ne
 exact⟨h1,by omega⟩
theorem S1.lw(s:S1 nm hs st):lwS rs st.bs=[]:=by
 unfold lwS
 split
 ·rename_i b hb
  exact s.w b (List.mem_reverse.mp (List.mem_of_find?_eq_some hb))
 ·cases hb:st.bs with
  | nil=>exact absurd hb s.ne
  | cons b t=>exact s.w b (by rw[hb];simp)
theorem S1.drop(s:S1 nm hs st){r:Str}:S1 nm hs (qb7 st i g r):=⟨s.ne,s.p,s.n,s.w⟩
theorem S1.anew(s:S1 nm hs st):qx0 rs i st=st:=by
 unfold qx0
 rw[s.lw]
 show{st with bs:=wUp rs (fun _=>[]) st.bs}=st
 have:wUp rs (fun _=>[]) st.bs=st.bs:=by
  obtain⟨l1,b,l2,e,h⟩:=yd3 rs s.ne
  rw[e,wo7 h]
  have:=s.w b (by rw[e];simp)
  cases b;simp at this;subst this;rfl
 rw[this]
variable(F:FlB nm 3 yl4 rs)(hN:Nms nm)(h3:3<=nm.length)
include F hN h3
theorem yd9(j:Nat):L9 rs (some (lvl nm j))=some ("plain":Str):=by
 unfold lvl
 rw[F.sort hN h3 (by omega)]
 have:j % 2*2≠1:=by omega
 unfold yl4
 rw[if_neg this]
theorem Ac6(s:S1 nm hs st)(hl:hs.length<=20):S1 nm (hs++[[]]) (opS rs rk st i g (lvl nm (hs.length-1)))/\(opS rs rk st i g (lvl nm (hs.length-1))).ms=st.ms:=by
 obtain⟨l1,l2⟩:=s.len
 rw[F.op s.ne (by omega) (by rw[yd9 F hN h3];simp),yd9 F hN h3,if_neg (by decide)]
 refine⟨⟨by simp[qa8],?_,?_,fun b hb=>?_⟩,rfl⟩
 ·show(qa8 _ _).map Brn.ps=_
  unfold qa8
  rw[List.map_append,s.p];rfl
 ·show(qa8 _ _).tail.map Brn.n=_
  unfold qa8
  rw[List.tail_append_of_ne_nil s.ne,List.map_append]
  have:=s.n
  unfold L6 at this
  rw[this,List.length_append,List.length_singleton,show hs.length+1-1=(hs.length-1)+1 by omega,List.range_succ,List.map_append];rfl
 ·have hb:b∈st.bs++[xi4 (Y8 st.bs) (lvl nm (hs.length-1))]:=hb
  rcases List.mem_append.mp hb with h|h
  ·exact s.w b h
  ·rw[List.mem_singleton.mp h];rfl
theorem zo3(s:S1 nm (ws++[w]) st)(hl:(ws++[w]).length<=20):S1 nm (ws++[w++[Tr.nd (gd nm 1) []]]) (opS rs rk st i g (gd nm 1))/\(opS rs rk st i g (gd nm 1)).ms=st.ms:=by
 obtain⟨l1,l2⟩:=s.len
 have e1:L9 rs (some (gd nm 1))=some ("bare":Str):=F.sort hN h3 (by omega)
 rw[F.op s.ne (by omega) (by rw[e1];simp),e1,if_pos rfl]
 rcases List.eq_nil_or_concat st.bs with e|⟨l,b,e⟩
 ·exact absurd e s.ne
 rw[List.concat_eq_append] at e
 have e2:lvB (qa8 st.bs (gd nm 1))=l++[{b with ps:=b.ps++[Tr.nd (gd nm 1) []]}]:=by
  unfold qa8
  rw[e,List.append_assoc]
  exact wx9 l b _
 have hp:=s.p
 have hn:=s.n
 unfold L6 at hn
 rw[e,List.map_append] at hp
 obtain⟨hp1,hp2⟩:=List.append_inj' hp rfl
 have hp2:b.ps=w:=by simpa using hp2
 refine⟨⟨?_,?_,?_,fun c hc=>?_⟩,rfl⟩
 ·show lvB (qa8 st.bs _)≠[]
  rw[e2];simp
 ·show(lvB (qa8 st.bs _)).map Brn.ps=_
  rw[e2,List.map_append,hp1,<-hp2];rfl
 ·show(lvB (qa8 st.bs _)).tail.map Brn.n=_
  rw[e2]
  have:(ws++[w++[Tr.nd (gd nm 1) []]]).length=(ws++[w]).length:=by simp
  rw[this,<-hn,e,List.map_tail,List.map_tail,List.map_append,List.map_append];rfl
 ·have hc:c∈lvB (qa8 st.bs (gd nm 1)):=hc
  rw[e2] at hc
  rcases List.mem_append.mp hc with h|h
  ·exact s.w c (by rw[e];simp[h])
  ·rw[List.mem_singleton.mp h]
   exact s.w b (by rw[e];simp)
theorem zg9{u:List Tr}(s:S1 nm (ws++[u,w]) st):S1 nm (ws++[u++[Tr.nd (lvl nm ws.length) w]]) (qz1 rs rk st i g (lvl nm ws.length))/\(qz1 rs rk st i g (lvl nm ws.length)).ms=st.ms:=by
 obtain⟨l1,l2⟩:=s.len
 have hll:(ws++[u,w]).length=ws.length+2:=by simp
 have hn:=s.n
 rw[hll,show ws.length+2-1=ws.length+1 by omega,List.range_succ,List.map_append] at hn
 have hnl:(L6 st).length=ws.length+1:=by rw[hn];simp
 have e0:clo rs rk (L6 st) (lvl nm ws.length) (L6 st).length=some ws.length:=by
  rw[hnl]
  unfold clo
  rw[if_pos]
  unfold gd
  rw[hn]
  simp
 have e1:qz1 rs rk st i g (lvl nm ws.length)=lvS st:=by
  unfold qz1
  rw[e0]
  show lvS (qa9 rs st (ws.length+1) i "left")=_
  rw[wy5 (by omega)]
 rw[e1]
 obtain⟨l,b1,b2,e⟩:=xv0 (bs:=st.bs) (by omega)
 have e2:lvB st.bs=l++[{b1 with ps:=b1.ps++[Tr.nd b2.n b2.ps]}]:=by rw[e];exact wx9 l b1 b2
 have hp:=s.p
 rw[e,List.map_append] at hp
 obtain⟨hp1,hp2⟩:=List.append_inj' hp rfl
 have hp2:b1.ps=u/\b2.ps=w:=by simpa using hp2
 have hnn:(l++[b1]).tail.map Brn.n=(List.range ws.length).map (lvl nm)/\b2.n=lvl nm ws.length:=by
  have h5:st.bs.tail.map Brn.n=(l++[b1]).tail.map Brn.n++[b2.n]:=by
   rw[e,show l++[b1,b2]=(l++[b1])++[b2] by simp,List.tail_append_of_ne_nil (by simp),List.map_append];rfl
  unfold L6 at hn
  rw[h5] at hn
  obtain⟨h6,h7⟩:=List.append_inj' hn rfl
  exact⟨h6,by simpa using h7⟩
 refine⟨⟨?_,?_,?_,fun c hc=>?_⟩,rfl⟩
 ·show lvB st.bs≠[]
  rw[e2];simp
 ·show(lvB st.bs).map Brn.ps=_
  rw[e2,List.map_append,hp1,<-hp2.1,<-hp2.2,hnn.2];rfl
 ·show(lvB st.bs).tail.map Brn.n=_
  have:(ws++[u++[Tr.nd (lvl nm ws.length) w]]).length-1=ws.length:=by simp
  rw[e2,this,<-hnn.1,List.map_tail,List.map_tail,List.map_append,List.map_append];rfl
 ·have hc:c∈lvB st.bs:=hc
  rw[e2] at hc
  rcases List.mem_append.mp hc with h|h
  ·exact s.w c (by rw[e];simp[h])
  ·rw[List.mem_singleton.mp h]
   exact s.w b1 (by rw[e];simp)
omit F hN h3 in
theorem ye0{ys:List Str}{x:Str}(h:x∉ys):∀ m,m<=ys.length->clo rs rk ys x m=none
 | 0,_=>rfl
 | m+1,hm=>by
   unfold clo
   rw[if_neg fun e=>h (by rw[<-e];exact W6 (by omega))]
   split
   ·rfl
   ·exact ye0 h m (by omega)
omit F hN h3 in
theorem xj2(s:S1 nm hs st)(hx:x∉L6 st):qz1 rs rk st i g x=qb7 st i g "stray":=by
 unfold qz1
 rw[ye0 hx _ (Nat.le_refl _),s.lw]
 show(if x∈[] then _ else _)=_
 rw[if_neg (by simp)]
theorem zx1(s:S1 nm (ws++[w]) st)(hl:(ws++[w]).length<=20):S1 nm (ws++[adP w t]) (qx1 rs st i g t)/\(qx1 rs st i g t).ms=st.ms++(qd9 g.cps.toList g.cps.toList.length).map (wx8 i g):=by
 obtain⟨l1,l2⟩:=s.len
 rw[F.run s.ne (by omega),s.anew]
 rcases List.eq_nil_or_concat st.bs with e|⟨l,b,e⟩
 ·exact absurd e s.ne
 rw[List.concat_eq_append] at e
 have e2:(txS (wm2 st i g) i g t).bs=l++[{b with ps:=adP b.ps t}]:=zg4 (st:=wm2 st i g) e
 have hp:=s.p
 have hn:=s.n
 unfold L6 at hn
 rw[e,List.map_append] at hp
 obtain⟨hp1,hp2⟩:=List.append_inj' hp rfl
 have hp2:b.ps=w:=by simpa using hp2
 refine⟨⟨by rw[e2];simp,?_,?_,fun c hc=>?_⟩,rfl⟩
 ·rw[e2,List.map_append,hp1,<-hp2];rfl
 ·unfold L6
  rw[e2]
  have:(ws++[adP w t]).length=(ws++[w]).length:=by simp
  rw[this,<-hn,e,List.map_tail,List.map_tail,List.map_append,List.map_append];rfl
 ·rw[e2] at hc
  rcases List.mem_append.mp hc with h|h
  ·exact s.w c (by rw[e];simp[h])
  ·rw[List.mem_singleton.mp h]
   exact s.w b (by rw[e];simp)
omit F hN h3 in
theorem zx2(s:S1 nm [w] st){k:Int}:qa9 rs st 0 k "end"=st/\rtS st=w:=by
 obtain⟨l1,l2⟩:=s.len
 refine⟨wy5 (by rw[l1];rfl),?_⟩
 have hp:=s.p
 unfold rtS
 cases hb:st.bs with
 | nil=>exact absurd hb s.ne
 | cons b t=>rw[hb] at hp;simp at hp;exact hp.1
end
structure A1(K:Fg)(H0 H:Hp)(L M:Addr)(as:List Addr)(hosts:List (List Tr))(ms:List Mnd):Prop where
 s:A7 H0 H
 h:Hps K H L as hosts
 m:∃ us,H M=some (.lst us)/\Dvs K H (ms.map Mnd.da) us
 nm:M∉L::as
 nw:∀ z∈M::L::as,H0 z=none
section
variable{H0 H':Hp}{L M:Addr}{as:List Addr}{hosts:List (List Tr)}{ms:List Mnd}
theorem A1.same(a:A1 K H0 H L M as hosts ms)(s:A7 H H'):A1 K H0 H' L M as hosts ms:=by
 obtain⟨us,m1,m2⟩:=a.m
 exact⟨A7.tr a.s s,a.h.same s,⟨us,s _ _ m1,Dvs.same s _ _ m2⟩,a.nm,a.nw⟩
theorem A1.mend{m:Mnd}(a:A1 K H0 H L M as hosts ms)(hm:H M=some (.lst us))(hd:Dvs K H (ms.map Mnd.da) us)(hp:Dv K H m.da (.ref p)):A1 K H0 (upd H M (.lst (us++[.ref p]))) L M as hosts (ms++[m]):=by
 have tk:T5 H (upd H M (.lst (us++[.ref p]))):=N7 (.inl ⟨_,hm⟩)
 refine⟨A7.put a.s (a.nw M (by simp)) _,a.h.upd (.inl (.inl ⟨_,hm⟩)) a.nm,⟨_,A6,?_⟩,a.nm,a.nw⟩
 refine Dvs.tupK tk _ _ (Q9 Mnd.fix _) ?_
 rw[List.map_append]
 exact Dvs.append hd (Dvs.one hp)
theorem A1.mlen(hd:Dvs K H (ms.map Mnd.da) us):us.length=ms.length:=by have:=hd.length;rw[List.length_map] at this;exact this
theorem A1.push(a:A1 K H0 H L M as hosts ms)(hp:H p=none):A1 K H0 (upd (upd H p (.lst [])) L (.lst (as.map V.ref++[.ref p]))) L M (as++[p]) (hosts++[[]]) ms:=by
 obtain⟨us,m1,m2⟩:=a.m
 have s1:=A7.new hp (.lst [])
 have nML:M≠L:=fun e=>a.nm (by rw[e];simp)
 have tk:T5 (upd H p (.lst [])) (upd (upd H p (.lst [])) L (.lst (as.map V.ref++[.ref p]))):=N7 (.inl ⟨_,s1 _ _ a.h.l⟩)
 have hp0:=A7.grow a.s _ hp
 refine⟨A7.put (A7.tr a.s s1) (a.nw L (by simp)) _,a.h.push hp (by rw[Tr.das];exact J7),⟨us,J5 (s1 _ _ m1) nML,Dvs.tupK tk _ _ (Q9 Mnd.fix _) (Dvs.same s1 _ _ m2)⟩,fun z=>?_,fun z hz=>?_⟩
 ·rcases List.mem_cons.mp z with h|h
  ·exact nML h
  ·rcases List.mem_append.mp h with h|h
   ·exact a.nm (by simp[h])
   ·exact Y4 hp m1 (List.mem_singleton.mp h)
 ·simp only[List.mem_cons,List.mem_append,List.not_mem_nil,or_false] at hz
  rcases hz with h|h|h|h
  ·exact a.nw z (by simp[h])
  ·exact a.nw z (by simp[h])
  ·exact a.nw z (by simp[h])
  ·rw[h];exact hp0
theorem A1.lie{t:Tr}(a:A1 K H0 H L M as (ws++[w]) ms)(hv:Dv K H t.da v)(hl:w.length<=1000000)(ha:adA w<=1000000)(ht:∀ u,t=.tx u->u.length<=1000000):∃ as' x,as=as'++[x]/\H L=some (.lst (as'.map V.ref++[.ref x]))/\((∀ H',A1 K H0 H' L M as (ws++[Ac5 w t]) ms->Q .non H')->Z7 K [.ref x,v] H Q E):=by
 obtain⟨as',x,us,rfl,hx,hd,hL,_⟩:=a.h.top
 obtain⟨ums,m1,m2⟩:=a.m
 refine⟨as',x,rfl,hL,fun q=>⟨x,w,us,t,v,rfl,hx,hd,hv,hl,ha,ht,fun us' H1 s1 hd1=>q _ ?_⟩⟩
 have h1:=a.h.same s1
 have nMx:M≠x:=fun e=>a.nm (by rw[e];simp)
 have tk:T5 H1 (upd H1 x (.lst us')):=N7 (.inl ⟨_,s1 _ _ hx⟩)
 exact⟨A7.put (A7.tr a.s s1) (a.nw x (by simp)) _,h1.put hd1,⟨ums,J5 (s1 _ _ m1) nMx,Dvs.tupK tk _ _ (Q9 Mnd.fix _) (Dvs.same s1 _ _ m2)⟩,a.nm,a.nw⟩
end
section
variable{H0 H':Hp}{L M:Addr}{as:List Addr}{ws:List (List Tr)}{w:List Tr}{ms:List Mnd}
theorem A1.pop(a:A1 K H0 H L M as (ws++[w]) ms):∃ as' x us,as=as'++[x]/\H L=some (.lst (as'.map V.ref++[.ref x]))/\A1 K H0 (upd H L (.lst (as'.map V.ref))) L M as' ws ms/\(upd H L (.lst (as'.map V.ref))) x=some (.lst us)/\Dvs K (upd H L (.lst (as'.map V.ref))) (Tr.das w) us:=by
 obtain⟨us0,m1,m2⟩:=a.m
 obtain⟨as',x,us,rfl,hL,hh,hx,hd⟩:=a.h.pop
 have nML:M≠L:=fun e=>a.nm (by rw[e];simp)
 have tk:T5 H (upd H L (.lst (as'.map V.ref))):=N7 (.inl ⟨_,hL⟩)
 refine⟨as',x,us,rfl,hL,⟨A7.put a.s (a.nw L (by simp)) _,hh,⟨us0,J5 m1 nML,Dvs.tupK tk _ _ (Q9 Mnd.fix _) m2⟩,fun z=>a.nm ?_,fun z hz=>a.nw z ?_⟩,hx,hd⟩
 ·simp only[List.mem_cons,List.mem_append] at z ⊢
  rcases z with h|h
  ·exact .inl h
  ·exact .inr (.inl h)
 ·simp only[List.mem_cons,List.mem_append] at hz ⊢
  rcases hz with h|h|h
  ·exact .inl h
  ·exact .inr (.inl h)
  ·exact .inr (.inr (.inl h))
theorem A1.hlen(a:A1 K H0 H L M as ws ms):as.length=ws.length:=a.h.b.len
def zo4(r t:Str)(ks:List Nat):PyData:=.tuple [.str r,.str t,.tuple (ks.map fun k:Nat=>.int (k:Int))]
theorem zh0(ks:List Nat):Dvs K H (ks.map fun k:Nat=>PyData.int (k:Int)) (ks.map fun k:Nat=>V.int (k:Int)):=by
 induction ks with
 | nil=>exact J7
 | cons k ks ih=>exact B4 (O1.mpr rfl) ih
theorem ye1:∀ {ks:List Nat} {us:List V},Dvs K H (ks.map fun k:Nat=>PyData.int (k:Int)) us->us=ks.map fun k:Nat=>V.int (k:Int)
 | [],us,h=>by
   have:=h.length
   exact List.eq_nil_of_length_eq_zero this
 | k :: ks,us,h=>by
   cases us with
   | nil=>have:=h.length;simp at this
   | cons u us =>
     obtain⟨h1,h2⟩:=qo9.mp h
     rw[O1.mp h1,ye1 h2];rfl
theorem X3{l:Addr}{r:Str}(D:Dvs K H ds vs)(h1:H l=none)(h2:(upd H l (.tup us)) p=none)(e:us=ks.map fun k:Nat=>V.int (k:Int)):A7 H (upd (upd H l (.tup us)) p (.tup [.str r,.str t,.ref l]))/\Dvs K (upd (upd H l (.tup us)) p (.tup [.str r,.str t,.ref l])) (ds++[zo4 r t ks]) (vs++[.ref p]):=by
 have s1:=A7.new h1 (.tup us)
 have s2:=A7.new h2 (.tup [.str r,.str t,.ref l])
 refine⟨A7.tr s1 s2,Dvs.append (Dvs.same (A7.tr s1 s2) _ _ D) (Dvs.one (C7.mpr ⟨p,_,rfl,SqT.of A6,B4 (E6.mpr rfl) (B4 (E6.mpr rfl) (Dvs.one (C7.mpr ⟨l,_,rfl,s2.sqT (SqT.of A6),?_⟩)))⟩))⟩
 rw[e]
 exact zh0 ks
end
abbrev wm7(K:Fg):TS :=
 (M0 (tOp (M7 K) (A3 1) (tOp (rI (fun _ j=>0<j) fun i j=>.int (i % j)) (A3 0) (tC (.int 12)))))
abbrev xm8(K:Fg):TS :=
 (C0 (E9 (tOp (J0 K) (A3 1) (qd5 (A2 (M2 (A2 (tC (.str "q;")) (A2 (tC (.str "q;")) (A2 (M2 B0) B0)))) (A2 (M2 (A2 (tC (.str "&l")) (A2 (tC (.str "&l")) (A2 (M2 (A2 (tC (.int 0)) B0)) B0)))) (A2 (M2 (A2 (tC (.str "&&a;")) (A2 (tC (.str "&&")) (A2 (M2 (A2 (tC (.int 0)) B0)) B0)))) B0))))) (B2 1))
 (wm7 K))
abbrev xm9(K:Fg):TS :=
 (C0 (E9 (tOp (J0 K) (A3 1) (qd5 (A2 (M2 (A2 (tC (.str "&amp;")) (A2 (tC (.str "&amp;")) (A2 (M2 (A2 (tC (.int 0)) B0)) B0)))) (A2 (M2 (A2 (tC (.str " \n")) (A2 (tC (.str " \n")) (A2 (M2 B0) B0)))) (A2 (M2 (A2 (tC (.str "</ a>")) (A2 (tC (.str "</ a>")) (A2 (M2 (A2 (tC (.int 0)) B0)) B0)))) (A2 (M2 (A2 (tC (.str "<Aa>")) (A2 (tC (.str "<Aa>")) (A2 (M2 (A2 (tC (.int 0)) B0)) B0)))) B0)))))) (B2 1))
 (xm8 K))
def qq7(K:Fg):Sp:=fun vs H Q _=>∃ n:Int,vs=[.int n]/\∀ (p l:Addr) (r t:Str) (ks:List Nat) (H':Hp),(r,t,ks)∈yl3->SqT K H' p [.str r,.str t,.ref l]->SqT K H' l (ks.map fun k:Nat=>V.int (k:Int))->A7 H H'->Q (.ref p) H'
def qv7(K:Fg):TS :=
 (C0 (E9 (qd5 (A2 (M2 (A2 (tC (.str "a")) (A2 (tC (.str "a")) (A2 (M2 B0) B0)))) (A2 (M2 (A2 (tC (.str "x < y")) (A2 (tC (.str "x < y")) (A2 (M2 (A2 (tC (.int 2)) B0)) B0)))) (A2 (M2 (A2 (tC (.str "&l;&a;")) (A2 (tC (.str "<&")) (A2 (M2 B0) B0)))) (A2 (M2 (A2 (tC (.str "&")) (A2 (tC (.str "&")) (A2 (M2 (A2 (tC (.int 0)) B0)) B0)))) (A2 (M2 (A2 (tC (.str "<<b")) (A2 (tC (.str "<<b")) (A2 (M2 (A2 (tC (.int 0)) (A2 (tC (.int 1)) B0))) B0)))) B0)))))) (B2 1))
 (xm9 K))
theorem xw2(h:qq7 K vs H Q E):qv7 K {nx:=fun _ H'=>Q .non H',rt:=Q} (E8 ["_law_number","_law_some"] vs) H:=by
 obtain⟨n,rfl,q⟩:=h
 show qv7 K _ [some (.int n),none] H
 unfold qv7
 have D0:Dvs K H [] []:=J7
 have S0:A7 H H:=A7.refl H
 lk
 refine⟨E1 (by z_go),fun l0 hl0=>?_⟩
 lk
 refine⟨E1 (by z_go),fun p0 hp0=>?_⟩
 obtain⟨t0,D1⟩:=X3 (r:=("a":Str)) (t:=("a":Str)) (ks:=[]) D0 hl0 hp0 rfl
 have S1:=A7.tr S0 t0
 clear S0 D0
 generalize upd (upd H l0 (.tup [])) p0 (.tup [.str "a",.str "a",.ref l0])=G1 at *
 lk
 refine⟨E1 (by z_go),fun l1 hl1=>?_⟩
 lk
 refine⟨E1 (by z_go),fun p1 hp1=>?_⟩
 obtain⟨t1,D2⟩:=X3 (r:=("x < y":Str)) (t:=("x < y":Str)) (ks:=[2]) D1 hl1 hp1 rfl
 have S2:=A7.tr S1 t1
 clear S1 D1
 generalize upd (upd G1 l1 (.tup [.int 2])) p1 (.tup [.str "x < y",.str "x < y",.ref l1])=G2 at *
 lk
 refine⟨E1 (by z_go),fun l2 hl2=>?_⟩
 lk
 refine⟨E1 (by z_go),fun p2 hp2=>?_⟩
 obtain⟨t2,D3⟩:=X3 (r:=("&l;&a;":Str)) (t:=("<&":Str)) (ks:=[]) D2 hl2 hp2 rfl
 have S3:=A7.tr S2 t2
 clear S2 D2
 generalize upd (upd G2 l2 (.tup [])) p2 (.tup [.str "&l;&a;",.str "<&",.ref l2])=G3 at *
 lk
 refine⟨E1 (by z_go),fun l3 hl3=>?_⟩
 lk
 refine⟨E1 (by z_go),fun p3 hp3=>?_⟩
 obtain⟨t3,D4⟩:=X3 (r:=("&":Str)) (t:=("&":Str)) (ks:=[0]) D3 hl3 hp3 rfl
 have S4:=A7.tr S3 t3
 clear S3 D3
 generalize upd (upd G3 l3 (.tup [.int 0])) p3 (.tup [.str "&",.str "&",.ref l3])=G4 at *
 lk
 refine⟨E1 (by z_go),fun l4 hl4=>?_⟩
 lk
 refine⟨E1 (by z_go),fun p4 hp4=>?_⟩
 obtain⟨t4,D5⟩:=X3 (r:=("<<b":Str)) (t:=("<<b":Str)) (ks:=[0,1]) D4 hl4 hp4 rfl
 have S5:=A7.tr S4 t4
 clear S4 D4
 generalize upd (upd G4 l4 (.tup [.int 0,.int 1])) p4 (.tup [.str "<<b",.str "<<b",.ref l4])=G5 at *
 lk
 refine⟨E1 (by z_go),fun q1 hq1=>?_⟩
 have uq1:=A7.new hq1 (.lst [.ref p0,.ref p1,.ref p2,.ref p3,.ref p4])
 have D5:=Dvs.same uq1 _ _ D5
 have S5:=A7.tr S5 uq1
 have eq1:(upd G5 q1 (.lst [.ref p0,.ref p1,.ref p2,.ref p3,.ref p4])) q1=_:=A6
 generalize upd G5 q1 (.lst [.ref p0,.ref p1,.ref p2,.ref p3,.ref p4])=G5l at *
 lk
 refine⟨E1 (by z_go),fun l5 hl5=>?_⟩
 lk
 refine⟨E1 (by z_go),fun p5 hp5=>?_⟩
 obtain⟨t5,D6⟩:=X3 (r:=("&amp;":Str)) (t:=("&amp;":Str)) (ks:=[0]) D5 hl5 hp5 rfl
 have S6:=A7.tr S5 t5
 have eq1:=t5 _ _ eq1
 clear S5 D5
 generalize upd (upd G5l l5 (.tup [.int 0])) p5 (.tup [.str "&amp;",.str "&amp;",.ref l5])=G6 at *
 lk
 refine⟨E1 (by z_go),fun l6 hl6=>?_⟩
 lk
 refine⟨E1 (by z_go),fun p6 hp6=>?_⟩
 obtain⟨t6,D7⟩:=X3 (r:=(" \n":Str)) (t:=(" \n":Str)) (ks:=[]) D6 hl6 hp6 rfl
 have S7:=A7.tr S6 t6
 have eq1:=t6 _ _ eq1
 clear S6 D6
 generalize upd (upd G6 l6 (.tup [])) p6 (.tup [.str " \n",.str " \n",.ref l6])=G7 at *
 lk
 refine⟨E1 (by z_go),fun l7 hl7=>?_⟩
 lk
 refine⟨E1 (by z_go),fun p7 hp7=>?_⟩
 obtain⟨t7,D8⟩:=X3 (r:=("</ a>":Str)) (t:=("</ a>":Str)) (ks:=[0]) D7 hl7 hp7 rfl
 have S8:=A7.tr S7 t7
 have eq1:=t7 _ _ eq1
 clear S7 D7
 generalize upd (upd G7 l7 (.tup [.int 0])) p7 (.tup [.str "</ a>",.str "</ a>",.ref l7])=G8 at *
 lk
 refine⟨E1 (by z_go),fun l8 hl8=>?_⟩
 lk
 refine⟨E1 (by z_go),fun p8 hp8=>?_⟩
 obtain⟨t8,D9⟩:=X3 (r:=("<Aa>":Str)) (t:=("<Aa>":Str)) (ks:=[0]) D8 hl8 hp8 rfl
 have S9:=A7.tr S8 t8
 have eq1:=t8 _ _ eq1
 clear S8 D8
 generalize upd (upd G8 l8 (.tup [.int 0])) p8 (.tup [.str "<Aa>",.str "<Aa>",.ref l8])=G9 at *
 lk
 refine⟨E1 (by z_go),fun q2 hq2=>?_⟩
 have uq2:=A7.new hq2 (.lst [.ref p5,.ref p6,.ref p7,.ref p8])
 have D9:=Dvs.same uq2 _ _ D9
 have S9:=A7.tr S9 uq2
 have eq2:(upd G9 q2 (.lst [.ref p5,.ref p6,.ref p7,.ref p8])) q2=_:=A6
 have eq1:=uq2 _ _ eq1
 generalize upd G9 q2 (.lst [.ref p5,.ref p6,.ref p7,.ref p8])=G9l at *
 lk
 refine xz5 eq1 eq2 (by rw[sizeLine_eq];simp) fun q3 hq3=>?_
 have uq3:=A7.new hq3 (.lst ([.ref p0,.ref p1,.ref p2,.ref p3,.ref p4]++[.ref p5,.ref p6,.ref p7,.ref p8]))
 have D9:=Dvs.same uq3 _ _ D9
 have S9:=A7.tr S9 uq3
 have eq3:(upd G9l q3 (.lst ([.ref p0,.ref p1,.ref p2,.ref p3,.ref p4]++[.ref p5,.ref p6,.ref p7,.ref p8]))) q3=_:=A6
 generalize upd G9l q3 (.lst ([.ref p0,.ref p1,.ref p2,.ref p3,.ref p4]++[.ref p5,.ref p6,.ref p7,.ref p8]))=G9lc at *
 lk
 refine⟨E1 (by z_go),fun l9 hl9=>?_⟩
 lk
 refine⟨E1 (by z_go),fun p9 hp9=>?_⟩
 obtain⟨t9,D10⟩:=X3 (r:=("q;":Str)) (t:=("q;":Str)) (ks:=[]) D9 hl9 hp9 rfl
 have S10:=A7.tr S9 t9
 have eq3:=t9 _ _ eq3
 clear S9 D9
 generalize upd (upd G9lc l9 (.tup [])) p9 (.tup [.str "q;",.str "q;",.ref l9])=G10 at *
 lk
 refine⟨E1 (by z_go),fun l10 hl10=>?_⟩
 lk
 refine⟨E1 (by z_go),fun p10 hp10=>?_⟩
 obtain⟨t10,D11⟩:=X3 (r:=("&l":Str)) (t:=("&l":Str)) (ks:=[0]) D10 hl10 hp10 rfl
 have S11:=A7.tr S10 t10
 have eq3:=t10 _ _ eq3
 clear S10 D10
 generalize upd (upd G10 l10 (.tup [.int 0])) p10 (.tup [.str "&l",.str "&l",.ref l10])=G11 at *
 lk
 refine⟨E1 (by z_go),fun l11 hl11=>?_⟩
 lk
 refine⟨E1 (by z_go),fun p11 hp11=>?_⟩
 obtain⟨t11,D12⟩:=X3 (r:=("&&a;":Str)) (t:=("&&":Str)) (ks:=[0]) D11 hl11 hp11 rfl
 have S12:=A7.tr S11 t11
 have eq3:=t11 _ _ eq3
 clear S11 D11
 generalize upd (upd G11 l11 (.tup [.int 0])) p11 (.tup [.str "&&a;",.str "&&",.ref l11])=G12 at *
 lk
 refine⟨E1 (by z_go),fun q4 hq4=>?_⟩
 have uq4:=A7.new hq4 (.lst [.ref p9,.ref p10,.ref p11])
 have D12:=Dvs.same uq4 _ _ D12
 have S12:=A7.tr S12 uq4
 have eq4:(upd G12 q4 (.lst [.ref p9,.ref p10,.ref p11])) q4=_:=A6
 have eq3:=uq4 _ _ eq3
 generalize upd G12 q4 (.lst [.ref p9,.ref p10,.ref p11])=G12l at *
 lk
 refine xz5 eq3 eq4 (by rw[sizeLine_eq];simp) fun q5 hq5=>?_
 have uq5:=A7.new hq5 (.lst ([.ref p0,.ref p1,.ref p2,.ref p3,.ref p4]++[.ref p5,.ref p6,.ref p7,.ref p8]++[.ref p9,.ref p10,.ref p11]))
 have D12:=Dvs.same uq5 _ _ D12
 have S12:=A7.tr S12 uq5
 have eq5:(upd G12l q5 (.lst ([.ref p0,.ref p1,.ref p2,.ref p3,.ref p4]++[.ref p5,.ref p6,.ref p7,.ref p8]++[.ref p9,.ref p10,.ref p11]))) q5=_:=A6
 generalize upd G12l q5 (.lst ([.ref p0,.ref p1,.ref p2,.ref p3,.ref p4]++[.ref p5,.ref p6,.ref p7,.ref p8]++[.ref p9,.ref p10,.ref p11]))=G12lc at *
 show wm7 K _ _ _
 lk
 have h0:=Int.emod_nonneg n (show(12:Int)≠0 by decide)
 have h1:=Int.emod_lt_of_pos n (show(0:Int)<12 by decide)
 obtain⟨j,hj⟩:=Int.eq_ofNat_of_zero_le h0
 rw[hj]
 have hj12:j<12:=by omega
 obtain⟨⟨r,t,ks⟩,hr⟩:∃ x,yl3[j]?=some x:=⟨_,List.getElem?_eq_getElem (show j<yl3.length from hj12)⟩
 obtain⟨v,hv,dv⟩:=D12.get (i:=j) (d:=zo4 r t ks) (by
  have:yl3.map (fun x=>zo4 x.1 x.2.1 x.2.2)=_:=rfl
  show(yl3.map (fun x=>zo4 x.1 x.2.1 x.2.2))[j]?=_
  rw[List.getElem?_map,hr];rfl)
 refine O0 (SqL.of eq5) (v:=v) (U7 hv) ?_
 obtain⟨p,xs,rfl,hp,dxs⟩:=C7.mp dv
 obtain⟨v1,xs,rfl⟩:∃ a l,xs=a::l:=by cases xs with|nil=>have:=dxs.length;simp at this|cons a l=>exact⟨_,_,rfl⟩
 obtain⟨d1,dxs⟩:=qo9.mp dxs
 obtain⟨v2,xs,rfl⟩:∃ a l,xs=a::l:=by cases xs with|nil=>have:=dxs.length;simp at this|cons a l=>exact⟨_,_,rfl⟩
 obtain⟨d2,dxs⟩:=qo9.mp dxs
 obtain⟨v3,xs,rfl⟩:∃ a l,xs=a::l:=by cases xs with|nil=>have:=dxs.length;simp at this|cons a l=>exact⟨_,_,rfl⟩
 obtain⟨d3,dxs⟩:=qo9.mp dxs
 obtain rfl:xs=[]:=List.eq_nil_of_length_eq_zero dxs.length
 obtain⟨l,us,rfl,hl,dl⟩:=C7.mp d3
 rw[E6.mp d1,E6.mp d2] at hp
 rw[ye1 dl] at hl
 lk
 exact q p l r t ks _ (List.mem_of_getElem? hr) hp hl S12
abbrev wh4(K:Fg):TS :=
 (L7 (tBM K "list" N2 (A3 0) (A2 (M2 (A2 (tOp (J0 K) (A3 1) (A3 4)) (A2 (tOp (J0 K) (tOp (J0 K) (A3 1) (A3 4)) (tC (.int 1))) (A2 (yy9 (yz1 [((tC (.str "<")),(tC (.str "&l;"))),((tC (.str "&")),(tC (.str "&a;")))]) (tOp (M7 K) (A3 2) (A3 4))) (A2 (tC (.str "sign")) B0))))) B0)))
def qm3(K:Fg):Sp:=fun vs H Q _=>∃ (H0:Hp) (L M l:Addr) (as:List Addr) (hosts:List (List Tr)) (ms:List Mnd) (i:Int) (r:Str) (ks:List Nat),vs=[.ref M,.int i,.str r,.ref l]/\A1 K H0 H L M as hosts ms/\SqT K H l (ks.map fun k:Nat=>V.int (k:Int))/\(∀ k∈ks,k<r.length/\(r.cps.toList[k]?=some 60\/r.cps.toList[k]?=some 38))/\r.length<=100/\ms.length+ks.length<=100000/\∀ H',A1 K H0 H' L M as hosts (ms++ks.map (wx8 i r))->Q .non H'
def qq8(K:Fg):TS :=
 (qx9 (wf8 K (A3 3)) (B2 4)
 (wh4 K))
theorem xn1(h:qm3 K vs H Q E):qq8 K {nx:=fun _ H'=>Q .non H',rt:=Q} (E8 ["_law_mends","_law_start","_law_raw","_law_lone","_law_k"] vs) H:=by
 obtain⟨H0,L,M,l,as,hosts,ms,i,r,ks,rfl,a,hl,hk,hr,hml,q⟩:=h
 show qq8 K _ [some (.ref M),some (.int i),some (.str r),some (.ref l),none] H
 unfold qq8
 lk
 refine xi7 hl (fun j σ H'=>∃ x4,σ=[some (.ref M),some (.int i),some (.str r),some (.ref l),x4]/\A1 K H0 H' L M as hosts (ms++(ks.take j).map (wx8 i r))/\SqT K H' l (ks.map fun k:Nat=>V.int (k:Int))) ⟨none,rfl,by simpa using a,hl⟩ ?_ ?_ ?_
 ·rintro j σ H' _ ⟨_,rfl,_,h⟩;exact h
 ·rintro j v σ H' hj ⟨x4,rfl,a1,hl1⟩
  rw[List.getElem?_map] at hj
  obtain⟨k,hkj,rfl⟩:=Option.map_eq_some_iff.mp hj
  obtain⟨hk1,hk2⟩:=hk k (List.mem_of_getElem? hkj)
  have hjl:j<ks.length:=(List.getElem?_eq_some_iff.mp hkj).1
  refine L3 ?_
  show wh4 K _ [some (.ref M),some (.int i),some (.str r),some (.ref l),some (.int k)] H'
  obtain⟨us,m1,m2⟩:=a1.m
  lk
  refine⟨.inl ⟨rfl,_,SqL.of m1⟩,?_⟩
  lk
  unfold yz1
  intro e he
  unfold wv1
  lk
  unfold wv1
  lk
  unfold wv1
  refine⟨A6,[(.inr ("<":Str),.str "&l;"),(.inr ("&":Str),.str "&a;")],rfl,by decide,?_⟩
  have s1:A7 H' (upd (upd H' e (.dK [])) e (.dK (qw6 [] [(.inr ("<":Str),.str "&l;"),(.inr ("&":Str),.str "&a;")]))):=A7.put (A7.new he (.dK [])) he _
  have e1:(upd (upd H' e (.dK [])) e (.dK (qw6 [] [(.inr ("<":Str),.str "&l;"),(.inr ("&":Str),.str "&a;")]))) e=some (.dK (qw6 [] [(.inr ("<":Str),.str "&l;"),(.inr ("&":Str),.str "&a;")])):=A6
  generalize upd (upd H' e (.dK [])) e (.dK (qw6 [] [(.inr ("<":Str),.str "&l;"),(.inr ("&":Str),.str "&a;")]))=H2 at *
  have a2:=a1.same s1
  have m12:=s1 _ _ m1
  have m22:=Dvs.same s1 _ _ m2
  have hl2:=s1.sqT hl1
  have em:=A1.mlen m2
  lk
  obtain⟨c,v,hc,hv,ht⟩:∃ (c:Nat) (v:Str),r.cps.toList[k]?=some c/\wv0 (qw6 [] [(.inr ("<":Str),.str "&l;"),(.inr ("&":Str),.str "&a;")]) ((.inr ⟨#[c]⟩:Key))=some (.str v)/\(wx8 i r k).t=v:=by
   rcases hk2 with h|h
   ·exact⟨60, "&l;",h,rfl,by unfold wx8;rw[if_pos h]⟩
   ·exact⟨38, "&a;",h,rfl,by unfold wx8;rw[if_neg (by rw[h];decide)]⟩
  lk
  refine zb0 (by rw[sizeLine_eq];omega) (U7 hc) ?_
  refine⟨e,_,rfl,hv▸xl3.k (k:=.inr ⟨#[c]⟩) e1,?_⟩
  lk
  refine⟨E1 (by z_go),fun p hp=>?_⟩
  lk
  have s7:=A7.new hp (.tup [.int (i+k),.int (i+k+1),.str v,.str "sign"])
  have dp:Dv K (upd H2 p (.tup [.int (i+k),.int (i+k+1),.str v,.str "sign"])) (wx8 i r k).da (.ref p):=xw0 (m:=wx8 i r k) (by
   have e7:(upd H2 p (.tup [.int (i+k),.int (i+k+1),.str v,.str "sign"])) p=_:=A6
   rw[e7,<-ht];rfl)
  have a7:=a2.same s7
  have m17:=s7 _ _ m12
  have m27:=Dvs.same s7 _ _ m22
  have hl7:=s7.sqT hl2
  generalize upd H2 p (.tup [.int (i+k),.int (i+k+1),.str v,.str "sign"])=H7 at *
  refine N5 m17 (by rw[em,sizeLine_eq,List.length_append,List.length_map,List.length_take];omega) ?_
  have a8:=a7.mend m17 m27 dp
  have tk:T5 H7 (upd H7 M (.lst (us++[.ref p]))):=N7 (.inl ⟨_,m17⟩)
  refine⟨_,rfl,?_,tk.sqT hl7⟩
  rw[qo5 hkj,List.map_append,<-List.append_assoc]
  exact a8
 ·rintro σ H' ⟨x4,rfl,a1,_⟩
  rw[List.length_map,List.take_of_length_le (Nat.le_refl _)] at a1
  exact q H' a1
abbrev wd5(K:Fg):TS :=
 (C0 (L7 (E2 (Z7 K) [] E0 (A2 (tOp (M7 K) (A3 1) (tUn (rU fun i=>.int (-i)) (tC (.int 1)))) (A2 (M2 (A2 (A3 2) (A2 (tCB (qp1 K) (A2 (A3 3) B0)) B0))) B0))))
 (M0 (tOp (J0 K) (tOp (J0 K) (tC (.str "</")) (A3 2)) (tC (.str ">")))))
def Z8(K:Fg):Sp:=fun vs H Q _=>∃ (H0:Hp) (d L M:Addr) (as:List Addr) (ws:List (List Tr)) (u w:List Tr) (ms:List Mnd) (nm:List Str),vs=[.ref d,.ref L]/\A1 K H0 H L M as (ws++[u,w]) ms/\H0 d=some (.lst (C1 nm))/\3<=nm.length/\(∀ x∈nm,x.length<=8)/\u.length<=1000000/\adA u<=1000000/\∀ as' H',A1 K H0 H' L M as' (ws++[u++[Tr.nd (lvl nm ws.length) w]]) ms->Q (.str (cls (lvl nm ws.length))) H'
def qm4(K:Fg):TS :=
 (C0 (E9 (tOp (M7 K) (A3 0) (tOp qr1 (tOp (rI (fun _ j=>0<j) fun i j=>.int (i % j)) (tCB (O6 K) (A2 (A3 1) B0)) (tC (.int 2))) (tC (.int 2)))) (B2 2))
 (C0 (E9 (yy6 K "list" yy7 (A3 1)) (B2 3))
 (wd5 K)))
theorem xj4(h:Z8 K vs H Q E):qm4 K {nx:=fun _ H'=>Q .non H',rt:=Q} (E8 ["_law_names_here","_law_heaps","_law_name","_law_heap"] vs) H:=by
 obtain⟨H0,d,L,M,as,ws,u,w,ms,nm,rfl,a,hd,h3,h8,hul,hua,q⟩:=h
 show qm4 K _ [some (.ref d),some (.ref L),none,none] H
 unfold qm4
 have hal:=a.hlen
 rw[List.length_append] at hal
 have hal:as.length=ws.length+2:=hal
 have g1:(lvl nm ws.length).length<=8:=h8 _ (W6 (by omega))
 have a0:A1 K H0 H L M as ((ws++[u])++[w]) ms:=by rw[List.append_assoc];exact a
 obtain⟨as1,x1,us,eas,hL,a1,hx1,hd1⟩:=a0.pop
 lk
 refine Q3 (.inl (SqL.of a.h.l)) ?_
 lk
 have hix:((as.map V.ref).length:Int) % 2*2=((ws.length % 2*2:Nat):Int):=by rw[List.length_map,hal];omega
 refine qw7 (by first|decide|(unfold yf8;omega)|trivial) ?_
 rw[hix]
 refine O0 (SqL.of (a.s _ _ hd)) (v:=.str (lvl nm ws.length)) (qh6 (i:=ws.length % 2*2) (by omega)) ?_
 lk
 refine⟨.inl ⟨rfl,_,SqL.of hL⟩,?_⟩
 refine zc1 hL ?_
 generalize upd H L (.lst (as1.map V.ref))=H1 at *
 show wd5 K _ [some (.ref d),some (.ref L),some (.str (lvl nm ws.length)),some (.ref x1)] H1
 have hLa:=a1.h.l
 obtain⟨as',x,eas'⟩:∃ as' x,as1=as'++[x]:=by
  obtain⟨as',x,_,e,_⟩:=a1.h.top
  exact⟨as',x,e⟩
 rw[eas',List.map_append] at hLa
 lk
 refine⟨1,rfl,?_⟩
 refine O0 (SqL.of hLa) (v:=.ref x) (ql8 (n:=as'.length) (by simp) (by simp)) ?_
 lk
 refine⟨_,_,rfl,.inl ⟨SqL.of hx1,fun l hl=>?_⟩⟩
 lk
 refine⟨E1 (by z_go),fun p hp=>?_⟩
 have s4:=A7.tr (A7.new hl (.tup us)) (A7.new hp (.tup [.str (lvl nm ws.length),.ref l]))
 have s4b:=A7.new hp (.tup [.str (lvl nm ws.length),.ref l])
 have dt:Dv K _ (Tr.nd (lvl nm ws.length) w).da (.ref p):=yb4 (SqT.of (A6 (H:=upd H1 l (.tup us)) (a:=p) (o:=.tup [.str (lvl nm ws.length),.ref l]))) (s4b.sqT (SqT.of A6)) (Dvs.same s4 _ _ hd1)
 have a5:=a1.same s4
 generalize upd (upd H1 l (.tup us)) p (.tup [.str (lvl nm ws.length),.ref l])=H5 at *
 lk
 obtain⟨as2,x2,eas2,hL2,hlie⟩:=a5.lie (Q:=fun _ H'=>Q (.str (cls (lvl nm ws.length))) H') (E:=E0) (t:=Tr.nd (lvl nm ws.length) w) (v:=.ref p) dt hul hua (fun u e=>by cases e)
 have ex:x2=x:=by
  rw[eas'] at eas2
  exact((List.cons.inj (List.append_inj' eas2 rfl).2).1).symm
 subst ex
 have hl2:=hlie fun H' a'=>q as1 H' a'
 obtain⟨xx,ww,uus,tt,vv,r1,r2,r3,r4,r5,r6,r7,r8⟩:=hl2
 refine⟨xx,ww,uus,tt,vv,r1,r2,r3,r4,r5,r6,r7,fun us' H6 s6 hd6=>?_⟩
 have:=r8 us' H6 s6 hd6
 lk
 refine U2 (by rw[sizeLine_eq];show 2+_<=_;omega) ?_
 lk
 refine U2 (by rw[sizeLine_eq,U8];show 2+_+1<=_;omega) ?_
 exact this
abbrev wt3(K:Fg):TS :=
 (M0 (tOp (J0 K) (tOp (J0 K) (tC (.str "<")) (tOp (M7 K) (A3 0) (tOp qr1 (tOp (rI (fun _ j=>0<j) fun i j=>.int (i % j)) (A3 5) (tC (.int 2))) (tC (.int 2))))) (tC (.str ">"))))
abbrev wt4(K:Fg):TS :=
 (M0 (tOp (J0 K) (tOp (J0 K) (tC (.str "</")) (tOp (M7 K) (A3 0) (tC (.int 0)))) (tC (.str ">"))))
abbrev wt5(K:Fg):TS :=
 (C0 (L7 (tBM K "list" N2 (A3 3) (A2 (M2 (A2 (A3 4) (A2 (tOp (J0 K) (tOp (J0 K) (A3 4) (tCB (O6 K) (A2 (tOp (M7 K) (A3 0) (tC (.int 0))) B0))) (tC (.int 3))) (A2 (tC (.str "")) (A2 (tC (.str "stray")) B0))))) B0)))
 (wt4 K))
abbrev wt6(K:Fg):TS :=
 (C0 (T2 (L0 (tOp wv4 (A3 5) (tC (.int 0))))
 (M0 (E2 (Z8 K) [] E0 (A2 (A3 0) (A2 (A3 2) B0)))) O5)
 (wt5 K))
abbrev wt7(K:Fg):TS :=
 (C0 (T2 (xb4 (L0 (tOp xs4 (A3 5) (tC (.int 19)))) (L0 (tOp (qg1 K) (tOp (rI (fun _ j=>0<j) fun i j=>.int (i % j)) (tOp (rI xe5 fun i j=>.int (i / j)) (A3 1) (tC (.int 8))) (tC (.int 2))) (tC (.int 0)))))
 (C0 (L7 (tBM K "list" N2 (A3 2) (A2 (qd5 B0) B0)))
 (wt3 K)) O5)
 (wt6 K))
def qn0(K:Fg):Sp:=fun vs H Q _=>∃ (H0:Hp) (d L M:Addr) (as:List Addr) (hosts:List (List Tr)) (ms:List Mnd) (nm:List Str) (n i:Int),vs=[.ref d,.int n,.ref L,.ref M,.int i]/\A1 K H0 H L M as hosts ms/\H0 d=some (.lst (C1 nm))/\3<=nm.length/\(∀ x∈nm,x.length<=8)/\1<=hosts.length/\hosts.length<=20/\ms.length<=100000/\(∀ ws u w,hosts=ws++[u,w]->u.length<=1000000/\adA u<=1000000)/\(hosts.length<=19->∀ as' H',A1 K H0 H' L M as' (hosts++[[]]) ms->Q (.str (opn (lvl nm (hosts.length-1)))) H')/\(∀ ws u w,hosts=ws++[u,w]->∀ as' H',A1 K H0 H' L M as' (ws++[u++[Tr.nd (lvl nm ws.length) w]]) ms->Q (.str (cls (lvl nm ws.length))) H')/\(hosts.length=1->∀ H',A1 K H0 H' L M as hosts (ms++[⟨i,i+(cls (gd nm 0)).length, "","stray"⟩])->Q (.str (cls (gd nm 0))) H')
def wc5(K:Fg):TS :=
 (C0 (E9 (tOp (rI0 fun i j=>.int (i-j)) (tCB (O6 K) (A2 (A3 2) B0)) (tC (.int 1))) (B2 5))
 (wt7 K))
theorem ye2(h:qn0 K vs H Q E):wc5 K {nx:=fun _ H'=>Q .non H',rt:=Q} (E8 ["_law_names_here","_law_number","_law_heaps","_law_mends","_law_start","_law_within"] vs) H:=by
 obtain⟨H0,d,L,M,as,hosts,ms,nm,n,i,rfl,a,hd,h3,h8,hl1,hl20,hml,hb,q1,q2,q3⟩:=h
 show wc5 K _ [some (.ref d),some (.int n),some (.ref L),some (.ref M),some (.int i),none] H
 unfold wc5
 have hal:=a.hlen
 have hdH:=a.s _ _ hd
 have g0:(gd nm 0).length<=8:=h8 _ (W6 (by omega))
 have gl:(lvl nm (hosts.length-1)).length<=8:=h8 _ (W6 (by omega))
 lk
 refine Q3 (.inl (SqL.of a.h.l)) ?_
 have e1:((as.map V.ref).length:Int)-1=((hosts.length-1:Nat):Int):=by rw[List.length_map,hal];omega
 refine za0 ?_
 refine za8 ?_
 rw[e1]
 refine L3 ?_
 show wt7 K _ [some (.ref d),some (.int n),some (.ref L),some (.ref M),some (.int i),some (.int ((hosts.length-1:Nat):Int))] H
 have t3:wt6 K {nx:=fun _ H'=>Q .non H',rt:=Q} [some (.ref d),some (.int n),some (.ref L),some (.ref M),some (.int i),some (.int ((hosts.length-1:Nat):Int))] H:=by
  lk
  by_cases h2:2<=hosts.length
  ·rw [decide_eq_true (show((hosts.length-1:Nat):Int) > 0 by omega)]
   x_go
   obtain⟨ws,u,w,eh⟩:∃ ws u w,hosts=ws++[u,w]:=by
    rcases List.eq_nil_or_concat hosts with e|⟨l,w,e⟩
    ·rw[e] at h2;simp at h2
    ·rw[List.concat_eq_append] at e
     rcases List.eq_nil_or_concat l with e2|⟨l2,u,e2⟩
     ·rw[e,e2] at h2;simp at h2
     ·rw[List.concat_eq_append] at e2
      exact⟨l2,u,w,by rw[e,e2,List.append_assoc];rfl⟩
   obtain⟨b1,b2⟩:=hb ws u w eh
   lk
   exact⟨H0,d,L,M,as,ws,u,w,ms,nm,rfl,eh▸a,hd,h3,h8,b1,b2,fun as' H' a'=>q2 ws u w eh as' H' a'⟩
  ·have h1:hosts.length=1:=by omega
   rw[decide_eq_false (show ¬((hosts.length-1:Nat):Int) > 0 by omega)]
   k_go
   show wt5 K _ _ _
   obtain⟨us,m1,m2⟩:=a.m
   have em:=A1.mlen m2
   lk
   refine⟨.inl ⟨rfl,_,SqL.of m1⟩,?_⟩
   lk
   refine O0 (SqL.of hdH) (qh6 (i:=0) (by omega)) ?_
   lk
   refine xf6 (by rw[sizeLine_eq];omega) ?_
   lk
   refine⟨E1 (by z_go),fun p hp=>?_⟩
   lk
   have ee:i+((gd nm 0).length:Int)+3=i+((cls (gd nm 0)).length:Int):=by rw[wk4];omega
   have s7:=A7.new hp (.tup [.int i,.int (i+((gd nm 0).length:Int)+3),.str "",.str "stray"])
   have dp:Dv K (upd H p (.tup [.int i,.int (i+((gd nm 0).length:Int)+3),.str "",.str "stray"])) (Mnd.da ⟨i,i+(cls (gd nm 0)).length, "","stray"⟩) (.ref p):=xw0 (m:=⟨i,i+(cls (gd nm 0)).length, "","stray"⟩) (by rw[<-ee];exact A6)
   have a7:=a.same s7
   have m17:=s7 _ _ m1
   have m27:=Dvs.same s7 _ _ m2
   have hd7:=a7.s _ _ hd
   show N2 (.ref M) [.ref p] (upd H p (.tup [.int i,.int (i+((gd nm 0).length:Int)+3),.str "",.str "stray"])) _
   generalize upd H p (.tup [.int i,.int (i+((gd nm 0).length:Int)+3),.str "",.str "stray"])=H7 at *
   refine N5 m17 (by rw[em,sizeLine_eq];omega) ?_
   have a8:=a7.mend m17 m27 dp
   have hd8:=a8.s _ _ hd
   generalize upd H7 M (.lst (us++[.ref p]))=H8 at *
   show wt4 K _ _ _
   lk
   refine O0 (SqL.of hd8) (qh6 (i:=0) (by omega)) ?_
   refine U2 (by rw[sizeLine_eq];show 2+_<=_;omega) ?_
   lk
   refine U2 (by rw[sizeLine_eq,U8];show 2+_+1<=_;omega) ?_
   exact q3 h1 _ a8
 lk
 by_cases h19:hosts.length<=19
 ·rw[decide_eq_true (show((hosts.length-1:Nat):Int)<19 by omega)]
  x_go
  lk
  by_cases hz:n / 8 % 2=0
  ·rw[decide_eq_true hz]
   x_go
   lk
   refine⟨.inl ⟨rfl,_,SqL.of a.h.l⟩,?_⟩
   lk
   refine⟨E1 (by z_go),fun p4 hp4=>?_⟩
   lk
   refine N5 ((A7.new hp4 _) _ _ a.h.l) (by rw[List.length_map,hal,sizeLine_eq];omega) ?_
   have a4:=a.push hp4
   generalize upd (upd H p4 (.lst [])) L (.lst (as.map V.ref++[.ref p4]))=H4 at *
   show wt3 K _ _ _
   lk
   refine qw7 (by first|decide|(unfold yf8;omega)|trivial) ?_
   rw[show((hosts.length-1:Nat):Int) % 2*2=(((hosts.length-1) % 2*2:Nat):Int) by omega]
   refine O0 (SqL.of (a4.s _ _ hd)) (v:=.str (lvl nm (hosts.length-1))) (qh6 (i:=(hosts.length-1) % 2*2) (by omega)) ?_
   refine U2 (by rw[sizeLine_eq];show 1+_<=_;omega) ?_
   lk
   refine U2 (by rw[sizeLine_eq,U8];show 1+_+1<=_;omega) ?_
   exact q1 h19 _ _ a4
  ·rw[decide_eq_false hz]
   k_go
   exact t3
 ·rw[decide_eq_false (show ¬((hosts.length-1:Nat):Int)<19 by omega)]
  k_go
  first|exact t3|(refine Z2 ?_;exact t3)
def zh1(ps:List Pq):Bool:=(ps.getLast?.map Pq.isR).getD false
theorem zo5{ps:List Pq}(h:∀ x∈ps,x.tx.length<=11):(txQ ps).length<=11*ps.length:=by
 induction ps with
 | nil=>simp[txQ]
 | cons x ps ih =>
   have h1:=h x (by simp)
   have h2:=ih fun y hy=>h y (by simp[hy])
   unfold txQ at h2 ⊢
   rw[List.flatMap_cons,List.length_append,List.length_cons];omega
theorem yl5(ps:List Pq)(x:Pq):zh1 (ps++[x])=x.isR:=by unfold zh1;rw[List.getLast?_concat];rfl
structure I1(nm:List Str)(rs:List Row)(ps:List Pq)(z:Str)(hosts:List (List Tr))(ms:List Mnd)(ran:Bool):Prop where
 z:z.cps.toList=txQ ps
 ok:∀ x∈ps,x.ok/\x.tx.length<=11
 ap:xq6 false ps
 r:zh1 ps=true->ran=true
 s:S1 nm hosts (pq rs (fun _=>0) 0 ps st0)
 m:(pq rs (fun _=>0) 0 ps st0).ms=ms
 b:Bg rs (2*ps.length) (20*ps.length) (71*ps.length) ps.length (11*ps.length) (pq rs (fun _=>0) 0 ps st0)
section
variable{nm:List Str}{rs:List Row}{ps:List Pq}{z:Str}{hosts:List (List Tr)}{ms:List Mnd}{ran:Bool}
theorem I1.zl(i:I1 nm rs ps z hosts ms ran):z.length=(txQ ps).length/\z.length<=11*ps.length:=by
 have e:z.length=(txQ ps).length:=by rw[<-qf6,i.z]
 have:=zo5 fun x hx=>(i.ok x hx).2
 exact⟨e,by omega⟩
theorem I1.snoc(i:I1 nm rs ps z hosts ms ran)(bk:Bok rs (fun _=>0))(x:Pq){z':Str}{hosts':List (List Tr)}{ms':List Mnd}(hx:x.ok)(hl:x.tx.length<=11)(ht:∀ r t,x=.rn r t->t.length<=11)(hz:z'.cps.toList=z.cps.toList++x.tx)(ha:x.isR=true->ran=false)(hs:S1 nm hosts' (stQ rs (fun _=>0) z.length (pq rs (fun _=>0) 0 ps st0) x))(hm:(stQ rs (fun _=>0) z.length (pq rs (fun _=>0) 0 ps st0) x).ms=ms'):I1 nm rs (ps++[x]) z' hosts' ms' x.isR:=by
 have e:pq rs (fun _=>0) 0 (ps++[x]) st0=stQ rs (fun _=>0) z.length (pq rs (fun _=>0) 0 ps st0) x:=by rw[yq5,Nat.zero_add,i.zl.1]
 refine⟨by rw[hz,i.z,zg6],fun y hy=>?_,xj1 i.ap fun e=>?_,fun e=>by rw[yl5] at e;exact e,by rw[e];exact hs,by rw[e];exact hm,?_⟩
 ·rcases List.mem_append.mp hy with h|h
  ·exact i.ok y h
  ·rw[List.mem_singleton.mp h];exact⟨hx,hl⟩
 ·cases hr:x.isR with
  | false=>rfl
  | true =>
    have:=i.r e
    rw[ha hr] at this;cases this
 ·rw[e]
  refine(i.b.stQ bk x).mono (by simp;omega) (by simp;omega) (by simp;omega) (by simp) ?_
  cases x with
  | op m=>simp;omega
  | cl m=>simp;omega
  | rn r t=>have:=ht r t rfl;simp;omega
theorem I1.bnd(i:I1 nm rs ps z hosts ms ran)(hp:ps.length<=1000):∀ h∈hosts,h.length<=1000000/\adA h<=1000000:=fun h hh=>by
 rw[<-i.s.p] at hh
 obtain⟨b,hb,rfl⟩:=List.mem_map.mp hh
 have h1:=(i.b.c b hb).ps
 have h2:=(i.b.c b hb).t
 exact⟨by omega,by omega⟩
theorem I1.ml(i:I1 nm rs ps z hosts ms ran):ms.length<=71*ps.length:=by
 have:=i.b.m
 rw[i.m] at this;exact this
end
abbrev yq6(K:Fg):TS :=
 (L7 (E2 (Z7 K) [] E0 (A2 (tOp (M7 K) (A3 4) (tUn (rU fun i=>.int (-i)) (tC (.int 1)))) (A2 (A3 13) B0))))
abbrev yq7(K:Fg):TS :=
 (C0 (L7 (E2 (qm3 K) [] E0 (A2 (A3 5) (A2 (A3 11) (A2 (A3 12) (A2 (A3 14) B0))))))
 (yq6 K))
abbrev xw4(K:Fg):TS :=
 (C0 (E9 (E2 (qq7 K) [] E0 (A2 (tOp (rI xe5 fun i j=>.int (i / j)) (A3 9) (tC (.int 8))) B0)) (yf4 K 3 (qr0 (B2 12) (qr0 (B2 13) (qr0 (B2 14) yf3)))))
 (C0 (E9 (tOp (J0 K) (A3 6) (A3 12)) (B2 6))
 (yq7 K)))
abbrev yq8(K:Fg):TS :=
 (L7 (tBM K "list" N2 (A3 5) (A2 (M2 (A2 (A3 11) (A2 (tCB (O6 K) (A2 (A3 6) B0)) (A2 (tC (.str "")) (A2 (tOp (M7 K) (qd5 (A2 (tC (.str "strange")) (A2 (tC (.str "stray")) (A2 (tC (.str "stray")) B0)))) (tOp (rI (fun _ j=>0<j) fun i j=>.int (i % j)) (tOp (rI xe5 fun i j=>.int (i / j)) (A3 9) (tC (.int 8))) (tC (.int 3)))) B0))))) B0)))
abbrev yq9(K:Fg):TS :=
 (C0 (E9 (tOp (J0 K) (A3 6) (tOp (M7 K) (qd5 (A2 (tOp (J0 K) (tOp (J0 K) (tC (.str "<")) (A3 2)) (tC (.str ">"))) (A2 (tOp (J0 K) (tOp (J0 K) (tC (.str "</")) (A3 2)) (tC (.str ">"))) (A2 (tOp (J0 K) (tOp (J0 K) (tC (.str "</")) (tOp (M7 K) (A3 1) (tC (.int 1)))) (tC (.str ">"))) B0)))) (tOp (rI (fun _ j=>0<j) fun i j=>.int (i % j)) (tOp (rI xe5 fun i j=>.int (i / j)) (A3 9) (tC (.int 8))) (tC (.int 3))))) (B2 6))
 (yq8 K))
abbrev yr0(K:Fg):TS :=
 (L7 (E2 (Z7 K) [] E0 (A2 (tOp (M7 K) (A3 4) (tUn (rU fun i=>.int (-i)) (tC (.int 1)))) (A2 (M2 (A2 (tOp (M7 K) (A3 1) (tC (.int 1))) (A2 (M2 B0) B0))) B0))))
abbrev yr1(K:Fg):TS :=
 (C0 (E9 (tOp (J0 K) (tOp (J0 K) (tOp (J0 K) (A3 6) (tC (.str "<"))) (tOp (M7 K) (A3 1) (tC (.int 1)))) (tC (.str ">"))) (B2 6))
 (yr0 K))
abbrev yr2(K:Fg):TS :=
 (E9 (tOp (J0 K) (A3 6) (E2 (qn0 K) [] E0 (A2 (A3 1) (A2 (A3 9) (A2 (A3 4) (A2 (A3 5) (A2 (A3 11) B0))))))) (B2 6))
abbrev xe0(K:Fg):TS :=
 (C0 (T2 (L0 (tOp wv4 (A3 10) (tC (.int 4))))
 (yr2 K) O5)
 (E9 (tOp xs4 (A3 10) (tC (.int 3))) (B2 7)))
abbrev qi4(K:Fg):TS :=
 (C0 (T2 (L0 (tOp (qg1 K) (A3 10) (tC (.int 3))))
 (yq9 K) O5)
 (C0 (T2 (L0 (tOp (qg1 K) (A3 10) (tC (.int 4))))
 (yr1 K) O5)
 (xe0 K)))
abbrev qz5(K:Fg):TS :=
 (C0 (T2 (xb4 (L0 (tOp xs4 (A3 10) (tC (.int 3)))) (yr7 (tB (A3 7))))
 (xw4 K) O5)
 (qi4 K))
section
variable{D:qf7}{sc d tb L M:Addr}{z:Str}{ran:Bool}{x8 x12 x13 x14:Option V}{nn w:Int}{H0:Hp}{as:List Addr}{hosts:List (List Tr)}{ms:List Mnd}{nm:List Str}{ps:List Pq}{rs:List Row}
theorem t8a(hw:w<=4)(q:D.nx [some (.ref sc),some (.ref d),some (.str (gd nm 11)),some (.ref tb),some (.ref L),some (.ref M),some (.str z),some (.bl (decide (w<3))),x8,some (.int nn),some (.int w),some (.int (z.length:Int)),x12,x13,x14] H):xe0 K D [some (.ref sc),some (.ref d),some (.str (gd nm 11)),some (.ref tb),some (.ref L),some (.ref M),some (.str z),some (.bl ran),x8,some (.int nn),some (.int w),some (.int (z.length:Int)),x12,x13,x14] H:=by
 lk
 rw[decide_eq_false (show ¬w > 4 by omega)]
 k_go
 lk
 exact q
theorem t9a(hw:w<3)(q:D.nx [some (.ref sc),some (.ref d),some (.str (gd nm 11)),some (.ref tb),some (.ref L),some (.ref M),some (.str z),some (.bl true),x8,some (.int nn),some (.int w),some (.int (z.length:Int)),x12,x13,x14] H):qi4 K D [some (.ref sc),some (.ref d),some (.str (gd nm 11)),some (.ref tb),some (.ref L),some (.ref M),some (.str z),some (.bl ran),x8,some (.int nn),some (.int w),some (.int (z.length:Int)),x12,x13,x14] H:=by
 have q':D.nx [some (.ref sc),some (.ref d),some (.str (gd nm 11)),some (.ref tb),some (.ref L),some (.ref M),some (.str z),some (.bl (decide (w<3))),x8,some (.int nn),some (.int w),some (.int (z.length:Int)),x12,x13,x14] H:=by rw[decide_eq_true hw];exact q
 have:=t8a (K:=K) (D:=D) (H:=H) (ran:=ran) (show w<=4 by omega) q'
 lk
 rw[decide_eq_false (show ¬w=3 by omega)]
 k_go
 lk
 rw[decide_eq_false (show ¬w=4 by omega)]
 k_go
 exact this
theorem t9b(hw3:w≠3)(hw4:w≠4)(q:xe0 K D [some (.ref sc),some (.ref d),some (.str (gd nm 11)),some (.ref tb),some (.ref L),some (.ref M),some (.str z),some (.bl ran),x8,some (.int nn),some (.int w),some (.int (z.length:Int)),x12,x13,x14] H):qi4 K D [some (.ref sc),some (.ref d),some (.str (gd nm 11)),some (.ref tb),some (.ref L),some (.ref M),some (.str z),some (.bl ran),x8,some (.int nn),some (.int w),some (.int (z.length:Int)),x12,x13,x14] H:=by
 lk
 rw[decide_eq_false hw3]
 k_go
 lk
 rw[decide_eq_false hw4]
 k_go
 exact q
theorem Ad5(h:¬(w<3/\ran=false))(q:qi4 K D [some (.ref sc),some (.ref d),some (.str (gd nm 11)),some (.ref tb),some (.ref L),some (.ref M),some (.str z),some (.bl ran),x8,some (.int nn),some (.int w),some (.int (z.length:Int)),x12,x13,x14] H):qz5 K D [some (.ref sc),some (.ref d),some (.str (gd nm 11)),some (.ref tb),some (.ref L),some (.ref M),some (.str z),some (.bl ran),x8,some (.int nn),some (.int w),some (.int (z.length:Int)),x12,x13,x14] H:=by
 show C0 (T2 (xb4 (L0 (tOp xs4 (A3 10) (tC (.int 3)))) (yr7 (tB (A3 7)))) (xw4 K) O5) (qi4 K) D _ H
 refine qg3 ?_
 refine za1 ?_
 refine za2 ?_
 refine xs6 ?_
 refine xz4 ?_
 refine' wg0 ?ev ?_
 case ev=>exact rfl
 refine za0 ?_
 refine zp4 ?_
 refine yn6 ?_
 by_cases hw:w<3
 ·rw[decide_eq_true hw]
  x_go
  refine za3 ?_
  refine Aa1 ?_
  refine' wg0 ?ev2 ?_
  case ev2=>exact rfl
  refine yn6 ?_
  cases hr:ran with
  | false=>exact absurd ⟨hw,hr⟩ h
  | true =>
    subst hr
    exact Z2 q
 ·rw[decide_eq_false hw]
  k_go
  exact Z2 q
theorem Ad6(a:A1 K H0 H L M as hosts ms)(hw:w<3)(hr:ran=false)(hz:z.length<=100000)(hml:ms.length<=10000)(hb:∀ h∈hosts,h.length<=1000000/\adA h<=1000000)(hh:hosts≠[])(q:∀ (r t:Str) (ks:List Nat) (l:Addr) (H':Hp),zq7 r t ks->A1 K H0 H' L M as (hosts.dropLast++[adP (hosts.getLastD []) t]) (ms++ks.map (wx8 (z.length:Int) r))->D.nx [some (.ref sc),some (.ref d),some (.str (gd nm 11)),some (.ref tb),some (.ref L),some (.ref M),some (.str (z++r)),some (.bl true),x8,some (.int nn),some (.int w),some (.int (z.length:Int)),some (.str r),some (.str t),some (.ref l)] H'):qz5 K D [some (.ref sc),some (.ref d),some (.str (gd nm 11)),some (.ref tb),some (.ref L),some (.ref M),some (.str z),some (.bl ran),x8,some (.int nn),some (.int w),some (.int (z.length:Int)),x12,x13,x14] H:=by
 subst hr
 obtain⟨ws,w0,rfl⟩:∃ ws w0,hosts=ws++[w0]:=by
  rcases List.eq_nil_or_concat hosts with e|⟨ws,w0,e⟩
  ·exact absurd e hh
  ·exact⟨ws,w0,by rw[e,List.concat_eq_append]⟩
 obtain⟨b1,b2⟩:=hb w0 (by simp)
 rw[List.dropLast_concat,List.getLastD_concat] at q
 lk
 rw[decide_eq_true hw]
 x_go
 lk
 x_go
 show xw4 K {D with nx:=qi4 K D} [some (.ref sc),some (.ref d),some (.str (gd nm 11)),some (.ref tb),some (.ref L),some (.ref M),some (.str z),some (.bl false),x8,some (.int nn),some (.int w),some (.int (z.length:Int)),x12,x13,x14] H
 lk
 refine⟨_,rfl,fun p l r t ks H1 hm hp hl s1=>?_⟩
 have ro:=zg8 hm
 have rl:=ro.rl
 have tl:=ro.tl
 have a1:=a.same s1
 refine⟨p,_,rfl,hp,rfl,_,_,rfl,?_⟩
 refine L3 ?_
 refine⟨_,_,rfl,?_⟩
 refine L3 ?_
 refine⟨_,_,rfl,?_⟩
 refine L3 ?_
 refine⟨rfl,?_⟩
 lk
 refine U2 (by rw[sizeLine_eq];omega) ?_
 show yq7 K {D with nx:=qi4 K D} [some (.ref sc),some (.ref d),some (.str (gd nm 11)),some (.ref tb),some (.ref L),some (.ref M),some (.str (z++r)),some (.bl false),x8,some (.int nn),some (.int w),some (.int (z.length:Int)),some (.str r),some (.str t),some (.ref l)] H1
 lk
 have hkl:ks.length<=11:=by
  have:=ro.l
  rw[<-this]
  have:=wj9 (l:=r.cps.toList) (i:=r.cps.toList.length)
  rw[qf6] at this ⊢
  omega
 refine⟨H0,L,M,l,as,_,ms,_,r,ks,rfl,a1,hl,ro.k,by omega,by omega,fun H2 a2=>?_⟩
 show yq6 K {D with nx:=qi4 K D} [some (.ref sc),some (.ref d),some (.str (gd nm 11)),some (.ref tb),some (.ref L),some (.ref M),some (.str (z++r)),some (.bl false),x8,some (.int nn),some (.int w),some (.int (z.length:Int)),some (.str r),some (.str t),some (.ref l)] H2
 lk
 obtain⟨as',x,eas,hL,hlie⟩:=a2.lie (Q:=fun _ H'=>qi4 K D [some (.ref sc),some (.ref d),some (.str (gd nm 11)),some (.ref tb),some (.ref L),some (.ref M),some (.str (z++r)),some (.bl false),x8,some (.int nn),some (.int w),some (.int (z.length:Int)),some (.str r),some (.str t),some (.ref l)] H') (E:=E0) (t:=.tx t) (v:=.str t) (E6.mpr rfl) b1 b2 (fun u e=>by cases e;omega)
 refine⟨1,rfl,?_⟩
 refine O0 (SqL.of hL) (v:=.ref x) (ql8 (n:=as'.length) (by simp) (by simp)) ?_
 lk
 exact hlie fun H' a'=>(by
  have q9:=q r t ks l H' ro a'
  lk
  rw[decide_eq_false (show ¬w=3 by omega)]
  k_go
  lk
  rw[decide_eq_false (show ¬w=4 by omega)]
  k_go
  lk
  rw[decide_eq_false (show ¬w > 4 by omega)]
  k_go
  lk
  rw[decide_eq_true hw]
  exact q9)
theorem t9c(a:A1 K H0 H L M as hosts ms)(hw:w=3)(hd:H0 d=some (.lst (C1 nm)))(h3:nm.length=12)(h8:∀ x∈nm,x.length<=8)(hz:z.length<=100000)(hml:ms.length<=10000)(q:∀ (g rule:Str) (H':Hp),((g=opn (gd nm 11)/\rule = "strange")\/(g=cls (gd nm 11)/\rule = "stray")\/(g=cls (gd nm 1)/\rule = "stray"))->A1 K H0 H' L M as hosts (ms++[⟨z.length,(z.length:Int)+g.length, "",rule⟩])->D.nx [some (.ref sc),some (.ref d),some (.str (gd nm 11)),some (.ref tb),some (.ref L),some (.ref M),some (.str (z++g)),some (.bl false),x8,some (.int nn),some (.int w),some (.int (z.length:Int)),x12,x13,x14] H'):qi4 K D [some (.ref sc),some (.ref d),some (.str (gd nm 11)),some (.ref tb),some (.ref L),some (.ref M),some (.str z),some (.bl ran),x8,some (.int nn),some (.int w),some (.int (z.length:Int)),x12,x13,x14] H:=by
 subst hw
 have g1:=h8 _ (W6 (l:=nm) (i:=1) (by omega))
 have g11:=h8 _ (W6 (l:=nm) (i:=11) (by omega))
 have h0:=Int.emod_nonneg (nn / 8) (show(3:Int)≠0 by decide)
 have h1:=Int.emod_lt_of_pos (nn / 8) (show(0:Int)<3 by decide)
 obtain⟨g,rule,hgr,e1,e2⟩:∃ g rule:Str,((g=opn (gd nm 11)/\rule = "strange")\/(g=cls (gd nm 11)/\rule = "stray")\/(g=cls (gd nm 1)/\rule = "stray"))/\atI [V.str (opn (gd nm 11)),.str (cls (gd nm 11)),.str (cls (gd nm 1))] (nn / 8 % 3)=some (.str g)/\atI [V.str "strange",.str "stray",.str "stray"] (nn / 8 % 3)=some (.str rule):=by
  rcases(show nn / 8 % 3=0\/nn / 8 % 3=1\/nn / 8 % 3=2 by omega) with h|h|h <;> rw[h]
  ·exact⟨_,_,.inl ⟨rfl,rfl⟩,rfl,rfl⟩
  ·exact⟨_,_,.inr (.inl ⟨rfl,rfl⟩),rfl,rfl⟩
  ·exact⟨_,_,.inr (.inr ⟨rfl,rfl⟩),rfl,rfl⟩
 have gl:g.length<=11:=by
  rcases hgr with⟨h,_⟩|⟨h,_⟩|⟨h,_⟩ <;> rw[h]
  ·rw[yq4];omega
  ·rw[wk4];omega
  ·rw[wk4];omega
 lk
 x_go
 show yq9 K _ _ _
 lk
 refine U2 (by rw[sizeLine_eq];show 1+_<=_;omega) ?_
 lk
 refine U2 (by rw[sizeLine_eq,U8];show 1+_+1<=_;omega) ?_
 lk
 refine U2 (by rw[sizeLine_eq];show 2+_<=_;omega) ?_
 lk
 refine U2 (by rw[sizeLine_eq,U8];show 2+_+1<=_;omega) ?_
 lk
 refine O0 (SqL.of (a.s _ _ hd)) (qh6 (i:=1) (by omega)) ?_
 refine U2 (by rw[sizeLine_eq];show 2+_<=_;omega) ?_
 lk
 refine U2 (by rw[sizeLine_eq,U8];show 2+_+1<=_;omega) ?_
 lk
 refine⟨E1 (by z_go),fun e0 he0=>?_⟩
 have s1:=A7.new he0 (.lst [.str (("<":Str)++gd nm 11++(">":Str)),.str (("</":Str)++gd nm 11++(">":Str)),.str (("</":Str)++gd nm 1++(">":Str))])
 have a1:=a.same s1
 lk
 refine O0 (xs:=[.str (("<":Str)++gd nm 11++(">":Str)),.str (("</":Str)++gd nm 11++(">":Str)),.str (("</":Str)++gd nm 1++(">":Str))]) (SqL.of A6) (v:=.str g) e1 ?_
 generalize upd H e0 (.lst [.str (("<":Str)++gd nm 11++(">":Str)),.str (("</":Str)++gd nm 11++(">":Str)),.str (("</":Str)++gd nm 1++(">":Str))])=H1 at *
 refine U2 (by rw[sizeLine_eq];omega) ?_
 obtain⟨us,m1,m2⟩:=a1.m
 have em:=A1.mlen m2
 refine L3 ?_
 show yq8 K _ [some (.ref sc),some (.ref d),some (.str (gd nm 11)),some (.ref tb),some (.ref L),some (.ref M),some (.str (z++g)),some (.bl ran),x8,some (.int nn),some (.int 3),some (.int (z.length:Int)),x12,x13,x14] H1
 lk
 refine⟨.inl ⟨rfl,_,SqL.of m1⟩,?_⟩
 lk
 refine xf6 (by rw[sizeLine_eq,U8];omega) ?_
 lk
 refine⟨E1 (by z_go),fun e3 he3=>?_⟩
 have s3:=A7.new he3 (.lst [.str "strange",.str "stray",.str "stray"])
 lk
 refine O0 (xs:=[.str "strange",.str "stray",.str "stray"]) (SqL.of A6) (v:=.str rule) e2 ?_
 have a3:=a1.same s3
 have m13:=s3 _ _ m1
 have m23:=Dvs.same s3 _ _ m2
 generalize upd H1 e3 (.lst [.str "strange",.str "stray",.str "stray"])=H3 at *
 lk
 refine⟨E1 (by z_go),fun p hp=>?_⟩
 lk
 have s7:=A7.new hp (.tup [.int (z.length:Int),.int ((z++g).length:Int),.str "",.str rule])
 have dp:Dv K (upd H3 p (.tup [.int (z.length:Int),.int ((z++g).length:Int),.str "",.str rule])) (Mnd.da ⟨z.length,(z.length:Int)+g.length, "",rule⟩) (.ref p):=xw0 (m:=⟨z.length,(z.length:Int)+g.length, "",rule⟩) (by
  have e7:(upd H3 p (.tup [.int (z.length:Int),.int ((z++g).length:Int),.str "",.str rule])) p=_:=A6
  rw[e7]
  have:((z++g).length:Int)=(z.length:Int)+g.length:=by rw[U8];omega
  rw[this])
 have a7:=a3.same s7
 have m17:=s7 _ _ m13
 have m27:=Dvs.same s7 _ _ m23
 show N2 (.ref M) [.ref p] (upd H3 p (.tup [.int (z.length:Int),.int ((z++g).length:Int),.str "",.str rule])) _
 generalize upd H3 p (.tup [.int (z.length:Int),.int ((z++g).length:Int),.str "",.str rule])=H7 at *
 refine N5 m17 (by rw[em,sizeLine_eq];omega) ?_
 have a8:=a7.mend m17 m27 dp
 have q8:=q g rule _ hgr a8
 generalize upd H7 M (.lst (us++[.ref p]))=H8 at *
 lk
 k_go
 lk
 k_go
 lk
 exact q8
theorem t9d(a:A1 K H0 H L M as hosts ms)(hw:w=4)(hd:H0 d=some (.lst (C1 nm)))(h3:nm.length=12)(h8:∀ x∈nm,x.length<=8)(hz:z.length<=100000)(hb:∀ h∈hosts,h.length<=1000000/\adA h<=1000000)(hh:hosts≠[])(q:∀ H',A1 K H0 H' L M as (hosts.dropLast++[hosts.getLastD []++[Tr.nd (gd nm 1) []]]) ms->D.nx [some (.ref sc),some (.ref d),some (.str (gd nm 11)),some (.ref tb),some (.ref L),some (.ref M),some (.str (z ++ "<"++gd nm 1 ++ ">")),some (.bl false),x8,some (.int nn),some (.int w),some (.int (z.length:Int)),x12,x13,x14] H'):qi4 K D [some (.ref sc),some (.ref d),some (.str (gd nm 11)),some (.ref tb),some (.ref L),some (.ref M),some (.str z),some (.bl ran),x8,some (.int nn),some (.int w),some (.int (z.length:Int)),x12,x13,x14] H:=by
 subst hw
 obtain⟨ws,w0,rfl⟩:∃ ws w0,hosts=ws++[w0]:=by
  rcases List.eq_nil_or_concat hosts with e|⟨ws,w0,e⟩
  ·exact absurd e hh
  ·exact⟨ws,w0,by rw[e,List.concat_eq_append]⟩
 obtain⟨b1,b2⟩:=hb w0 (by simp)
 rw[List.dropLast_concat,List.getLastD_concat] at q
 have g1:=h8 _ (W6 (l:=nm) (i:=1) (by omega))
 have hdH:=a.s _ _ hd
 lk
 k_go
 lk
 x_go
 show yr1 K _ _ _
 lk
 refine U2 (by rw[sizeLine_eq];show _+1<=_;omega) ?_
 lk
 refine O0 (SqL.of hdH) (qh6 (i:=1) (by omega)) ?_
 refine U2 (by rw[sizeLine_eq,U8];show _+1+_<=_;omega) ?_
 lk
 refine U2 (by rw[sizeLine_eq,U8,U8];show _+1+_+1<=_;omega) ?_
 have hLa:=a.h.l
 obtain⟨as',x,eas⟩:∃ as' x,as=as'++[x]:=by
  obtain⟨as',x,_,e,_⟩:=a.h.top
  exact⟨as',x,e⟩
 rw[eas,List.map_append] at hLa
 refine L3 ?_
 show yr0 K _ [some (.ref sc),some (.ref d),some (.str (gd nm 11)),some (.ref tb),some (.ref L),some (.ref M),some (.str (z ++ "<"++gd nm 1 ++ ">")),some (.bl ran),x8,some (.int nn),some (.int 4),some (.int (z.length:Int)),x12,x13,x14] H
 lk
 refine⟨1,rfl,?_⟩
 refine O0 (SqL.of hLa) (v:=.ref x) (ql8 (n:=as'.length) (by simp) (by simp)) ?_
 lk
 refine O0 (SqL.of hdH) (qh6 (i:=1) (by omega)) ?_
 lk
 refine⟨E1 (by z_go),fun l hl=>?_⟩
 lk
 refine⟨E1 (by z_go),fun p hp=>?_⟩
 have s4:=A7.tr (A7.new hl (.tup [])) (A7.new hp (.tup [.str (gd nm 1),.ref l]))
 have s4b:=A7.new hp (.tup [.str (gd nm 1),.ref l])
 have dt:Dv K _ (Tr.nd (gd nm 1) []).da (.ref p):=yb4 (SqT.of (A6 (H:=upd H l (.tup [])) (a:=p) (o:=.tup [.str (gd nm 1),.ref l]))) (s4b.sqT (SqT.of A6)) (by rw[Tr.das];exact J7)
 have a5:=a.same s4
 generalize upd (upd H l (.tup [])) p (.tup [.str (gd nm 1),.ref l])=H5 at *
 lk
 obtain⟨as2,x2,eas2,hL2,hlie⟩:=a5.lie (Q:=fun _ H'=>D.nx [some (.ref sc),some (.ref d),some (.str (gd nm 11)),some (.ref tb),some (.ref L),some (.ref M),some (.str (z ++ "<"++gd nm 1 ++ ">")),some (.bl false),x8,some (.int nn),some (.int 4),some (.int (z.length:Int)),x12,x13,x14] H') (E:=E0) (t:=Tr.nd (gd nm 1) []) (v:=.ref p) dt b1 b2 (fun u e=>by cases e)
 have ex:x2=x:=by
  rw[eas] at eas2
  exact((List.cons.inj (List.append_inj' eas2 rfl).2).1).symm
 subst ex
 have hl2:=hlie fun H' a'=>q H' a'
 obtain⟨xx,ww,uus,tt,vv,r1,r2,r3,r4,r5,r6,r7,r8⟩:=hl2
 refine⟨xx,ww,uus,tt,vv,r1,r2,r3,r4,r5,r6,r7,fun us' H6 s6 hd6=>?_⟩
 have:=r8 us' H6 s6 hd6
 lk
 k_go
 lk
 exact this
theorem t8b(hw:4<w)(hw':w<8)(hsp:∀ Q2:VK,(∀ (g:Str) (H':Hp),g.length<=100->D.nx [some (.ref sc),some (.ref d),some (.str (gd nm 11)),some (.ref tb),some (.ref L),some (.ref M),some (.str (z++g)),some (.bl false),x8,some (.int nn),some (.int w),some (.int (z.length:Int)),x12,x13,x14] H'->Q2 (.str g) H')->qn0 K [.ref d,.int nn,.ref L,.ref M,.int (z.length:Int)] H Q2 E0)(hz:z.length<=100000):xe0 K D [some (.ref sc),some (.ref d),some (.str (gd nm 11)),some (.ref tb),some (.ref L),some (.ref M),some (.str z),some (.bl ran),x8,some (.int nn),some (.int w),some (.int (z.length:Int)),x12,x13,x14] H:=by
 lk
 rw[decide_eq_true (show w > 4 by omega)]
 x_go
 show yr2 K _ _ _
 lk
 refine hsp _ fun g H' hg h=>?_
 refine U2 (by rw[sizeLine_eq];omega) ?_
 lk
 rw[decide_eq_false (show ¬w<3 by omega)]
 exact h
end
theorem yw3{f:α->V}(xs:List α)(lo hi:Option Int):∃ cs:List α,qn3 (xs.map f) lo hi=cs.map f/\cs.length<=xs.length:=by
 unfold qn3
 refine⟨(xs.drop (HT.sIx (xs.map f).length 0 lo)).take (HT.sIx (xs.map f).length (xs.map f).length hi-HT.sIx (xs.map f).length 0 lo),?_,?_⟩
 ·rw[List.map_take,List.map_drop]
 ·rw[List.length_take,List.length_drop];omega
theorem S1.no{nm:List Str}{hs:List (List Tr)}(s:S1 nm hs st)(hN:Nms nm){k:Nat}(hk:k<nm.length)(h3:3<=nm.length)(h0:k≠0)(h2:k≠2):gd nm k∉L6 st:=fun h=>by
 rw[s.n] at h
 obtain⟨j,_,e⟩:=List.mem_map.mp h
 unfold lvl at e
 have:=zd7 hN.nd (by omega) hk e
 omega
section
variable{D:qf7}{sc d tb L M:Addr}{z:Str}{ran:Bool}{x8 x12 x13 x14:Option V}{nn w:Int}{H0:Hp}{as:List Addr}{hosts:List (List Tr)}{ms:List Mnd}{nm:List Str}{ps:List Pq}{rs:List Row}
theorem zx3(F:FlB nm 3 yl4 rs)(hN:Nms nm)(bk:Bok rs (fun _=>0))(nok:∀ x∈nm,yl2 x)(a:A1 K H0 H L M as hosts ms)(I:I1 nm rs ps z hosts ms ran)(hd:H0 d=some (.lst (C1 nm)))(h12:nm.length=12)(hpl:ps.length<=100)(hh20:hosts.length<=20)(hw0:0<=w)(hw8:w<8)(q:∀ (as':List Addr) (z':Str) (ran':Bool) (hosts':List (List Tr)) (ms':List Mnd) (ps':List Pq) (x12' x13' x14':Option V) (H':Hp),A1 K H0 H' L M as' hosts' ms'->I1 nm rs ps' z' hosts' ms' ran'->ps'.length<=ps.length+1->hosts'.length<=20->D.nx [some (.ref sc),some (.ref d),some (.str (gd nm 11)),some (.ref tb),some (.ref L),some (.ref M),some (.str (z')),some (.bl ran'),x8,some (.int nn),some (.int w),some (.int (z.length:Int)),x12',x13',x14'] H'):qz5 K D [some (.ref sc),some (.ref d),some (.str (gd nm 11)),some (.ref tb),some (.ref L),some (.ref M),some (.str z),some (.bl ran),x8,some (.int nn),some (.int w),some (.int (z.length:Int)),x12,x13,x14] H:=by
 obtain⟨zl,zle⟩:=I.zl
 have ml:=I.ml
 have bnd:=I.bnd (by omega)
 have hl1:=I.s.len.2
 have hne:hosts≠[]:=fun e=>by rw[e] at hl1;simp at hl1
 have h8:∀ x∈nm,x.length<=8:=fun x hx=>(nok x hx).n8
 have g1:=h8 _ (W6 (l:=nm) (i:=1) (by omega))
 have g11:=h8 _ (W6 (l:=nm) (i:=11) (by omega))
 have gl:∀ j,(lvl nm j).length<=8:=fun j=>h8 _ (W6 (by omega))
 have nokl:∀ j,yl2 (lvl nm j):=fun j=>nok _ (W6 (by omega))
 obtain⟨ws,w0,eh⟩:∃ ws w0,hosts=ws++[w0]:=by
  rcases List.eq_nil_or_concat hosts with e|⟨ws,w0,e⟩
  ·exact absurd e hne
  ·exact⟨ws,w0,by rw[e,List.concat_eq_append]⟩
 by_cases c1:w<3/\ran=false
 ·refine Ad6 a c1.1 c1.2 (by omega) (by omega) bnd hne fun r t ks l H' ro a'=>?_
  subst eh
  rw[List.dropLast_concat,List.getLastD_concat] at a'
  obtain⟨k1,k2⟩:=zx1 F hN (by omega) (i:=z.length) (g:=r) (t:=t) I.s hh20
  rw[ro.l,I.m] at k2
  exact q _ _ _ _ _ (ps++[.rn r t]) _ _ _ _ a' (I.snoc bk (.rn r t) ro.ok (by rw[Pq.len];exact ro.rl) (fun r' t' e=>by cases e;exact ro.tl) (by rw[PySem.Str.cps_append,Array.toList_append];rfl) (fun _=>c1.2) k1 k2) (by simp) (by simpa using hh20)
 refine Ad5 c1 ?_
 by_cases c3:w<3
 ·have hr:ran=true:=by
   cases hr:ran with
   | true=>rfl
   | false=>exact absurd ⟨c3,hr⟩ c1
  subst hr
  exact t9a c3 (q _ _ _ _ _ ps _ _ _ _ a I (by omega) hh20)
 by_cases e3:w=3
 ·refine t9c a e3 hd h12 h8 (by omega) (by omega) fun g rule H' hgr a'=>?_
  rcases hgr with⟨rfl,rfl⟩|⟨rfl,rfl⟩|⟨rfl,rfl⟩
  ·have hs:L9 rs (some (gd nm 11))=none:=F.nosort (by omega) fun h=>by
    obtain⟨j,hj,e⟩:=List.mem_iff_getElem.mp h
    rw[List.getElem_take] at e
    rw[List.length_take] at hj
    have e2:gd nm j=gd nm 11:=by rw[<-e];unfold gd;rw[List.getD_eq_getElem?_getD,List.getElem?_eq_getElem (by omega)];rfl
    have:=zd7 hN.nd (by omega) (by omega) e2
    omega
   have es:stQ rs (fun _=>0) z.length (pq rs (fun _=>0) 0 ps st0) (.op (gd nm 11))=qb7 (pq rs (fun _=>0) 0 ps st0) z.length (opn (gd nm 11)) "strange":=yd7 hs
   exact q _ _ _ _ _ (ps++[.op (gd nm 11)]) _ _ _ _ a' (I.snoc bk (.op (gd nm 11)) (nok _ (W6 (by omega))) (by rw[Pq.len];show(gd nm 11).length+2<=11;omega) (fun r t e=>by cases e) (by rw[PySem.Str.cps_append,Array.toList_append,xv8];rfl) (fun e=>by cases e) (by rw[es];exact I.s.drop) (by rw[es];show _++[_]=_;rw[I.m])) (by simp) hh20
  ·have es:stQ rs (fun _=>0) z.length (pq rs (fun _=>0) 0 ps st0) (.cl (gd nm 11))=qb7 (pq rs (fun _=>0) 0 ps st0) z.length (cls (gd nm 11)) "stray":=xj2 I.s (I.s.no hN (by omega) (by omega) (by omega) (by omega))
   exact q _ _ _ _ _ (ps++[.cl (gd nm 11)]) _ _ _ _ a' (I.snoc bk (.cl (gd nm 11)) (nok _ (W6 (by omega))) (by rw[Pq.len];show(gd nm 11).length+3<=11;omega) (fun r t e=>by cases e) (by rw[PySem.Str.cps_append,Array.toList_append,wk5];rfl) (fun e=>by cases e) (by rw[es];exact I.s.drop) (by rw[es];show _++[_]=_;rw[I.m])) (by simp) hh20
  ·have es:stQ rs (fun _=>0) z.length (pq rs (fun _=>0) 0 ps st0) (.cl (gd nm 1))=qb7 (pq rs (fun _=>0) 0 ps st0) z.length (cls (gd nm 1)) "stray":=xj2 I.s (I.s.no hN (by omega) (by omega) (by omega) (by omega))
   exact q _ _ _ _ _ (ps++[.cl (gd nm 1)]) _ _ _ _ a' (I.snoc bk (.cl (gd nm 1)) (nok _ (W6 (by omega))) (by rw[Pq.len];show(gd nm 1).length+3<=11;omega) (fun r t e=>by cases e) (by rw[PySem.Str.cps_append,Array.toList_append,wk5];rfl) (fun e=>by cases e) (by rw[es];exact I.s.drop) (by rw[es];show _++[_]=_;rw[I.m])) (by simp) hh20
 by_cases e4:w=4
 ·refine t9d a e4 hd h12 h8 (by omega) bnd hne fun H' a'=>?_
  subst eh
  rw[List.dropLast_concat,List.getLastD_concat] at a'
  obtain⟨k1,k2⟩:=zo3 F hN (by omega) (rk:=fun _=>0) (i:=z.length) (g:=opn (gd nm 1)) I.s hh20
  rw[I.m] at k2
  exact q _ _ _ _ _ (ps++[.op (gd nm 1)]) _ _ _ _ a' (I.snoc bk (.op (gd nm 1)) (nok _ (W6 (by omega))) (by rw[Pq.len];show(gd nm 1).length+2<=11;omega) (fun r t e=>by cases e) (by simp only[PySem.Str.cps_append,Array.toList_append,List.append_assoc];rfl) (fun e=>by cases e) k1 k2) (by simp) (by simpa using hh20)
 refine t9b e3 e4 (t8b (by omega) hw8 (fun Q2 hQ=>?_) (by omega))
 refine⟨H0,d,L,M,as,hosts,ms,nm,nn,z.length,rfl,a,hd,by omega,h8,hl1,hh20,by omega,fun ws u w e=>bnd u (by rw[e];simp),fun h19 as' H' a'=>?_,fun ws u w e as' H' a'=>?_,fun h1 H' a'=>?_⟩
 ·obtain⟨k1,k2⟩:=Ac6 F hN (by omega) (rk:=fun _=>0) (i:=z.length) (g:=opn (lvl nm (hosts.length-1))) I.s hh20
  rw[I.m] at k2
  have:=gl (hosts.length-1)
  exact hQ _ H' (by rw[yq4];omega) (q _ _ _ _ _ (ps++[.op (lvl nm (hosts.length-1))]) _ _ _ _ a' (I.snoc bk (.op (lvl nm (hosts.length-1))) (nokl _) (by rw[Pq.len];show(lvl nm (hosts.length-1)).length+2<=11;omega) (fun r t e=>by cases e) (by rw[PySem.Str.cps_append,Array.toList_append,xv8];rfl) (fun e=>by cases e) k1 k2) (by simp) (by simp;omega))
 ·subst e
  obtain⟨k1,k2⟩:=zg9 F hN (by omega) (rk:=fun _=>0) (i:=z.length) (g:=cls (lvl nm ws.length)) I.s
  rw[I.m] at k2
  have:=gl ws.length
  exact hQ _ H' (by rw[wk4];omega) (q _ _ _ _ _ (ps++[.cl (lvl nm ws.length)]) _ _ _ _ a' (I.snoc bk (.cl (lvl nm ws.length)) (nokl _) (by rw[Pq.len];show(lvl nm ws.length).length+3<=11;omega) (fun r t e=>by cases e) (by rw[PySem.Str.cps_append,Array.toList_append,wk5];rfl) (fun e=>by cases e) k1 k2) (by simp) (by simp at hh20 ⊢;omega))
 ·have hno:gd nm 0∉L6 (pq rs (fun _=>0) 0 ps st0):=by rw[I.s.n,h1];simp
  have g0:=h8 _ (W6 (l:=nm) (i:=0) (by omega))
  have es:stQ rs (fun _=>0) z.length (pq rs (fun _=>0) 0 ps st0) (.cl (gd nm 0))=qb7 (pq rs (fun _=>0) 0 ps st0) z.length (cls (gd nm 0)) "stray":=xj2 I.s hno
  exact hQ _ H' (by rw[wk4];omega) (q _ _ _ _ _ (ps++[.cl (gd nm 0)]) _ _ _ _ a' (I.snoc bk (.cl (gd nm 0)) (nok _ (W6 (by omega))) (by rw[Pq.len];show(gd nm 0).length+3<=11;omega) (fun r t e=>by cases e) (by rw[PySem.Str.cps_append,Array.toList_append,wk5];rfl) (fun e=>by cases e) (by rw[es];exact I.s.drop) (by rw[es];show _++[_]=_;rw[I.m])) (by simp) hh20)
end
def rs1(nm:List Str):List Row:=[⟨gd nm 0, "plain","",[],[]⟩,⟨gd nm 1, "bare","",[],[]⟩,⟨gd nm 2, "plain","",[],[]⟩]
theorem fl1(nm:List Str):FlB nm 3 yl4 (rs1 nm):=by
 refine⟨rfl,fun k r h=>?_,fun k hk=>?_⟩
 ·match k,h with
  | 0,h=>cases h;rfl
  | 1,h=>cases h;rfl
  | 2,h=>cases h;rfl
  | k+3,h=>simp[rs1] at h
 ·match k,hk with
  | 0,_=>exact⟨by unfold xh0 yl4;decide,by decide⟩
  | 1,_=>exact⟨by unfold xh0 yl4;decide,by decide⟩
  | 2,_=>exact⟨by unfold xh0 yl4;decide,by decide⟩
abbrev ye3(K:Fg):TS :=
 (C0 (E9 (tOp (rI (fun _ j=>0<j) fun i j=>.int (i % j)) (A3 9) (tC (.int 8))) (B2 10))
 (C0 (E9 (tCB (O6 K) (A2 (A3 6) B0)) (B2 11))
 (qz5 K)))
abbrev ye4(K:Fg):TS :=
 (C0 (E9 (E2 (X5 K) [] E0 (A2 (A3 8) (A2 (tC (.int 3)) B0))) (B2 9))
 (ye3 K))
abbrev ye5(K:Fg):TS :=
 (E9 (tOp (J0 K) (A3 6) (E2 (Z8 K) [] E0 (A2 (A3 1) (A2 (A3 4) B0)))) (B2 6))
abbrev ye6(K:Fg):TS :=
 (M0 (tOp (qg1 K) (E2 (qq6 K) [] E0 (A2 (A3 3) (A2 (A3 6) B0))) (M2 (A2 (M2 (A2 (tC (.str "")) (A2 (tCB (qp1 K) (A2 (tOp (M7 K) (A3 4) (tC (.int 0))) B0)) B0))) (A2 (A3 5) B0)))))
abbrev zh2(K:Fg):TS :=
 (C0 (wa8 (L0 (tOp wv4 (tCB (O6 K) (A2 (A3 4) B0)) (tC (.int 1))))
 (ye5 K))
 (ye6 K))
abbrev zh3(K:Fg):TS :=
 (C0 (qx9 (wf8 K (tSl (wq8 K) (A3 0) (Z4 (tC (.int 3))) (Z4 (tC (.int 63))))) (B2 8)
 (ye4 K))
 (zh2 K))
abbrev ye7(K:Fg):TS :=
 (C0 (E9 (tC (.str "")) (B2 6))
 (C0 (E9 (tC (.bl false)) (B2 7))
 (zh3 K)))
abbrev ye8(K:Fg):TS :=
 (C0 (E9 (qd5 (A2 (qd5 B0) B0)) (B2 4))
 (C0 (E9 (qd5 B0) (B2 5))
 (ye7 K)))
abbrev zh4(K:Fg):TS :=
 (C0 (E9 (M2 (A2 (M2 (A2 (tOp (M7 K) (A3 1) (tC (.int 0))) (A2 (tC (.str "plain")) (A2 (tC (.str "")) (A2 (M2 B0) (A2 (M2 B0) B0)))))) (A2 (M2 (A2 (tOp (M7 K) (A3 1) (tC (.int 1))) (A2 (tC (.str "bare")) (A2 (tC (.str "")) (A2 (M2 B0) (A2 (M2 B0) B0)))))) (A2 (M2 (A2 (tOp (M7 K) (A3 1) (tC (.int 2))) (A2 (tC (.str "plain")) (A2 (tC (.str "")) (A2 (M2 B0) (A2 (M2 B0) B0)))))) B0)))) (B2 3))
 (ye8 K))
def wy6(K:Fg):Sp:=fun vs H Q _=>∃ (a:Addr) (ns:List Int),vs=[.ref a]/\SqL K H a (ns.map V.int)/\ns.length<=63/\∀ H',Q (.bl true) H'
def yr3(K:Fg):TS :=
 (C0 (E9 (E2 (ql9 K) [] E0 (A2 (E2 (qe9 K) [] E0 (A2 (A3 0) (A2 (tC (.int 0)) B0))) B0)) (B2 1))
 (C0 (E9 (tOp (M7 K) (A3 1) (tC (.int 11))) (B2 2))
 (zh4 K)))
theorem zx4(h:wy6 K vs H Q E):yr3 K {nx:=fun _ H'=>Q .non H',rt:=Q} (E8 ["_law_script","_law_names_here","_law_strange","_law_book","_law_heaps","_law_mends","_law_text","_law_ran","_law_cell","_law_number","_law_way","_law_start","_law_raw","_law_told","_law_lone"] vs) H:=by
 obtain⟨sc,ns,rfl,hS,hn63,q⟩:=h
 show yr3 K _ [some (.ref sc),none,none,none,none,none,none,none,none,none,none,none,none,none,none] H
 unfold yr3
 lk
 refine⟨sc,ns,0,rfl,hS,by decide,fun c0=>?_⟩
 lk
 refine⟨c0,rfl,fun d nm H1 s1 hd0 hd hnl hN=>?_⟩
 have h3:3<=nm.length:=by omega
 have nok:∀ x∈nm,yl2 x:=fun x hm=>by
  refine⟨?_,hN.le _ hm,hN.lt _ hm⟩
  have h0:=hN.ne _ hm
  have:x.length≠0:=fun e=>h0 ((Y2 _ _).mpr (by
   have e2:=qf6 x
   rw[e] at e2
   rw[List.eq_nil_of_length_eq_zero e2];rfl))
  omega
 have F:=fl1 nm
 have bk:=F.bok hN h3 (by omega) (by omega)
 lk
 refine O0 (SqL.of hd) (qh6 (i:=11) (by omega)) ?_
 lk
 refine O0 (SqL.of hd) (qh6 (i:=0) (by omega)) ?_
 lk
 refine⟨E1 (by z_go),fun a1 ha1=>?_⟩
 have ta1:=A7.new ha1 (.tup [])
 have ea1:(upd H1 a1 (.tup [])) a1=_:=A6
 generalize upd H1 a1 (.tup [])=aA at *
 lk
 refine⟨E1 (by z_go),fun a2 ha2=>?_⟩
 have ta2:=A7.new ha2 (.tup [])
 have ea2:(upd aA a2 (.tup [])) a2=_:=A6
 generalize upd aA a2 (.tup [])=aB at *
 lk
 refine⟨E1 (by z_go),fun a3 ha3=>?_⟩
 have ta3:=A7.new ha3 (.tup [.str (gd nm 0),.str "plain",.str "",.ref a1,.ref a2])
 have dra:Dv K _ (Row.da ⟨gd nm 0, "plain","",[],[]⟩) (.ref a3):=C7.mpr ⟨a3,_,rfl,SqT.of (A6 (H:=aB) (a:=a3) (o:=(.tup [.str (gd nm 0),.str "plain",.str "",.ref a1,.ref a2]))),B4 (E6.mpr rfl) (B4 (E6.mpr rfl) (B4 (E6.mpr rfl) (B4 (C7.mpr ⟨a1,_,rfl,SqT.of (ta3 _ _ (ta2 _ _ ea1)),qe4.mpr rfl⟩) (B4 (C7.mpr ⟨a2,_,rfl,SqT.of (ta3 _ _ ea2),qe4.mpr rfl⟩) J7))))⟩
 generalize upd aB a3 (.tup [.str (gd nm 0),.str "plain",.str "",.ref a1,.ref a2])=G3 at *
 have ta:=A7.tr (A7.tr ta1 ta2) ta3
 have hd3:=ta _ _ hd
 lk
 refine O0 (SqL.of hd3) (qh6 (i:=1) (by omega)) ?_
 lk
 refine⟨E1 (by z_go),fun b1 hb1=>?_⟩
 have tb1:=A7.new hb1 (.tup [])
 have eb1:(upd G3 b1 (.tup [])) b1=_:=A6
 generalize upd G3 b1 (.tup [])=bA at *
 lk
 refine⟨E1 (by z_go),fun b2 hb2=>?_⟩
 have tb2:=A7.new hb2 (.tup [])
 have eb2:(upd bA b2 (.tup [])) b2=_:=A6
 generalize upd bA b2 (.tup [])=bB at *
 lk
 refine⟨E1 (by z_go),fun b3 hb3=>?_⟩
 have tb3:=A7.new hb3 (.tup [.str (gd nm 1),.str "bare",.str "",.ref b1,.ref b2])
 have drb:Dv K _ (Row.da ⟨gd nm 1, "bare","",[],[]⟩) (.ref b3):=C7.mpr ⟨b3,_,rfl,SqT.of (A6 (H:=bB) (a:=b3) (o:=(.tup [.str (gd nm 1),.str "bare",.str "",.ref b1,.ref b2]))),B4 (E6.mpr rfl) (B4 (E6.mpr rfl) (B4 (E6.mpr rfl) (B4 (C7.mpr ⟨b1,_,rfl,SqT.of (tb3 _ _ (tb2 _ _ eb1)),qe4.mpr rfl⟩) (B4 (C7.mpr ⟨b2,_,rfl,SqT.of (tb3 _ _ eb2),qe4.mpr rfl⟩) J7))))⟩
 generalize upd bB b3 (.tup [.str (gd nm 1),.str "bare",.str "",.ref b1,.ref b2])=G6 at *
 have tb:=A7.tr (A7.tr tb1 tb2) tb3
 have hd6:=tb _ _ hd3
 lk
 refine O0 (SqL.of hd6) (qh6 (i:=2) (by omega)) ?_
 lk
 refine⟨E1 (by z_go),fun c1 hc1=>?_⟩
 have tc1:=A7.new hc1 (.tup [])
 have ec1:(upd G6 c1 (.tup [])) c1=_:=A6
 generalize upd G6 c1 (.tup [])=cA at *
 lk
 refine⟨E1 (by z_go),fun c2 hc2=>?_⟩
 have tc2:=A7.new hc2 (.tup [])
 have ec2:(upd cA c2 (.tup [])) c2=_:=A6
 generalize upd cA c2 (.tup [])=cB at *
 lk
 refine⟨E1 (by z_go),fun c3 hc3=>?_⟩
 have tc3:=A7.new hc3 (.tup [.str (gd nm 2),.str "plain",.str "",.ref c1,.ref c2])
 have drc:Dv K _ (Row.da ⟨gd nm 2, "plain","",[],[]⟩) (.ref c3):=C7.mpr ⟨c3,_,rfl,SqT.of (A6 (H:=cB) (a:=c3) (o:=(.tup [.str (gd nm 2),.str "plain",.str "",.ref c1,.ref c2]))),B4 (E6.mpr rfl) (B4 (E6.mpr rfl) (B4 (E6.mpr rfl) (B4 (C7.mpr ⟨c1,_,rfl,SqT.of (tc3 _ _ (tc2 _ _ ec1)),qe4.mpr rfl⟩) (B4 (C7.mpr ⟨c2,_,rfl,SqT.of (tc3 _ _ ec2),qe4.mpr rfl⟩) J7))))⟩
 generalize upd cB c3 (.tup [.str (gd nm 2),.str "plain",.str "",.ref c1,.ref c2])=G9 at *
 have tc:=A7.tr (A7.tr tc1 tc2) tc3
 have hd9':=tc _ _ hd6
 lk
 refine⟨E1 (by z_go),fun tb' htb=>?_⟩
 have w4:=A7.new htb (.tup [.ref a3,.ref b3,.ref c3])
 have hbk:BkO K (upd G9 tb' (.tup [.ref a3,.ref b3,.ref c3])) (.ref tb') (rs1 nm):=⟨tb',_,rfl,SqT.of A6,B4 (Dv.same (A7.tr (A7.tr tb tc) w4) _ _ dra) (B4 (Dv.same (A7.tr tc w4) _ _ drb) (B4 (Dv.same w4 _ _ drc) J7))⟩
 have hd9:=w4 _ _ hd9'
 have s9:=A7.tr (A7.tr (A7.tr (A7.tr s1 ta) tb) tc) w4
 generalize upd G9 tb' (.tup [.ref a3,.ref b3,.ref c3])=H2 at *
 clear tb
 obtain⟨tb,etb⟩:∃ tb,tb=tb':=⟨_,rfl⟩
 rw[<-etb] at hbk ⊢
 show ye8 K _ _ _
 lk
 refine⟨E1 (by z_go),fun x0 hx0=>?_⟩
 have y0:=A7.new hx0 (.lst [])
 have ex0:(upd H2 x0 (.lst [])) x0=_:=A6
 lk
 refine⟨E1 (by z_go),fun L hL=>?_⟩
 have y1:=A7.new hL (.lst [.ref x0])
 have hL2:H2 L=none:=A7.grow y0 _ hL
 have nxL:x0≠L:=fun e=>by rw[<-e,ex0] at hL;cases hL
 have eL:(upd (upd H2 x0 (.lst [])) L (.lst [.ref x0])) L=_:=A6
 have ex1:=y1 _ _ ex0
 have y01:=A7.tr y0 y1
 generalize upd (upd H2 x0 (.lst [])) L (.lst [.ref x0])=H3' at *
 lk
 refine⟨E1 (by z_go),fun M hM=>?_⟩
 have y2:=A7.new hM (.lst [])
 have eM:(upd H3' M (.lst [])) M=_:=A6
 have hM2:H2 M=none:=A7.grow y01 _ hM
 have nML:M≠L:=fun e=>by rw[e,eL] at hM;cases hM
 have nMx:M≠x0:=fun e=>by rw[e,ex1] at hM;cases hM
 have y12:=A7.tr y01 y2
 have a0:A1 K H2 (upd H3' M (.lst [])) L M [x0] [[]] []:=⟨y12,⟨y2 _ _ eL,.cons (us:=[]) (y2 _ _ ex1) (by rw[Tr.das];exact J7) .nil,by simp;exact fun e=>nxL e.symm⟩,⟨[],eM,J7⟩,by simp;exact⟨nML,nMx⟩,fun z hz=>by
  simp only[List.mem_cons,List.not_mem_nil,or_false] at hz
  rcases hz with rfl|rfl|rfl
  ·exact hM2
  ·exact hL2
  ·exact hx0⟩
 generalize upd H3' M (.lst [])=H3 at *
 show ye7 K _ _ _
 lk
 obtain⟨cs,ecs,hcs⟩:=yw3 (f:=V.int) ns (some 3) (some 63)
 refine yo2 ((A7.tr s9 y12).sqL hS) fun q1 hq1=>?_
 rw[ecs]
 have v1:=A7.new hq1 (.lst (cs.map V.int))
 have eq1:(upd H3 q1 (.lst (cs.map V.int))) q1=_:=A6
 have a1':=a0.same v1
 have nq1:q1∉[M,L,x0]:=fun h=>by
  have:xg7 H3 q1:=by
   rcases List.mem_cons.mp h with h|h
   ·obtain⟨us,m1,_⟩:=a0.m;rw[h];exact .inl ⟨_,m1⟩
   ·exact a0.h.mut q1 h
  exact this.some hq1
 obtain⟨H9,eH9⟩:∃ H9,H9=upd H3 q1 (.lst (cs.map V.int)):=⟨_,rfl⟩
 rw[<-eH9] at eq1 a1' ⊢
 obtain⟨Hb,eHb⟩:∃ Hb,Hb=rml H9 [M,L,x0]:=⟨_,rfl⟩
 have sb9:A7 Hb H9:=by rw[eHb];exact zg3
 have s3b:A7 H2 Hb:=by rw[eHb];exact A7.rml a1'.s a1'.nw
 have ab:A1 K Hb H9 L M [x0] [[]] []:=⟨sb9,a1'.h,a1'.m,a1'.nm,fun y hy=>by rw[eHb];exact zg2 hy⟩
 have eqb:Hb q1=some (.lst (cs.map V.int)):=by rw[eHb,xv7 nq1];exact eq1
 have hdB:=s3b _ _ hd9
 have hbkB:=hbk.same s3b
 refine wf9 (SqL.of eq1) (fun i σ H'=>∃ as z ran hosts ms ps x8 x9 x10 x11 x12 x13 x14,σ=[some (.ref sc),some (.ref d),some (.str (gd nm 11)),some (.ref tb),some (.ref L),some (.ref M),some (.str z),some (.bl ran),x8,x9,x10,x11,x12,x13,x14]/\A1 K Hb H' L M as hosts ms/\I1 nm (rs1 nm) ps z hosts ms ran/\ps.length<=i/\hosts.length<=20) ?_ ?_ ?_ ?_
 ·refine⟨[x0], "",false,[[]],[],[],none,none,none,none,none,none,none,rfl,ab,?_,by simp,by simp⟩
  exact⟨rfl,fun x hx=>(by cases hx),trivial,fun z=>(by cases z),⟨List.cons_ne_nil _ _,rfl,rfl,fun b hb=>by rw[List.mem_singleton.mp hb];rfl⟩,rfl,(bg0 (rs1 nm)).mono (by simp) (by simp) (by simp) (by simp) (by simp)⟩
 ·rintro i σ H' _ ⟨as,z,ran,hosts,ms,ps,x8,x9,x10,x11,x12,x13,x14,rfl,a,_⟩
  exact SqL.of (a.s _ _ eqb)
 ·rintro i v σ H' hi ⟨as,z,ran,hosts,ms,ps,x8,x9,x10,x11,x12,x13,x14,rfl,a,I,hpl,hhl⟩
  have hi63:i<63:=by
   rcases Nat.lt_or_ge i (cs.map V.int).length with h|h
   ·rw[List.length_map] at h;omega
   ·rw[List.getElem?_eq_none_iff.mpr h] at hi;cases hi
  rw[List.getElem?_map] at hi
  obtain⟨y,hy,rfl⟩:=Option.map_eq_some_iff.mp hi
  obtain⟨zl,zle⟩:=I.zl
  refine L3 ?_
  show ye4 K _ [some (.ref sc),some (.ref d),some (.str (gd nm 11)),some (.ref tb),some (.ref L),some (.ref M),some (.str z),some (.bl ran),some (.int y),x9,x10,x11,x12,x13,x14] _
  lk
  refine⟨y,3,rfl,by decide,by decide,fun nn hn0=>?_⟩
  refine L3 ?_
  show ye3 K _ [some (.ref sc),some (.ref d),some (.str (gd nm 11)),some (.ref tb),some (.ref L),some (.ref M),some (.str z),some (.bl ran),some (.int y),some (.int nn),x10,x11,x12,x13,x14] _
  refine qg3 ?_
  refine yh9 ?_
  refine xz4 ?_
  refine' wg0 ?ev ?_
  case ev=>exact rfl
  refine za0 ?_
  refine yn8 (by decide) ?_
  refine L3 ?_
  have hw0:=Int.emod_nonneg nn (show(8:Int)≠0 by decide)
  have hw8:=Int.emod_lt_of_pos nn (show(0:Int)<8 by decide)
  obtain⟨w,ew⟩:∃ w,w=nn % 8:=⟨_,rfl⟩
  rw[<-ew] at hw0 hw8 ⊢
  show C0 (E9 (tCB (O6 K) (A2 (A3 6) B0)) (B2 11)) (qz5 K) _ [some (.ref sc),some (.ref d),some (.str (gd nm 11)),some (.ref tb),some (.ref L),some (.ref M),some (.str z),some (.bl ran),some (.int y),some (.int nn),some (.int w),x11,x12,x13,x14] _
  refine qg3 ?_
  refine yh9 ?_
  refine zp3 ?_
  refine yn7 ?_
  refine' wg0 ?ev2 ?_
  case ev2=>exact rfl
  refine za4 ?_
  refine xf6 (by rw[sizeLine_eq];omega) ?_
  refine L3 ?_
  show qz5 K _ [some (.ref sc),some (.ref d),some (.str (gd nm 11)),some (.ref tb),some (.ref L),some (.ref M),some (.str z),some (.bl ran),some (.int y),some (.int nn),some (.int w),some (.int (z.length:Int)),x12,x13,x14] _
  refine zx3 F hN bk nok a I hdB hnl (by omega) hhl hw0 hw8 fun as' z' ran' hosts' ms' ps' x12' x13' x14' H'' a' I' l1 l2=>?_
  exact⟨as',z',ran',hosts',ms',ps',_,_,_,_,_,_,_,rfl,a',I',by omega,l2⟩
 rintro σ H' ⟨as,z,ran,hosts,ms,ps,x8,x9,x10,x11,x12,x13,x14,rfl,a,I,hpl,hhl⟩
 rw[List.length_map] at hpl
 show C0 _ _ _ [some (.ref sc),some (.ref d),some (.str (gd nm 11)),some (.ref tb),some (.ref L),some (.ref M),some (.str z),some (.bl ran),x8,x9,x10,x11,x12,x13,x14] _
 refine qg3 ?_
 refine⟨fun m σ H'=>∃ as' z' hosts' ps' ran',m=hosts'.length-1/\σ=[some (.ref sc),some (.ref d),some (.str (gd nm 11)),some (.ref tb),some (.ref L),some (.ref M),some (.str z'),some (.bl ran),x8,x9,x10,x11,x12,x13,x14]/\A1 K Hb H' L M as' hosts' ms/\I1 nm (rs1 nm) ps' z' hosts' ms ran'/\ps'.length+hosts'.length<=83,⟨_,as,z,hosts,ps,ran,rfl,rfl,a,I,by omega⟩,?_⟩
 clear a I
 rintro m σ H' ⟨as',z',hosts',ps',ran',rfl,rfl,a,I,hpl'⟩
 obtain⟨zl,zle⟩:=I.zl
 have hal:=a.hlen
 have hl1:=I.s.len.2
 lk
 refine Q3 (.inl (SqL.of a.h.l)) ?_
 lk
 by_cases h2:2<=hosts'.length
 ·rw [decide_eq_true (show((as'.map V.ref).length:Int) > 1 by rw[List.length_map,hal];omega)]
  x_go
  obtain⟨ws,u,w,eh⟩:∃ ws u w,hosts'=ws++[u,w]:=by
   rcases List.eq_nil_or_concat hosts' with e|⟨l,w,e⟩
   ·rw[e] at h2;simp at h2
   ·rw[List.concat_eq_append] at e
    rcases List.eq_nil_or_concat l with e2|⟨l2,u,e2⟩
    ·rw[e,e2] at h2;simp at h2
    ·rw[List.concat_eq_append] at e2
     exact⟨l2,u,w,by rw[e,e2,List.append_assoc];rfl⟩
  have bnd:=I.bnd (by omega)
  obtain⟨b1,b2⟩:=bnd u (by rw[eh];simp)
  subst eh
  have hll:(ws++[u,w]).length=ws.length+2:=by simp
  refine⟨fun σ' H''=>∃ as'' z'' ps'' ran'',σ'=[some (.ref sc),some (.ref d),some (.str (gd nm 11)),some (.ref tb),some (.ref L),some (.ref M),some (.str z''),some (.bl ran),x8,x9,x10,x11,x12,x13,x14]/\A1 K Hb H'' L M as'' (ws++[u++[Tr.nd (lvl nm ws.length) w]]) ms/\I1 nm (rs1 nm) ps'' z'' (ws++[u++[Tr.nd (lvl nm ws.length) w]]) ms ran''/\ps''.length<=ps'.length+1,?_,?_⟩
  ·rintro σ' H'' ⟨as'',z'',ps'',ran'',rfl,a'',I'',hl''⟩
   refine⟨_,?_,as'',z'',_,ps'',ran'',rfl,rfl,a'',I'',?_⟩
   ·rw[hll,List.length_append,List.length_singleton];omega
   ·rw[hll] at hpl'
    rw[List.length_append,List.length_singleton];omega
  show ye5 K _ _ _
  lk
  refine⟨Hb,d,L,M,as',ws,u,w,ms,nm,rfl,a,hdB,h3,fun x hx=>(nok x hx).n8,b1,b2,fun as'' H'' a''=>?_⟩
  have gl:(lvl nm ws.length).length<=8:=(nok _ (W6 (by omega))).n8
  refine U2 (by rw[sizeLine_eq,wk4];omega) ?_
  refine L3 ?_
  obtain⟨k1,k2⟩:=zg9 F hN h3 (rk:=fun _=>0) (i:=z'.length) (g:=cls (lvl nm ws.length)) I.s
  rw[I.m] at k2
  exact⟨as'',_,ps'++[.cl (lvl nm ws.length)],_,rfl,a'',I.snoc bk (.cl (lvl nm ws.length)) (nok _ (W6 (by omega))) (by rw[Pq.len];show(lvl nm ws.length).length+3<=11;omega) (fun r t e=>by cases e) (by rw[PySem.Str.cps_append,Array.toList_append,wk5];rfl) (fun e=>by cases e) k1 k2,by simp⟩
 rw[decide_eq_false (show ¬((as'.map V.ref).length:Int) > 1 by rw[List.length_map,hal];omega)]
 k_go
 obtain⟨w,ew⟩:∃ w,hosts'=[w]:=by
  match hosts',hl1,h2 with
  | [w],_,_=>exact⟨w,rfl⟩
  | _::_::_,_,h=>simp at h
 subst ew
 show ye6 K _ _ _
 obtain⟨x,asx,us,eas,hx,hxd⟩:=a.h.first
 have hL6:=a.h.l
 rw[eas] at hL6
 obtain⟨ms6,q16,q26⟩:=a.m
 lk
 refine⟨.ref tb,z',rs1 nm,fun _=>0,rfl,hbkB.same a.s,bk,by omega,fun v1 p9 q9 us9 H9' hp9 hv9 hq9 hu9 s9' _=>?_⟩
 have er:=zo0 (rs:=rs1 nm) (rk:=fun _=>0) I.z (fun x hx=>(I.ok x hx).1) I.ap
 obtain⟨e1',e2'⟩:=zx2 (rs:=rs1 nm) I.s (k:=(z'.length:Int))
 have erd:rdS (rs1 nm) (fun _=>0) z'=pq (rs1 nm) (fun _=>0) 0 ps' st0:=by unfold rdS;rw[er];exact e1'
 have hhg:=zn8 (rs:=rs1 nm) (rk:=fun _=>0) (z:=z') bk
 rw[erd,e2'] at hhg hv9
 rw[erd,I.m] at hu9
 lk
 refine O0 (SqL.of (s9' _ _ hL6)) (v:=.ref x) zf0 ?_
 lk
 refine⟨_,_,rfl,.inl ⟨SqL.of (s9' _ _ hx),fun l hl=>?_⟩⟩
 lk
 refine⟨E1 (by z_go),fun p10 hp10=>?_⟩
 lk
 refine⟨E1 (by z_go),fun p11 hp11=>?_⟩
 have z1:=A7.new hl (.tup us)
 have z2:=A7.new hp10 (.tup [.str "",.ref l])
 have z3:=A7.new hp11 (.tup [.ref p10,.ref M])
 have z13:=A7.tr (A7.tr z1 z2) z3
 have z913:=A7.tr s9' z13
 have dt:Dv K _ (Tr.nd "" w).da (.ref p10):=yb4 (SqT.of (z3 _ _ (A6 (H:=upd H9' l (.tup us)) (a:=p10) (o:=.tup [.str "",.ref l])))) (z3.sqT (z2.sqT (SqT.of A6))) (Dvs.same z913 _ _ hxd)
 lk
 refine zn7 (t:=Tr.nd "" w) hhg (C7.mpr ⟨p9,_,rfl,z13.sqT hp9,B4 (Dv.same z13 _ _ hv9) (B4 (qu1.mpr ⟨q9,us9,rfl,SqL.of (z13 _ _ hq9),Dvs.same z13 _ _ hu9⟩) J7)⟩) (C7.mpr ⟨p11,_,rfl,SqT.of A6,B4 dt (B4 (qu1.mpr ⟨M,ms6,rfl,SqL.of (z913 _ _ q16),Dvs.same z913 _ _ q26⟩) J7)⟩) ?_
 exact q _
end
variable{X:Cx}{pos:Pos}{mg:Str->Option Value}{h:Heap}
section
open PyProof.Rows
set_option maxHeartbeats 0
def top(i:Nat):Stmt:=PySem.Challenge.pw_tagmend_k41_signs_and_strange_tags.main.body.getD i (.Pass ⟨0,0,0,0⟩)
def qk6(s:Stmt)(j:Nat):Stmt:=match s with
 | .ClassDef _ _ _ b _ _ _ _ _ _ _=>b.getD j (.Pass ⟨0,0,0,0⟩)
 | _=>.Pass ⟨0,0,0,0⟩
abbrev R4:Stmt:=top 8
abbrev xj5:Stmt:=top 9
abbrev wy7:Stmt:=top 10
abbrev wy8:Stmt:=top 11
abbrev wy9:Stmt:=top 12
abbrev wo9:Stmt:=top 13
abbrev wz0:Stmt:=top 14
abbrev wz1:Stmt:=top 17
abbrev ql3:Stmt:=top 18
abbrev wz2:Stmt:=top 19
abbrev qi5:Stmt:=top 21
abbrev wz3:Stmt:=top 24
abbrev wz4:Stmt:=top 25
abbrev wh5:Stmt:=top 26
abbrev xj6:Stmt:=top 27
abbrev qi6:Stmt:=top 28
abbrev qn6:Stmt:=top 29
abbrev qs2:Stmt:=top 30
abbrev wh6:Stmt:=top 31
abbrev wz5:Stmt:=top 35
abbrev wz6:Stmt:=top 36
abbrev qv8:Stmt:=top 37
abbrev wh7:Stmt:=top 41
abbrev ql4:Stmt:=top 42
abbrev wh8:Stmt:=top 43
abbrev wc6:Stmt:=top 44
abbrev wp0:Stmt:=top 45
abbrev qx4:Stmt:=top 46
abbrev qs3:Stmt:=top 47
abbrev wc7:Stmt:=top 48
abbrev wc8:Stmt:=top 49
abbrev wh9:Stmt:=top 52
abbrev wi0:Stmt:=top 53
abbrev qi7:Stmt:=top 56
abbrev qs4:Stmt:=top 57
abbrev qn7:Stmt:=top 58
abbrev qs5:Stmt:=top 60
abbrev wc9:Stmt:=top 61
abbrev qs6:Stmt:=top 62
abbrev qi8:Stmt:=top 63
abbrev wp1:Stmt:=top 64
abbrev wi1:Stmt:=top 65
abbrev wd0:Stmt:=top 66
abbrev qx5:Stmt:=top 67
abbrev wp2:Stmt:=top 68
abbrev xq7:Stmt:=top 69
abbrev qn8:Stmt:=qk6 (top 54) 0
abbrev qn9:Stmt:=qk6 (top 55) 0
abbrev qo0:Stmt:=qk6 (top 55) 1
abbrev qo1:Stmt:=qk6 (top 55) 2
abbrev qi9:Stmt:=qk6 (top 55) 3
abbrev V9:Stmt:=qk6 (top 55) 4
abbrev W0:Stmt:=qk6 (top 55) 5
abbrev qd3:Stmt:=qk6 (top 55) 6
abbrev R5:Stmt:=qk6 (top 55) 7
abbrev X0:Stmt:=qk6 (top 55) 8
abbrev U0:Stmt:=qk6 (top 55) 9
abbrev ql5:Stmt:=qk6 (top 55) 10
abbrev ql6:Stmt:=qk6 (top 55) 11
abbrev qo2:Stmt:=qk6 (top 55) 12
abbrev qj0:Stmt:=qk6 (top 55) 13
abbrev W1:Stmt:=qk6 (top 55) 14
abbrev R8:Stmt:=qk6 (top 55) 15
abbrev qd4:Stmt:=qk6 (top 55) 16
set_option genInjectivity false in
structure Fa where
 a:Addr
 d:FuncData
structure Fok(K:Fg)(mg:Str->Option Value)(x:Str)(st:Stmt)(ps:List Str)(f:Fa):Prop where
 F:Fun K x x st f.a f.d
 b:U4 K f.d ps []
 m:mg x=some (.ref f.a)
theorem zcl{CX:CXT}{k:Nat}{fa:Fa}{st:Stmt}{ps:List Str}{sp:Sp}{p:Pos}{e:Expr}{es:List Expr}{t:TA}(F:L5 X.prog X.w X.K X.mg X.base CX k fa.a fa.d ps sp)(hr:qk8 j X.A)(f:Fok X.K X.mg x st ps fa)(hx:wf3 CX X E)(ha:PA X (e::es) t)(hk:k<=j:=by walk_at "le")(hg:autoParam (Gl X x) zAr)(hdb:autoParam ((x == ("__debug__":Str))=false) zAd)(he:autoParam (starEach (e::es) X.env=(false,eval e X.env)::starEach es X.env) zAr)(hpl:autoParam ((backTo pos (starEach es X.env)).any (·.1)=false) zAr):PE X (.Call (.Name x p) (e::es) [] pos) (E2 sp [] E t):=zi3 F (hr.mono hk) hg f.m f.F.kp f.b .nil hx ha hdb he hpl
theorem zst{P:List Str}{sc:Scope}{i:Nat}{e:Expr}{pos':Pos}(S:B8 X.N P sc)(he:PE X e te)(hi:autoParam (X.N[i]?=some x) zAr)(hx:Loc X.env.scope x:=by exact Or.inl rfl)(hs:autoParam (swapsWith e (some (.Name x pos')) pos.line X.env=pure false) zAr)(hf:X.fn x=true\/X.env.scope.names.lookup x=some .local:=by walk_at "or"):PS X (.Assign [.Name x pos'] e pos) (E9 te (B2 i)):=Z3 S.nd hi hx he hs hf
set_option genInjectivity false in
structure Adr where
 za:Fa
 zb:Fa
 zc:Fa
 zd:Fa
 ze:Fa
 zf:Fa
 zh:Fa
 zi:Fa
 zj:Fa
 zk:Fa
 zm:Fa
 zn:Fa
 zo:Fa
 zp:Fa
 zr:Fa
 zt:Fa
 zu:Fa
 zv:Fa
 zw:Fa
 zx:Fa
 zy:Fa
 zz:Fa
 ya:Fa
 yb:Fa
 yc:Fa
 yd:Fa
 ye:Fa
 yf:Fa
 yg:Fa
 yh:Fa
 yi:Fa
 yj:Fa
 yk:Fa
 yl:Fa
 ym:Fa
 yn:Fa
 yo:Fa
 yp:Fa
 yq:Fa
 yr:Fa
 yt:Fa
 yu:Fa
 yw:Fa
 yx:Fa
 yy:Fa
 yz:Fa
 a_c_Branch_init:Addr
 d_c_Branch_init:FuncData
 a_c_Reader_init:Addr
 d_c_Reader_init:FuncData
 a_c_Reader_root:Addr
 d_c_Reader_root:FuncData
 a_c_Reader_read:Addr
 d_c_Reader_read:FuncData
 a_c_Reader_finish:Addr
 d_c_Reader_finish:FuncData
 a_c_Reader_read_opening:Addr
 d_c_Reader_read_opening:FuncData
 a_c_Reader_read_closing:Addr
 d_c_Reader_read_closing:FuncData
 a_c_Reader_read_run:Addr
 d_c_Reader_read_run:FuncData
 a_c_Reader_open_names:Addr
 d_c_Reader_open_names:FuncData
 a_c_Reader_is_in_frame:Addr
 d_c_Reader_is_in_frame:FuncData
 a_c_Reader_last_wall:Addr
 d_c_Reader_last_wall:FuncData
 a_c_Reader_enter:Addr
 d_c_Reader_enter:FuncData
 a_c_Reader_leave:Addr
 d_c_Reader_leave:FuncData
 a_c_Reader_drop:Addr
 d_c_Reader_drop:FuncData
 a_c_Reader_put_in:Addr
 d_c_Reader_put_in:FuncData
 a_c_Reader_close_behind:Addr
 d_c_Reader_close_behind:FuncData
 a_c_Reader_put_in_waiting:Addr
 d_c_Reader_put_in_waiting:FuncData
 a_c_Reader_add_text:Addr
 d_c_Reader_add_text:FuncData
 c_WALL_SORTS:Addr
 v_LONGEST_NAME:Value
 v_NAME:Value
 v_SORT:Value
 v_HOST:Value
 v_SHUTS:Value
 v_BARS:Value
 v_ROOT_NAME:Value
 v_MOST_OPEN:Value
 c_TOLD_FOR:Addr
 c_ESCAPED:Addr
 v_START:Value
 v_STOP:Value
 v_BLANKS:Value
 k_Branch:Addr
 k_Reader:Addr
structure Txt(K:Fg)(mg:Str->Option Value)(t:Adr):Prop where
 za:Fok K mg "has_letters_of_name" R4 ["word"] t.za
 zb:Fok K mg "row_of" xj5 ["rows","name"] t.zb
 zc:Fok K mg "sort_of" wy7 ["book","name"] t.zc
 zd:Fok K mg "is_wall" wy8 ["book","name"] t.zd
 ze:Fok K mg "host_of" wy9 ["book","name"] t.ze
 zf:Fok K mg "frame_of" wo9 ["book","name"] t.zf
 zh:Fok K mg "belongs" wz0 ["book","name","frame"] t.zh
 zi:Fok K mg "is_text" wz1 ["part"] t.zi
 zj:Fok K mg "straight_above" ql3 ["names"] t.zj
 zk:Fok K mg "near_of" wz2 ["book","names"] t.zk
 zm:Fok K mg "share_a_name" qi5 ["names","others"] t.zm
 zn:Fok K mg "closing" wz3 ["book","names","name"] t.zn
 zo:Fok K mg "opening" wz4 ["book","names","name"] t.zo
 zp:Fok K mg "hosts_for" wh5 ["book","names"] t.zp
 zr:Fok K mg "wanted" xj6 ["book","names","name"] t.zr
 zt:Fok K mg "wanted_by_guest" qi6 ["book","names","name"] t.zt
 zu:Fok K mg "kept_by_shuts" qn6 ["book","names","name"] t.zu
 zv:Fok K mg "hosts_within" qs2 ["book","name"] t.zv
 zw:Fok K mg "is_barred" wh6 ["book","kept","put"] t.zw
 zx:Fok K mg "escaped" wz5 ["text"] t.zx
 zy:Fok K mg "told_by" wz6 ["run"] t.zy
 zz:Fok K mg "lone_ones" qv8 ["run"] t.zz
 ya:Fok K mg "tokens_of" wh7 ["text"] t.ya
 yb:Fok K mg "settled_tokens" ql4 ["text","settled","searched"] t.yb
 yc:Fok K mg "tags_from" wh8 ["text","searched"] t.yc
 yd:Fok K mg "name_start" wc6 ["text","start"] t.yd
 ye:Fok K mg "tag_stop" wp0 ["text","start"] t.ye
 yf:Fok K mg "tag_between" qx4 ["text","start","stop"] t.yf
 yg:Fok K mg "runs_between" qs3 ["text","start","stop"] t.yg
 yh:Fok K mg "opening_of" wc7 ["name"] t.yh
 yi:Fok K mg "closing_of" wc8 ["name"] t.yi
 yj:Fok K mg "read_text" wh9 ["book","text"] t.yj
 yk:Fok K mg "reader_of" wi0 ["book","text"] t.yk
 yl:Fok K mg "those_that_wait" qi7 ["book","closed"] t.yl
 ym:Fok K mg "without_last" qs4 ["names","name"] t.ym
 yn:Fok K mg "may_come_anew" qn7 ["book","names","name"] t.yn
 yo:Fok K mg "_law_cell_at" qs5 ["_law_script","_law_k"] t.yo
 yp:Fok K mg "_law_mixed" wc9 ["_law_cell","_law_k"] t.yp
 yq:Fok K mg "_law_letters" qs6 ["_law_number"] t.yq
 yr:Fok K mg "_law_names" qi8 ["_law_cell"] t.yr
 yt:Fok K mg "_law_lie" wp1 ["_law_heap","_law_thing"] t.yt
 yu:Fok K mg "_law_runs" wi1 ["_law_number"] t.yu
 yw:Fok K mg "_law_signs" wd0 ["_law_mends","_law_start","_law_raw","_law_lone"] t.yw
 yx:Fok K mg "_law_closed" qx5 ["_law_names_here","_law_heaps"] t.yx
 yy:Fok K mg "_law_tag" wp2 ["_law_names_here","_law_number","_law_heaps","_law_mends","_law_start"] t.yy
 yz:Fok K mg "law" xq7 ["_law_script"] t.yz
 F_c_Branch_init:Fun K "__init__" "Branch.__init__" qn8 t.a_c_Branch_init t.d_c_Branch_init
 b_c_Branch_init:U4 K t.d_c_Branch_init ["self","name","place"] []
 m_c_Branch_init:Mk K t.k_Branch t.a_c_Branch_init
 F_c_Reader_init:Fun K "__init__" "Reader.__init__" qn9 t.a_c_Reader_init t.d_c_Reader_init
 b_c_Reader_init:U4 K t.d_c_Reader_init ["self","book"] []
 m_c_Reader_init:Mk K t.k_Reader t.a_c_Reader_init
 F_c_Reader_root:Fun K "root" "Reader.root" qo0 t.a_c_Reader_root t.d_c_Reader_root
 b_c_Reader_root:U4 K t.d_c_Reader_root ["self"] []
 m_c_Reader_root:wb0 K t.k_Reader "root" t.a_c_Reader_root
 F_c_Reader_read:Fun K "read" "Reader.read" qo1 t.a_c_Reader_read t.d_c_Reader_read
 b_c_Reader_read:U4 K t.d_c_Reader_read ["self","kind","start","signs","told"] []
 m_c_Reader_read:wb0 K t.k_Reader "read" t.a_c_Reader_read
 F_c_Reader_finish:Fun K "finish" "Reader.finish" qi9 t.a_c_Reader_finish t.d_c_Reader_finish
 b_c_Reader_finish:U4 K t.d_c_Reader_finish ["self","size"] []
 m_c_Reader_finish:wb0 K t.k_Reader "finish" t.a_c_Reader_finish
 F_c_Reader_read_opening:Fun K "read_opening" "Reader.read_opening" V9 t.a_c_Reader_read_opening t.d_c_Reader_read_opening
 b_c_Reader_read_opening:U4 K t.d_c_Reader_read_opening ["self","start","signs","name"] []
 m_c_Reader_read_opening:wb0 K t.k_Reader "read_opening" t.a_c_Reader_read_opening
 F_c_Reader_read_closing:Fun K "read_closing" "Reader.read_closing" W0 t.a_c_Reader_read_closing t.d_c_Reader_read_closing
 b_c_Reader_read_closing:U4 K t.d_c_Reader_read_closing ["self","start","signs","name"] []
 m_c_Reader_read_closing:wb0 K t.k_Reader "read_closing" t.a_c_Reader_read_closing
 F_c_Reader_read_run:Fun K "read_run" "Reader.read_run" qd3 t.a_c_Reader_read_run t.d_c_Reader_read_run
 b_c_Reader_read_run:U4 K t.d_c_Reader_read_run ["self","start","signs","told"] []
 m_c_Reader_read_run:wb0 K t.k_Reader "read_run" t.a_c_Reader_read_run
 F_c_Reader_open_names:Fun K "open_names" "Reader.open_names" R5 t.a_c_Reader_open_names t.d_c_Reader_open_names
 b_c_Reader_open_names:U4 K t.d_c_Reader_open_names ["self"] []
 m_c_Reader_open_names:wb0 K t.k_Reader "open_names" t.a_c_Reader_open_names
 F_c_Reader_is_in_frame:Fun K "is_in_frame" "Reader.is_in_frame" X0 t.a_c_Reader_is_in_frame t.d_c_Reader_is_in_frame
 b_c_Reader_is_in_frame:U4 K t.d_c_Reader_is_in_frame ["self"] []
 m_c_Reader_is_in_frame:wb0 K t.k_Reader "is_in_frame" t.a_c_Reader_is_in_frame
 F_c_Reader_last_wall:Fun K "last_wall" "Reader.last_wall" U0 t.a_c_Reader_last_wall t.d_c_Reader_last_wall
 b_c_Reader_last_wall:U4 K t.d_c_Reader_last_wall ["self"] []
 m_c_Reader_last_wall:wb0 K t.k_Reader "last_wall" t.a_c_Reader_last_wall
 F_c_Reader_enter:Fun K "enter" "Reader.enter" ql5 t.a_c_Reader_enter t.d_c_Reader_enter
 b_c_Reader_enter:U4 K t.d_c_Reader_enter ["self","name"] []
 m_c_Reader_enter:wb0 K t.k_Reader "enter" t.a_c_Reader_enter
 F_c_Reader_leave:Fun K "leave" "Reader.leave" ql6 t.a_c_Reader_leave t.d_c_Reader_leave
 b_c_Reader_leave:U4 K t.d_c_Reader_leave ["self"] []
 m_c_Reader_leave:wb0 K t.k_Reader "leave" t.a_c_Reader_leave
 F_c_Reader_drop:Fun K "drop" "Reader.drop" qo2 t.a_c_Reader_drop t.d_c_Reader_drop
 b_c_Reader_drop:U4 K t.d_c_Reader_drop ["self","start","signs","rule"] []
 m_c_Reader_drop:wb0 K t.k_Reader "drop" t.a_c_Reader_drop
 F_c_Reader_put_in:Fun K "put_in" "Reader.put_in" qj0 t.a_c_Reader_put_in t.d_c_Reader_put_in
 b_c_Reader_put_in:U4 K t.d_c_Reader_put_in ["self","name","start","rule"] []
 m_c_Reader_put_in:wb0 K t.k_Reader "put_in" t.a_c_Reader_put_in
 F_c_Reader_close_behind:Fun K "close_behind" "Reader.close_behind" W1 t.a_c_Reader_close_behind t.d_c_Reader_close_behind
 b_c_Reader_close_behind:U4 K t.d_c_Reader_close_behind ["self","kept","start","rule"] []
 m_c_Reader_close_behind:wb0 K t.k_Reader "close_behind" t.a_c_Reader_close_behind
 F_c_Reader_put_in_waiting:Fun K "put_in_waiting" "Reader.put_in_waiting" R8 t.a_c_Reader_put_in_waiting t.d_c_Reader_put_in_waiting
 b_c_Reader_put_in_waiting:U4 K t.d_c_Reader_put_in_waiting ["self","start"] []
 m_c_Reader_put_in_waiting:wb0 K t.k_Reader "put_in_waiting" t.a_c_Reader_put_in_waiting
 F_c_Reader_add_text:Fun K "add_text" "Reader.add_text" qd4 t.a_c_Reader_add_text t.d_c_Reader_add_text
 b_c_Reader_add_text:U4 K t.d_c_Reader_add_text ["self","start","signs","told"] []
 m_c_Reader_add_text:wb0 K t.k_Reader "add_text" t.a_c_Reader_add_text
 g_WALL_SORTS:mg "WALL_SORTS"=some (.ref t.c_WALL_SORTS)
 q_WALL_SORTS:∀ H:Hp,SqT K H t.c_WALL_SORTS [.str "room",.str "frame"]
 g_LONGEST_NAME:mg "LONGEST_NAME"=some t.v_LONGEST_NAME/\L4 (.int 8) t.v_LONGEST_NAME
 g_NAME:mg "NAME"=some t.v_NAME/\L4 (.int 0) t.v_NAME
 g_SORT:mg "SORT"=some t.v_SORT/\L4 (.int 1) t.v_SORT
 g_HOST:mg "HOST"=some t.v_HOST/\L4 (.int 2) t.v_HOST
 g_SHUTS:mg "SHUTS"=some t.v_SHUTS/\L4 (.int 3) t.v_SHUTS
 g_BARS:mg "BARS"=some t.v_BARS/\L4 (.int 4) t.v_BARS
 g_ROOT_NAME:mg "ROOT_NAME"=some t.v_ROOT_NAME/\L4 (.str "") t.v_ROOT_NAME
 g_MOST_OPEN:mg "MOST_OPEN"=some t.v_MOST_OPEN/\L4 (.int 20) t.v_MOST_OPEN
 g_TOLD_FOR:mg "TOLD_FOR"=some (.ref t.c_TOLD_FOR)
 q_TOLD_FOR:∀ H:Hp,SqT K H t.c_TOLD_FOR [.str "&l;",.str "&a;"]
 g_ESCAPED:mg "ESCAPED"=some (.ref t.c_ESCAPED)
 q_ESCAPED:∀ H:Hp,SqT K H t.c_ESCAPED [.str "<",.str "&"]
 g_START:mg "START"=some t.v_START/\L4 (.int 1) t.v_START
 g_STOP:mg "STOP"=some t.v_STOP/\L4 (.int 2) t.v_STOP
 g_BLANKS:mg "BLANKS"=some t.v_BLANKS/\L4 (.str " \n") t.v_BLANKS
 z_all:mg "all"=none
 z_any:mg "any"=none
 z_enumerate:mg "enumerate"=none
 z_int:mg "int"=none
 z_isinstance:mg "isinstance"=none
 z_len:mg "len"=none
 z_range:mg "range"=none
 z_reversed:mg "reversed"=none
 z_str:mg "str"=none
 z_tuple:mg "tuple"=none
 n_Branch:mg "Branch"=some (.ref t.k_Branch)
 n_Reader:mg "Reader"=some (.ref t.k_Reader)
 cz:Cz K t.k_Branch t.k_Reader
section
variable{P:Program}{w:World}{base:Heap}{t:Adr}
theorem qj1:B8 ["word"] ["word"] (B1 R4):=by walk_at "k"
theorem xq8:B8 ["rows","name","row"] ["rows","name"] (B1 xj5):=by walk_at "k"
theorem xj7:B8 ["book","name","row"] ["book","name"] (B1 wy7):=by walk_at "k"
theorem xj8:B8 ["book","name"] ["book","name"] (B1 wy8):=by walk_at "k"
theorem xj9:B8 ["book","name","row"] ["book","name"] (B1 wy9):=by walk_at "k"
theorem xb0:B8 ["book","name","row"] ["book","name"] (B1 wo9):=by walk_at "k"
theorem xk0:B8 ["book","name","frame","above"] ["book","name","frame"] (B1 wz0):=by walk_at "k"
theorem xk1:B8 ["part"] ["part"] (B1 wz1):=by walk_at "k"
theorem qv9:B8 ["names"] ["names"] (B1 ql3):=by walk_at "k"
theorem xk2:B8 ["book","names","start","number","name"] ["book","names"] (B1 wz2):=by walk_at "k"
theorem wd6:B8 ["names","others"] ["names","others"] (B1 qi5):=by walk_at "k"
theorem xk3:B8 ["book","names","name","number"] ["book","names","name"] (B1 wz3):=by walk_at "k"
theorem xk4:B8 ["book","names","name","plan","kept","put"] ["book","names","name"] (B1 wz4):=by walk_at "k"
theorem wt8:B8 ["book","names","hosts"] ["book","names"] (B1 wh5):=by walk_at "k"
theorem wk6:B8 ["book","names","name","frame","number","plan"] ["book","names","name"] (B1 xj6):=by walk_at "k"
theorem qs7:B8 ["book","names","name","hosts"] ["book","names","name"] (B1 qi6):=by walk_at "k"
theorem qz6:B8 ["book","names","name","shuts","first_near","number"] ["book","names","name"] (B1 qn6):=by walk_at "k"
theorem wd7:B8 ["book","name","hosts","host"] ["book","name"] (B1 qs2):=by walk_at "k"
theorem wt9:B8 ["book","kept","put","number","name","near"] ["book","kept","put"] (B1 wh6):=by walk_at "k"
theorem xk5:B8 ["text"] ["text"] (B1 wz5):=by walk_at "k"
theorem xk6:B8 ["run"] ["run"] (B1 wz6):=by walk_at "k"
theorem wu0:B8 ["run"] ["run"] (B1 qv8):=by walk_at "k"
theorem wu1:B8 ["text","tokens","settled"] ["text"] (B1 wh7):=by walk_at "k"
theorem qw0:B8 ["text","settled","searched","tokens","tag"] ["text","settled","searched"] (B1 ql4):=by walk_at "k"
theorem wu2:B8 ["text","searched","tags","start","stop"] ["text","searched"] (B1 wh8):=by walk_at "k"
theorem wm8:B8 ["text","start"] ["text","start"] (B1 wc6):=by walk_at "k"
theorem xb1:B8 ["text","start","first","end"] ["text","start"] (B1 wp0):=by walk_at "k"
theorem wi2:B8 ["text","start","stop","first","kind"] ["text","start","stop"] (B1 qx4):=by walk_at "k"
theorem wd8:B8 ["text","start","stop"] ["text","start","stop"] (B1 qs3):=by walk_at "k"
theorem wm9:B8 ["name"] ["name"] (B1 wc7):=by walk_at "k"
theorem wn0:B8 ["name"] ["name"] (B1 wc8):=by walk_at "k"
theorem wu3:B8 ["book","text","reader"] ["book","text"] (B1 wh9):=by walk_at "k"
theorem wu4:B8 ["book","text","reader","kind","start","stop","told"] ["book","text"] (B1 wi0):=by walk_at "k"
theorem qs8:B8 ["book","closed","waiting","name"] ["book","closed"] (B1 qi7):=by walk_at "k"
theorem wd9:B8 ["names","name","number"] ["names","name"] (B1 qs4):=by walk_at "k"
theorem qz7:B8 ["book","names","name","row","unfit"] ["book","names","name"] (B1 qn7):=by walk_at "k"
theorem we0:B8 ["_law_script","_law_k"] ["_law_script","_law_k"] (B1 qs5):=by walk_at "k"
theorem wn1:B8 ["_law_cell","_law_k","_law_half","_law_number"] ["_law_cell","_law_k"] (B1 wc9):=by walk_at "k"
theorem we1:B8 ["_law_number","_law_signs_here","_law_width","_law_j"] ["_law_number"] (B1 qs6):=by walk_at "k"
theorem wn2:B8 ["_law_cell","_law_letters_here","_law_names_here","_law_k","_law_signs_here","_law_name","_law_spare"] ["_law_cell"] (B1 qi8):=by walk_at "k"
theorem xb2:B8 ["_law_heap","_law_thing"] ["_law_heap","_law_thing"] (B1 wp1):=by walk_at "k"
theorem wu5:B8 ["_law_number","_law_some"] ["_law_number"] (B1 wi1):=by walk_at "k"
theorem wn3:B8 ["_law_mends","_law_start","_law_raw","_law_lone","_law_k"] ["_law_mends","_law_start","_law_raw","_law_lone"] (B1 wd0):=by walk_at "k"
theorem wi3:B8 ["_law_names_here","_law_heaps","_law_name","_law_heap"] ["_law_names_here","_law_heaps"] (B1 qx5):=by walk_at "k"
theorem xb3:B8 ["_law_names_here","_law_number","_law_heaps","_law_mends","_law_start","_law_within"] ["_law_names_here","_law_number","_law_heaps","_law_mends","_law_start"] (B1 wp2):=by walk_at "k"
theorem zh5:B8 ["_law_script","_law_names_here","_law_strange","_law_book","_law_heaps","_law_mends","_law_text","_law_ran","_law_cell","_law_number","_law_way","_law_start","_law_raw","_law_told","_law_lone"] ["_law_script"] (B1 xq7):=by walk_at "k"
theorem qz8:B8 ["self","name","place"] ["self","name","place"] (B1 qn8):=by walk_at "k"
theorem qz9:B8 ["self","book"] ["self","book"] (B1 qn9):=by walk_at "k"
theorem wa0:B8 ["self"] ["self"] (B1 qo0):=by walk_at "k"
theorem wa1:B8 ["self","kind","start","signs","told"] ["self","kind","start","signs","told"] (B1 qo1):=by walk_at "k"
theorem qs9:B8 ["self","size"] ["self","size"] (B1 qi9):=by walk_at "k"
theorem qe1:B8 ["self","start","signs","name","plan","put"] ["self","start","signs","name"] (B1 V9):=by walk_at "k"
theorem qe2:B8 ["self","start","signs","name","number","wall"] ["self","start","signs","name"] (B1 W0):=by walk_at "k"
theorem qn1:B8 ["self","start","signs","told","hosts","host","number","place"] ["self","start","signs","told"] (B1 qd3):=by walk_at "k"
theorem qj2:B8 ["self"] ["self"] (B1 R5):=by walk_at "k"
theorem qh0:B8 ["self"] ["self"] (B1 X0):=by walk_at "k"
theorem qk7:B8 ["self","walls"] ["self"] (B1 U0):=by walk_at "k"
theorem qw1:B8 ["self","name","above"] ["self","name"] (B1 ql5):=by walk_at "k"
theorem qw2:B8 ["self","branch"] ["self"] (B1 ql6):=by walk_at "k"
theorem wa2:B8 ["self","start","signs","rule"] ["self","start","signs","rule"] (B1 qo2):=by walk_at "k"
theorem qt0:B8 ["self","name","start","rule"] ["self","name","start","rule"] (B1 qj0):=by walk_at "k"
theorem qe3:B8 ["self","kept","start","rule","closed","name"] ["self","kept","start","rule"] (B1 W1):=by walk_at "k"
theorem Z9:B8 ["self","start","wall","names","name"] ["self","start"] (B1 R8):=by walk_at "k"
theorem qn2:B8 ["self","start","signs","told","branch","ahead"] ["self","start","signs","told"] (B1 qd4):=by walk_at "k"
theorem wd1(T:Txt K mg t):L5 P w K mg base CX0 1 t.za.a t.za.d ["word"] (Q4 K):=by
 refine T.za.F.ok qj1 (by walk_at "n") (fun cdv A outer s H vs Q E hr h=>⟨R1 K,?_,wb9 h⟩)
 have S:=qj1
 refine A8 ?_
 refine C5 ?_
 exact(yw9 (xy0 xs5 xs5 A9 (E5 E4 rfl T.z_len boot_len (A0 (pv 0) A4)) (M8 rfl T.g_LONGEST_NAME.1 T.g_LONGEST_NAME.2)) (yw8 (E5 (yu5 rfl) rfl T.z_all boot_all (A0 (wq3 rfl (qf9 (osc:=B1 R4) (ON:=["word"]) (N:=["sign"]) (fr:=[none]) (by decide +kernel) rfl rfl) (yo1 (pv 0)) (fun _ _ _ _ _ _=>(J6 (i:=0) (show List.Nodup (["sign"]:List Str) by decide +kernel) rfl (Or.inl rfl))) wi9 (fun _ _ _ _ _ _=>xd3) (fun _ _ _ _ _ _=>(xy0 xs5 xs5 B3 (pv 0) B3))) A4))))
theorem wa3(T:Txt K mg t):L5 P w K mg base CX0 1 t.zb.a t.zb.d ["rows","name"] (qg6 K):=by
 refine T.zb.F.ok xq8 (yi9 K) (fun cdv A outer s H vs Q E hr h=>⟨wr2 K,?_,yv0 h⟩)
 have S:=xq8
 refine A5 ?_ ?_
 ·refine X6 PassesOwn.never rfl ?_ ?_ ?_
  ·exact(qg2 (pv 0))
  ·exact(J6 (i:=2) S.nd rfl (Or.inl rfl))
  ·refine A8 ?_
   refine N1 ?_ ?_ ?_
   ·exact(C8 (U1 (qp0 hr)) (G0 (B9 (E3 hr)) (pv 2) (M8 rfl T.g_NAME.1 T.g_NAME.2) (fun _ _=>rfl)) (pv 1) (E7 _))
   ·refine A8 ?_
    exact(C5 (pv 2))
   ·exact I9
 refine A8 ?_
 exact(C5 V2)
theorem qw3(T:Txt K mg t):L5 P w K mg base CX0 1 t.zf.a t.zf.d ["book","name"] (qg7 K):=by
 refine T.zf.F.ok xb0 (by walk_at "n") (fun cdv A outer s H vs Q E hr h=>⟨wn8 K,?_,ya7 h⟩)
 have S:=xb0
 refine A5 ?_ ?_
 ·refine X6 PassesOwn.never rfl ?_ ?_ ?_
  ·exact(qg2 (pv 0))
  ·exact(J6 (i:=2) S.nd rfl (Or.inl rfl))
  ·refine A8 ?_
   refine N1 ?_ ?_ ?_
   ·exact(PW.pt (wa7 (C8 (U1 (qp0 hr)) (G0 (B9 (E3 hr)) (pv 2) (M8 rfl T.g_SORT.1 T.g_SORT.2) (fun _ _=>rfl)) B3 (E7 _)) (qt8 (C8 (U1 (qp0 hr)) (G0 (B9 (E3 hr)) (pv 2) (M8 rfl T.g_HOST.1 T.g_HOST.2) (fun _ _=>rfl)) (pv 1) (E7 _)))))
   ·refine A8 ?_
    exact(C5 (G0 (B9 (E3 hr)) (pv 2) (M8 rfl T.g_NAME.1 T.g_NAME.2) (fun _ _=>rfl)))
   ·exact I9
 refine A8 ?_
 exact(C5 V2)
theorem yl6(T:Txt K mg t):L5 P w K mg base CX0 1 t.zi.a t.zi.d ["part"] (wb4 K):=by
 refine T.zi.F.ok xk1 (by walk_at "n") (fun cdv A outer s H vs Q E hr h=>⟨wj3 K,?_,yj4 h⟩)
 have S:=xk1
 refine A8 ?_
 exact(C5 (E5 qk9 rfl T.z_isinstance boot_isinstance (A0 (pv 0) (A0 (xr1 rfl T.z_str boot_str rfl) A4))))
theorem qj3(T:Txt K mg t):L5 P w K mg base CX0 1 t.zj.a t.zj.d ["names"] (P3 K):=by
 refine T.zj.F.ok qv9 (by walk_at "n") (fun cdv A outer s H vs Q E hr h=>⟨qa2 K,?_,wr9 h⟩)
 have S:=qv9
 refine A8 ?_
 exact(C5 (qq9 (C8 qr2 (E5 E4 rfl T.z_len boot_len (A0 (pv 0) A4)) A9 (E7 _)) (G0 (B9 (E3 hr)) (pv 0) (qj5 X7 A9) (fun _ _=>rfl)) (M8 rfl T.g_ROOT_NAME.1 T.g_ROOT_NAME.2)))
theorem we2(T:Txt K mg t):L5 P w K mg base CX0 1 t.zm.a t.zm.d ["names","others"] (X2 K):=by
 refine T.zm.F.ok wd6 (by walk_at "n") (fun cdv A outer s H vs Q E hr h=>⟨qh9 K,?_,xc3 h⟩)
 have S:=wd6
 refine A8 ?_
 refine C5 ?_
 exact(E5 (yu6 rfl) rfl T.z_any boot_any (A0 (wq3 rfl (qf9 (osc:=B1 qi5) (ON:=["names","others"]) (N:=["others","name"]) (fr:=[some 1,none]) (by decide +kernel) rfl rfl) (qg2 (pv 0)) (fun _ _ _ _ _ _=>(J6 (i:=1) (show List.Nodup (["others","name"]:List Str) by decide +kernel) rfl (Or.inl rfl))) wi9 (fun _ _ _ _ _ _=>xd3) (fun _ _ _ _ _ _=>(qu0 (wv6 (E3 hr)) (pv 1) (pv 0) (by with_unfolding_all rfl)))) A4))
theorem yl7(T:Txt K mg t):L5 P w K mg base CX0 1 t.zx.a t.zx.d ["text"] (wc1 K):=by
 refine T.zx.F.ok xk5 (by walk_at "n") (fun cdv A outer s H vs Q E hr h=>⟨wk1 K,?_,yk6 h⟩)
 have S:=xk5
 refine A8 ?_
 exact(C5 (xd5 (xd5 (pv 0))))
theorem yl8(T:Txt K mg t):L5 P w K mg base CX0 1 t.zy.a t.zy.d ["run"] (wb8 K):=by
 refine T.zy.F.ok xk6 (by walk_at "n") (fun cdv A outer s H vs Q E hr h=>⟨wk0 K,?_,yk4 h⟩)
 have S:=xk6
 refine A8 ?_
 exact(C5 (xd5 (xd5 (pv 0))))
theorem xw5(T:Txt K mg t):L5 P w K mg base CX0 1 t.zz.a t.zz.d ["run"] (qp8 K):=by
 refine T.zz.F.ok wu0 (by walk_at "n") (fun cdv A outer s H vs Q E hr h=>⟨qu4 K t.c_TOLD_FOR t.c_ESCAPED,?_,xt9 T.q_TOLD_FOR T.q_ESCAPED h⟩)
 have S:=wu0
 refine A8 ?_
 refine C5 ?_
 exact(wq3 rfl (qf9 (osc:=B1 qv8) (ON:=["run"]) (N:=["run","number","sign"]) (fr:=[some 0,none,none]) (by decide +kernel) rfl rfl) (zb4 rfl T.z_enumerate (A0 (pv 0) A4)) (fun _ _ _ _ _ _=>(xe1 rfl (V3 (J6 (i:=1) (show List.Nodup (["run","number","sign"]:List Str) by decide +kernel) rfl (Or.inl rfl)) (V3 (J6 (i:=2) (show List.Nodup (["run","number","sign"]:List Str) by decide +kernel) rfl (Or.inl rfl)) wp7)))) (zs9 (yn1 rfl (yn1 rfl zs8))) (fun _ _ _ _ _ _=>(xs2 (PW.pt (wa7 (C8 (wv6 (E3 hr)) (pv 2) (M8 rfl T.g_ESCAPED rfl) (by with_unfolding_all rfl)) (qt8 (C8 (xp3 (E3 hr)) (Q7 qr3 (pv 0) (O8 (pv 1)) (O8 (B6 C6 (pv 1) A9))) (M8 rfl T.g_TOLD_FOR rfl) (by with_unfolding_all rfl))))))) (fun _ _ _ _ _ _=>(pv 1)))
theorem wn4(T:Txt K mg t):L5 P w K mg base CX0 1 t.yd.a t.yd.d ["text","start"] (qe0 K):=by
 refine T.yd.F.ok wm8 (by walk_at "n") (fun cdv A outer s H vs Q E hr h=>⟨qp9 K,?_,xm1 h⟩)
 have S:=wm8
 refine A8 ?_
 exact(C5 (qq9 (qf8 (U5 PySem.F.plainAttrs_str PySem.F.slot_str_startswith PySem.F.type_str_startswith yu2 (pv 0) (A0 B3 (A0 (pv 1) A4)))) (B6 C6 (pv 1) A9) (B6 C6 (pv 1) A9)))
theorem xn2(T:Txt K mg t):L5 P w K mg base CX0 1 t.yh.a t.yh.d ["name"] (qm1 K):=by
 refine T.yh.F.ok wm9 (by walk_at "n") (fun cdv A outer s H vs Q E hr h=>⟨qq2 K,?_,xm4 h⟩)
 have S:=wm9
 refine A8 ?_
 exact(C5 (zq1 (pv 0)))
theorem xn3(T:Txt K mg t):L5 P w K mg base CX0 1 t.yi.a t.yi.d ["name"] (qm2 K):=by
 refine T.yi.F.ok wn0 (by walk_at "n") (fun cdv A outer s H vs Q E hr h=>⟨qq3 K,?_,xm5 h⟩)
 have S:=wn0
 refine A8 ?_
 exact(C5 (zq1 (pv 0)))
theorem xc9(T:Txt K mg t):L5 P w K mg base CX0 1 t.ym.a t.ym.d ["names","name"] (qf4 K):=by
 refine T.ym.F.ok wd9 (by walk_at "n") (fun cdv A outer s H vs Q E hr h=>⟨qi3 K,?_,xc6 h⟩)
 have S:=wd9
 refine A5 ?_ ?_
 ·refine zst (i:=2) S ?_
  exact(B6 wu7 (E5 E4 rfl T.z_len boot_len (A0 (pv 0) A4)) A9)
 refine A5 ?_ ?_
 ·refine wf0 PassesOwn.never ?_ ?_
  ·exact(C8 (yh6 (qp0 hr)) (G0 (B9 (E3 hr)) (pv 0) (pv 2) (fun _ _=>rfl)) (pv 1) (E7 _))
  ·refine A8 ?_
   refine zst (i:=2) S ?_
   exact(B6 wu7 (pv 2) A9)
 refine A8 ?_
 exact(C5 (B6 C6 (Q7 qr3 (pv 0) qo8 (O8 (pv 2))) (Q7 qr3 (pv 0) (O8 (B6 C6 (pv 2) A9)) qo8)))
theorem xd0(T:Txt K mg t):L5 P w K mg base CX0 1 t.yo.a t.yo.d ["_law_script","_law_k"] (qe9 K):=by
 refine T.yo.F.ok we0 (by walk_at "n") (fun cdv A outer s H vs Q E hr h=>⟨qh4 K,?_,xc0 h⟩)
 have S:=we0
 refine A5 ?_ ?_
 ·refine N1 ?_ ?_ ?_
  ·exact(C8 wv5 (pv 1) (E5 E4 rfl T.z_len boot_len (A0 (pv 0) A4)) (E7 _))
  ·refine A8 ?_
   exact(C5 (G0 (B9 (E3 hr)) (pv 0) (pv 1) (fun _ _=>rfl)))
  ·exact I9
 refine A8 ?_
 exact(C5 A9)
theorem qx6(T:Txt K mg t):L5 P w K mg base CX0 1 t.yp.a t.yp.d ["_law_cell","_law_k"] (X5 K):=by
 refine T.yp.F.ok wn1 (by walk_at "n") (fun cdv A outer s H vs Q E hr h=>⟨qp3 K,?_,xl6 h⟩)
 have S:=wn1
 refine A5 ?_ ?_
 ·refine zst (i:=2) S ?_
  exact(B6 qt9 (pv 0) A9)
 refine A5 ?_ ?_
 ·refine N1 ?_ ?_ ?_
  ·exact(C8 (U1 (qp0 hr)) (B6 V4 (pv 0) A9) A9 (E7 _))
  ·refine A8 ?_
   exact(C5 (B6 V4 (B6 yx6 (pv 2) (B6 qe5 A9 (pv 1))) (B6 yx5 A9 A9)))
  ·exact I9
 refine A5 ?_ ?_
 ·refine zst (i:=3) S ?_
  exact(B6 C6 (B6 V4 (pv 2) A9) (B6 qe5 A9 (B6 C6 (pv 1) A9)))
 refine A5 ?_ ?_
 ·refine zst (i:=3) S ?_
  exact(B6 V4 (B6 C6 (B6 qe5 (pv 3) (pv 3)) (B6 qe5 A9 (pv 1))) A9)
 refine A8 ?_
 exact(C5 (B6 V4 (B6 C6 (B6 C6 (B6 qe5 (pv 3) (pv 3)) (B6 qe5 A9 (pv 1))) A9) A9))
theorem qo3(T:Txt K mg t):L5 P w K mg base CX0 1 t.yq.a t.yq.d ["_law_number"] (R9 K):=by
 refine T.yq.F.ok we1 (by walk_at "n") (fun cdv A outer s H vs Q E hr h=>⟨qh5 K,?_,xc1 h⟩)
 have S:=we1
 refine A5 ?_ ?_
 ·refine zst (i:=1) S ?_
  exact(P2 A4)
 refine A5 ?_ ?_
 ·refine zst (i:=2) S ?_
  exact(B6 C6 A9 (B6 V4 (pv 0) A9))
 refine A5 ?_ ?_
 ·refine zst (i:=0) S ?_
  exact(B6 qt9 (pv 0) A9)
 refine A5 ?_ ?_
 ·refine X6 PassesOwn.never rfl ?_ ?_ ?_
  ·exact(xn9 rfl T.z_range (A0 (pv 2) A4))
  ·exact(J6 (i:=3) S.nd rfl (Or.inl rfl))
  ·refine A5 ?_ ?_
   ·exact(C9 (U5 PySem.F.plainAttrs_list PySem.F.slot_list_append PySem.F.type_list_append M3 (pv 1) (A0 (B6 V4 (pv 0) A9) A4)))
   refine A8 ?_
   refine zst (i:=0) S ?_
   exact(B6 qt9 (pv 0) A9)
 refine A8 ?_
 exact(C5 (pv 1))
theorem wi4(T:Txt K mg t):L5 P w K mg base CX0 1 t.yt.a t.yt.d ["_law_heap","_law_thing"] (Z7 K):=by
 refine T.yt.F.ok xb2 (by walk_at "n") (fun cdv A outer s H vs Q E hr h=>⟨wc4 K,?_,yd8 h⟩)
 have S:=xb2
 refine A8 ?_
 refine N1 ?_ ?_ ?_
 ·exact(PW.pt (wa7 (qf8 (E5 qk9 rfl T.z_isinstance boot_isinstance (A0 (pv 1) (A0 (xr1 rfl T.z_str boot_str rfl) A4)))) (wa7 (C8 (yh6 (qp0 hr)) (pv 0) (P2 A4) (E7 _)) (qt8 (qf8 (E5 qk9 rfl T.z_isinstance boot_isinstance (A0 (G0 (B9 (E3 hr)) (pv 0) (qj5 X7 A9) (fun _ _=>rfl)) (A0 (xr1 rfl T.z_str boot_str rfl) A4))))))))
 ·refine A8 ?_
  exact(xr2 (B6 C6 (G0 (B9 (E3 hr)) (pv 0) (qj5 X7 A9) (fun _ _=>rfl)) (pv 1)) (yf5 (pv 0) (qj5 X7 A9) (xf7 (E3 hr))))
 ·refine A8 ?_
  exact(C9 (U5 PySem.F.plainAttrs_list PySem.F.slot_list_append PySem.F.type_list_append M3 (pv 0) (A0 (pv 1) A4)))
theorem xw6(T:Txt K mg t):L5 P w K mg base CX0 1 t.yu.a t.yu.d ["_law_number"] (qq7 K):=by
 refine T.yu.F.ok wu5 (by walk_at "n") (fun cdv A outer s H vs Q E hr h=>⟨qv7 K,?_,xw2 h⟩)
 have S:=wu5
 refine A5 ?_ ?_
 ·generalize hE:(Expr.List _ _)=e
  refine Z3 (i:=1) S.nd rfl (Or.inl rfl) ?_ ?_ ?_
  ·rw[<-hE]
   refine P2 ?_
   refine A0 ?_ ?_
   ·refine C4 ?_
    refine A0 B3 ?_
    refine A0 B3 ?_
    refine A0 ?_ A4
    refine C4 ?_
    exact A4
   refine A0 ?_ ?_
   ·refine C4 ?_
    refine A0 B3 ?_
    refine A0 B3 ?_
    refine A0 ?_ A4
    refine C4 ?_
    exact(A0 A9 A4)
   refine A0 ?_ ?_
   ·refine C4 ?_
    refine A0 B3 ?_
    refine A0 B3 ?_
    refine A0 ?_ A4
    refine C4 ?_
    exact A4
   refine A0 ?_ ?_
   ·refine C4 ?_
    refine A0 B3 ?_
    refine A0 B3 ?_
    refine A0 ?_ A4
    refine C4 ?_
    exact(A0 A9 A4)
   refine A0 ?_ ?_
   ·refine C4 ?_
    refine A0 B3 ?_
    refine A0 B3 ?_
    refine A0 ?_ A4
    refine C4 ?_
    exact(A0 A9 (A0 A9 A4))
   exact A4
  ·rw[<-hE];rfl
  ·walk_at "or"
 refine A5 ?_ ?_
 ·generalize hE:(Expr.BinOp _ _ _ _)=e
  refine Z3 (i:=1) S.nd rfl (Or.inl rfl) ?_ ?_ ?_
  ·rw[<-hE]
   refine B6 C6 ?_ ?_
   ·exact(pv 1)
   ·refine P2 ?_
    refine A0 ?_ ?_
    ·refine C4 ?_
     refine A0 B3 ?_
     refine A0 B3 ?_
     refine A0 ?_ A4
     refine C4 ?_
     exact(A0 A9 A4)
    refine A0 ?_ ?_
    ·refine C4 ?_
     refine A0 B3 ?_
     refine A0 B3 ?_
     refine A0 ?_ A4
     refine C4 ?_
     exact A4
    refine A0 ?_ ?_
    ·refine C4 ?_
     refine A0 B3 ?_
     refine A0 B3 ?_
     refine A0 ?_ A4
     refine C4 ?_
     exact(A0 A9 A4)
    refine A0 ?_ ?_
    ·refine C4 ?_
     refine A0 B3 ?_
     refine A0 B3 ?_
     refine A0 ?_ A4
     refine C4 ?_
     exact(A0 A9 A4)
    exact A4
  ·rw[<-hE];rfl
  ·walk_at "or"
 refine A5 ?_ ?_
 ·generalize hE:(Expr.BinOp _ _ _ _)=e
  refine Z3 (i:=1) S.nd rfl (Or.inl rfl) ?_ ?_ ?_
  ·rw[<-hE]
   refine B6 C6 ?_ ?_
   ·exact(pv 1)
   ·refine P2 ?_
    refine A0 ?_ ?_
    ·refine C4 ?_
     refine A0 B3 ?_
     refine A0 B3 ?_
     refine A0 ?_ A4
     refine C4 ?_
     exact A4
    refine A0 ?_ ?_
    ·refine C4 ?_
     refine A0 B3 ?_
     refine A0 B3 ?_
     refine A0 ?_ A4
     refine C4 ?_
     exact(A0 A9 A4)
    refine A0 ?_ ?_
    ·refine C4 ?_
     refine A0 B3 ?_
     refine A0 B3 ?_
     refine A0 ?_ A4
     refine C4 ?_
     exact(A0 A9 A4)
    exact A4
  ·rw[<-hE];rfl
  ·walk_at "or"
 refine A8 ?_
 exact(C5 (G0 (B9 (E3 hr)) (pv 1) (B6 V4 (pv 0) A9) (fun _ _=>rfl)))
theorem xn4(T:Txt K mg t):L5 P w K mg base CX0 1 t.yw.a t.yw.d ["_law_mends","_law_start","_law_raw","_law_lone"] (qm3 K):=by
 refine T.yw.F.ok wn3 (by walk_at "n") (fun cdv A outer s H vs Q E hr h=>⟨qq8 K,?_,xn1 h⟩)
 have S:=wn3
 refine A8 ?_
 refine X6 PassesOwn.never rfl ?_ ?_ ?_
 ·exact(qg2 (pv 3))
 ·exact(J6 (i:=4) S.nd rfl (Or.inl rfl))
 ·refine A8 ?_
  exact(C9 (U5 PySem.F.plainAttrs_list PySem.F.slot_list_append PySem.F.type_list_append M3 (pv 0) (A0 (C4 (A0 (B6 C6 (pv 1) (pv 4)) (A0 (B6 C6 (B6 C6 (pv 1) (pv 4)) A9) (A0 (zj2 (E3 hr) (zj4 (xy9 B3 B3 (xy9 B3 B3 zj3)) rfl rfl (by simp) (by decide)) (G0 (B9 (E3 hr)) (pv 2) (pv 4) (fun _ _=>rfl)) (fun _ _=>rfl)) (A0 B3 A4))))) A4)))
theorem wa4(T:Txt K mg t):L5 P w K mg base CX0 1 t.a_c_Branch_init t.d_c_Branch_init ["self","name","place"] (V6 K):=by
 refine T.F_c_Branch_init.ok qz8 (by walk_at "n") (fun cdv A outer s H vs Q E hr h=>⟨qe7 K,?_,ww0 T.cz h⟩)
 have S:=qz8
 refine A5 ?_ ?_
 ·exact(qw5 (pv 0) (pv 1) rfl)
 refine A5 ?_ ?_
 ·exact(qw5 (pv 0) (pv 2) rfl)
 refine A5 ?_ ?_
 ·exact(qw5 (pv 0) (P2 A4) rfl)
 refine A8 ?_
 exact(qw5 (pv 0) (P2 A4) rfl)
theorem wz7(T:Txt K mg t):L5 P w K mg base CX0 1 t.a_c_Reader_root t.d_c_Reader_root ["self"] (qa6 K):=by
 refine T.F_c_Reader_root.ok wa0 (by walk_at "n") (fun cdv A outer s H vs Q E hr h=>⟨qf2 K,?_,wx6 T.cz h⟩)
 have S:=wa0
 refine A8 ?_
 exact(C5 (C4 (A0 (M8 rfl T.g_ROOT_NAME.1 T.g_ROOT_NAME.2) (A0 (X4 W2 rfl T.z_tuple boot_tuple (A0 (J8 (G0 (B9 (E3 hr)) (J8 (pv 0) rfl) A9 (fun _ _=>rfl)) rfl) A4)) A4))))
theorem M6(T:Txt K mg t):L5 P w K mg base CX0 1 t.a_c_Reader_open_names t.d_c_Reader_open_names ["self"] (I0 K):=by
 refine T.F_c_Reader_open_names.ok qj2 (by walk_at "n") (fun cdv A outer s H vs Q E hr h=>⟨R3 K,?_,wc2 T.cz h⟩)
 have S:=qj2
 refine A8 ?_
 exact(C5 (X4 W2 rfl T.z_tuple boot_tuple (A0 (wq3 rfl (qf9 (osc:=B1 R5) (ON:=["self"]) (N:=["branch"]) (fr:=[none]) (by decide +kernel) rfl rfl) (qg2 (Q7 qr3 (J8 (pv 0) rfl) (O8 A9) qo8)) (fun _ _ _ _ _ _=>(J6 (i:=0) (show List.Nodup (["branch"]:List Str) by decide +kernel) rfl (Or.inl rfl))) wi9 (fun _ _ _ _ _ _=>xd3) (fun _ _ _ _ _ _=>(J8 (pv 0) rfl))) A4)))
theorem qj4(T:Txt K mg t):L5 P w K mg base CX0 1 t.a_c_Reader_leave t.d_c_Reader_leave ["self"] (P4 K):=by
 refine T.F_c_Reader_leave.ok qw2 (by walk_at "n") (fun cdv A outer s H vs Q E hr h=>⟨qa7 K,?_,ws6 T.cz h⟩)
 have S:=qw2
 refine A5 ?_ ?_
 ·refine zst (i:=1) S ?_
  exact(yh3 PySem.F.plainAttrs_list PySem.F.slot_list_pop PySem.F.type_list_pop yh5 (J8 (pv 0) rfl))
 refine A8 ?_
 exact(C9 (U5 PySem.F.plainAttrs_list PySem.F.slot_list_append PySem.F.type_list_append M3 (J8 (G0 (B9 (E3 hr)) (J8 (pv 0) rfl) (qj5 X7 A9) (fun _ _=>rfl)) rfl) (A0 (C4 (A0 (J8 (pv 1) rfl) (A0 (X4 W2 rfl T.z_tuple boot_tuple (A0 (J8 (pv 1) rfl) A4)) A4))) A4)))
theorem Q6(T:Txt K mg t):L5 P w K mg base CX0 1 t.a_c_Reader_drop t.d_c_Reader_drop ["self","start","signs","rule"] (M5 K):=by
 refine T.F_c_Reader_drop.ok wa2 (by walk_at "n") (fun cdv A outer s H vs Q E hr h=>⟨qe8 K,?_,ww1 T.cz h⟩)
 have S:=wa2
 refine A8 ?_
 exact(C9 (U5 PySem.F.plainAttrs_list PySem.F.slot_list_append PySem.F.type_list_append M3 (J8 (pv 0) rfl) (A0 (C4 (A0 (pv 1) (A0 (B6 C6 (pv 1) (E5 E4 rfl T.z_len boot_len (A0 (pv 2) A4))) (A0 B3 (A0 (pv 3) A4))))) A4)))
theorem qt1(T:Txt K mg t):L5 P w K mg base CX0 2 t.zc.a t.zc.d ["book","name"] (Z5 K):=by
 refine T.zc.F.ok xj7 (by walk_at "n") (fun cdv A outer s H vs Q E hr h=>⟨wv7 K,?_,yj0 h⟩)
 have S:=xj7
 refine A5 ?_ ?_
 ·refine zst (i:=2) S ?_
  exact(zcl (wa3 T) hr T.zb B5 (A0 (pv 0) (A0 (pv 1) A4)))
 refine A8 ?_
 exact(C5 (qq9 (C8 wn6 (pv 2) V2 (E7 _)) V2 (G0 (B9 (E3 hr)) (pv 2) (M8 rfl T.g_SORT.1 T.g_SORT.2) (fun _ _=>rfl))))
theorem xk7(T:Txt K mg t):L5 P w K mg base CX0 2 t.ze.a t.ze.d ["book","name"] (qr5 K):=by
 refine T.ze.F.ok xj9 (by walk_at "n") (fun cdv A outer s H vs Q E hr h=>⟨wv8 K,?_,yj1 h⟩)
 have S:=xj9
 refine A5 ?_ ?_
 ·refine zst (i:=2) S ?_
  exact(zcl (wa3 T) hr T.zb B5 (A0 (pv 0) (A0 (pv 1) A4)))
 refine A5 ?_ ?_
 ·refine N1 ?_ ?_ ?_
  ·exact(PW.pt (zo7 (C8 wn6 (pv 2) V2 (E7 _)) (yw6 (C8 (yh6 (qp0 hr)) (G0 (B9 (E3 hr)) (pv 2) (M8 rfl T.g_SORT.1 T.g_SORT.2) (fun _ _=>rfl)) B3 (E7 _)))))
  ·refine A8 ?_
   exact(C5 V2)
  ·exact I9
 refine A8 ?_
 exact(C5 (G0 (B9 (E3 hr)) (pv 2) (M8 rfl T.g_HOST.1 T.g_HOST.2) (fun _ _=>rfl)))
theorem yl9(T:Txt K mg t):L5 P w K mg base CX0 2 t.zh.a t.zh.d ["book","name","frame"] (wb3 K):=by
 refine T.zh.F.ok xk0 (by walk_at "n") (fun cdv A outer s H vs Q E hr h=>⟨wv9 K,?_,yj2 h⟩)
 have S:=xk0
 refine A5 ?_ ?_
 ·refine zst (i:=3) S ?_
  exact(zcl (qw3 T) hr T.zf B5 (A0 (pv 0) (A0 (pv 1) A4)))
 refine A5 ?_ ?_
 ·refine wf0 PassesOwn.never ?_ ?_
  ·exact(C8 qy2 (pv 3) V2 (E7 _))
  ·refine A5 ?_ ?_
   ·refine N1 ?_ ?_ ?_
    ·exact(C8 (U1 (qp0 hr)) (pv 3) (pv 2) (E7 _))
    ·refine A8 ?_
     exact(C5 xx7)
    ·exact I9
   refine A8 ?_
   refine zst (i:=3) S ?_
   exact(zcl (qw3 T) hr T.zf B5 (A0 (pv 0) (A0 (pv 3) A4)))
 refine A8 ?_
 exact(C5 xx7)
theorem ye9(T:Txt K mg t):L5 P w K mg base CX0 2 t.ye.a t.ye.d ["text","start"] (qu5 K):=by
 refine T.ye.F.ok xb1 (by walk_at "n") (fun cdv A outer s H vs Q E hr h=>⟨wc0 K,?_,yc7 h⟩)
 have S:=xb1
 refine A5 ?_ ?_
 ·refine zst (i:=2) S ?_
  exact(zcl (wn4 T) hr T.yd B5 (A0 (pv 0) (A0 (pv 1) A4)))
 refine A5 ?_ ?_
 ·refine zst (i:=3) S ?_
  exact(U5 PySem.F.plainAttrs_str PySem.F.slot_str_find PySem.F.type_str_find zb8 (pv 0) (A0 B3 (A0 (pv 2) (A0 (B6 C6 (B6 C6 (pv 2) (M8 rfl T.g_LONGEST_NAME.1 T.g_LONGEST_NAME.2)) A9) A4))))
 refine A5 ?_ ?_
 ·refine N1 ?_ ?_ ?_
  ·exact(PW.pt (zo7 (C8 wv5 (pv 3) A9 (E7 _)) (yw6 (yf1 (qf8 (zcl (wd1 T) hr T.za B5 (A0 (Q7 qr3 (pv 0) (O8 (pv 2)) (O8 (pv 3))) A4)))))))
  ·refine A8 ?_
   exact(C5 V2)
  ·exact I9
 refine A8 ?_
 exact(C5 (B6 C6 (pv 3) A9))
theorem xk8(T:Txt K mg t):L5 P w K mg base CX0 2 t.yf.a t.yf.d ["text","start","stop"] (qi0 K):=by
 refine T.yf.F.ok wi2 (by walk_at "n") (fun cdv A outer s H vs Q E hr h=>⟨qm0 K,?_,xh9 h⟩)
 have S:=wi2
 refine A5 ?_ ?_
 ·refine zst (i:=3) S ?_
  exact(zcl (wn4 T) hr T.yd B5 (A0 (pv 0) (A0 (pv 1) A4)))
 refine A5 ?_ ?_
 ·refine zst (i:=4) S ?_
  exact(qq9 (C8 (U1 (qp0 hr)) (pv 3) (B6 C6 (pv 1) A9) (E7 _)) B3 B3)
 refine A8 ?_
 exact(C5 (C4 (A0 (pv 4) (A0 (pv 1) (A0 (pv 2) (A0 (Q7 qr3 (pv 0) (O8 (pv 3)) (O8 (B6 wu7 (pv 2) A9))) A4))))))
theorem we3(T:Txt K mg t):L5 P w K mg base CX0 2 t.yg.a t.yg.d ["text","start","stop"] (T0 K):=by
 refine T.yg.F.ok wd8 (by walk_at "n") (fun cdv A outer s H vs Q E hr h=>⟨qi1 K,?_,xc5 h⟩)
 have S:=wd8
 refine A5 ?_ ?_
 ·refine N1 ?_ ?_ ?_
  ·exact(C8 (U1 (qp0 hr)) (pv 1) (pv 2) (E7 _))
  ·refine A8 ?_
   exact(C5 (P2 A4))
  ·exact I9
 refine A8 ?_
 exact(C5 (P2 (A0 (C4 (A0 B3 (A0 (pv 1) (A0 (pv 2) (A0 (zcl (yl8 T) hr T.zy B5 (A0 (Q7 qr3 (pv 0) (O8 (pv 1)) (O8 (pv 2))) A4)) A4))))) A4)))
theorem xn5(T:Txt K mg t):L5 P w K mg base CX0 2 t.yr.a t.yr.d ["_law_cell"] (ql9 K):=by
 refine T.yr.F.ok wn2 (by walk_at "n") (fun cdv A outer s H vs Q E hr h=>⟨qp4 K,?_,xl7 h⟩)
 have S:=wn2
 refine A5 ?_ ?_
 ·refine Z3 (i:=1) S.nd rfl (Or.inr rfl) ?_ rfl ?_
  ·exact B3
  ·walk_at "or"
 refine A5 ?_ ?_
 ·refine Z3 (i:=2) S.nd rfl (Or.inr rfl) ?_ rfl ?_
  ·exact(P2 A4)
  ·walk_at "or"
 refine A5 ?_ ?_
 ·refine X6 PassesOwn.never rfl ?_ ?_ ?_
  ·exact(xn9 rfl T.z_range (A0 A9 A4))
  ·exact(J6 (i:=3) S.nd rfl (Or.inl rfl))
  ·refine A5 ?_ ?_
   ·refine Z3 (i:=4) S.nd rfl (Or.inl rfl) ?_ rfl ?_
    ·refine zcl (qo3 T) hr T.yq B5 ?_
     refine A0 ?_ ?_
     ·exact(B6 V4 (B6 yx6 (B6 qt9 (pv 0) A9) (B6 qe5 A9 (pv 3))) (B6 yx5 A9 A9))
     exact A4
    ·walk_at "or"
   refine A5 ?_ ?_
   ·refine N1 ?_ ?_ ?_
    ·exact(C8 (U1 (qp0 hr)) (B6 V4 (pv 0) A9) A9 (E7 _))
    ·refine A5 ?_ ?_
     ·refine Z3 (i:=4) S.nd rfl (Or.inl rfl) ?_ rfl ?_
      ·refine zcl (qo3 T) hr T.yq B5 ?_
       refine A0 ?_ ?_
       ·exact(zcl (qx6 T) hr T.yp B5 (A0 (pv 0) (A0 A9 A4)))
       exact A4
      ·walk_at "or"
     refine A8 ?_
     exact(xr2 (B6 V4 (B6 C6 (G0 (B9 (E3 hr)) (pv 4) (qj5 X7 A9) (fun _ _=>rfl)) (pv 3)) A9) (yf5 (pv 4) (qj5 X7 A9) (xf7 (E3 hr))))
    ·exact I9
   refine A5 ?_ ?_
   ·refine N1 ?_ ?_ ?_
    ·exact(C8 (U1 (qp0 hr)) (B6 V4 (pv 0) A9) A9 (E7 _))
    ·refine A5 ?_ ?_
     ·refine zst (i:=4) S ?_
      exact(Q7 qr3 (zcl (qo3 T) hr T.yq B5 (A0 (B6 C6 A9 (B6 qe5 A9 (zcl (qx6 T) hr T.yp B5 (A0 (pv 0) (A0 A9 A4))))) A4)) qo8 (O8 (B6 C6 (B6 V4 (pv 3) A9) A9)))
     refine A8 ?_
     exact(xr2 (B6 V4 (B6 C6 (G0 (B9 (E3 hr)) (pv 4) A9 (fun _ _=>rfl)) (X4 xp1 rfl T.z_int boot_int (A0 (qu0 qr2 (pv 3) A9 (E7 _)) A4))) A9) (yf5 (pv 4) A9 (xf7 (E3 hr))))
    ·exact I9
   refine A5 ?_ ?_
   ·refine zst (i:=5) S ?_
    exact(U5 PySem.F.plainAttrs_str PySem.F.slot_str_join PySem.F.type_str_join zj7 B3 (A0 (wq3 rfl (qf9 (osc:=B1 qi8) (ON:=["_law_cell","_law_letters_here","_law_names_here","_law_k","_law_signs_here","_law_name","_law_spare"]) (N:=["_law_letters_here","_law_j"]) (fr:=[some 1,none]) (by decide +kernel) rfl rfl) (qg2 (pv 4)) (fun _ _ _ _ _ _=>(J6 (i:=1) (show List.Nodup (["_law_letters_here","_law_j"]:List Str) by decide +kernel) rfl (Or.inl rfl))) wi9 (fun _ _ _ _ _ _=>xd3) (fun _ _ _ _ _ _=>(G0 (B9 (E3 hr)) (pv 0) (pv 1) (fun _ _=>rfl)))) A4))
   refine A5 ?_ ?_
   ·exact(yn3 (i:=6) S.nd rfl rfl rfl (qf9 (osc:=B1 qi8) (ON:=["_law_cell","_law_letters_here","_law_names_here","_law_k","_law_signs_here","_law_name","_law_spare"]) (N:=["_law_names_here","_law_letter"]) (fr:=[some 2,none]) (by decide +kernel) rfl rfl) (yo1 (pv 1)) (fun _ _ _ _ _ _=>(J6 (i:=1) (show List.Nodup (["_law_names_here","_law_letter"]:List Str) by decide +kernel) rfl (Or.inl rfl))) wi9 (fun _ _ _ _ _ _=>(xs2 (C8 (xp3 (E3 hr)) (B6 qe5 (pv 1) A9) (pv 0) (by with_unfolding_all rfl)))) (fun _ _ _ _ _ _=>(B6 qe5 (pv 1) A9)))
   refine A8 ?_
   exact(C9 (U5 PySem.F.plainAttrs_list PySem.F.slot_list_append PySem.F.type_list_append M3 (pv 2) (A0 (G0 (B9 (E3 hr)) (P2 (A0 (pv 5) (A0 (G0 (B9 (E3 hr)) (pv 6) A9 (fun _ _=>rfl)) A4))) (X4 xp1 rfl T.z_int boot_int (A0 (qu0 (wv6 (E3 hr)) (pv 5) (B6 C6 (pv 2) (P2 (A0 B3 (A0 B3 A4)))) (by with_unfolding_all rfl)) A4)) (fun _ _=>rfl)) A4)))
 refine A8 ?_
 exact(C5 (pv 2))
theorem wi5(T:Txt K mg t):L5 P w K mg base CX0 2 t.yx.a t.yx.d ["_law_names_here","_law_heaps"] (Z8 K):=by
 refine T.yx.F.ok wi3 (by walk_at "n") (fun cdv A outer s H vs Q E hr h=>⟨qm4 K,?_,xj4 h⟩)
 have S:=wi3
 refine A5 ?_ ?_
 ·refine zst (i:=2) S ?_
  exact(G0 (B9 (E3 hr)) (pv 0) (B6 qe5 (B6 V4 (E5 E4 rfl T.z_len boot_len (A0 (pv 1) A4)) A9) A9) (fun _ _=>rfl))
 refine A5 ?_ ?_
 ·refine zst (i:=3) S ?_
  exact(yh3 PySem.F.plainAttrs_list PySem.F.slot_list_pop PySem.F.type_list_pop yh5 (pv 1))
 refine A5 ?_ ?_
 ·exact(C9 (zcl (wi4 T) hr T.yt B5 (A0 (G0 (B9 (E3 hr)) (pv 1) (qj5 X7 A9) (fun _ _=>rfl)) (A0 (C4 (A0 (pv 2) (A0 (X4 W2 rfl T.z_tuple boot_tuple (A0 (pv 3) A4)) A4))) A4))))
 refine A8 ?_
 exact(C5 (B6 C6 (B6 C6 B3 (pv 2)) B3))
theorem wi6(T:Txt K mg t):L5 P w K mg base CX0 2 t.a_c_Reader_add_text t.d_c_Reader_add_text ["self","start","signs","told"] (T8 K):=by
 refine T.F_c_Reader_add_text.ok qn2 (by walk_at "n") (fun cdv A outer s H vs Q E hr h=>⟨U9 K,?_,wh1 T.cz h⟩)
 have S:=qn2
 refine A5 ?_ ?_
 ·refine zst (i:=4) S ?_
  exact(G0 (B9 (E3 hr)) (J8 (pv 0) rfl) (qj5 X7 A9) (fun _ _=>rfl))
 refine A5 ?_ ?_
 ·refine zst (i:=5) S ?_
  exact B3
 refine A5 ?_ ?_
 ·refine N1 ?_ ?_ ?_
  ·exact(PW.pt (wa7 (C8 qr2 (E5 E4 rfl T.z_len boot_len (A0 (J8 (pv 4) rfl) A4)) A9 (E7 _)) (qt8 (qf8 (zcl (yl6 T) hr T.zi B5 (A0 (G0 (B9 (E3 hr)) (J8 (pv 4) rfl) (qj5 X7 A9) (fun _ _=>rfl)) A4))))))
  ·refine A8 ?_
   refine zst (i:=5) S ?_
   exact(yh3 PySem.F.plainAttrs_list PySem.F.slot_list_pop PySem.F.type_list_pop yh5 (J8 (pv 4) rfl))
  ·exact I9
 refine A5 ?_ ?_
 ·exact(C9 (U5 PySem.F.plainAttrs_list PySem.F.slot_list_append PySem.F.type_list_append M3 (J8 (pv 0) rfl) (A0 (C4 (A0 (pv 1) (A0 (pv 2) (A0 (B6 qa0 (J8 (pv 4) rfl) (C4 (A0 (E5 E4 rfl T.z_len boot_len (A0 (J8 (pv 4) rfl) A4)) A4))) (A0 (E5 E4 rfl T.z_len boot_len (A0 (pv 5) A4)) A4))))) A4)))
 refine A8 ?_
 exact(C9 (U5 PySem.F.plainAttrs_list PySem.F.slot_list_append PySem.F.type_list_append M3 (J8 (pv 4) rfl) (A0 (B6 qa0 (pv 5) (pv 3)) A4)))
theorem wd2(T:Txt K mg t):L5 P w K mg base CX0 3 t.zd.a t.zd.d ["book","name"] (qg4 K):=by
 refine T.zd.F.ok xj8 (by walk_at "n") (fun cdv A outer s H vs Q E hr h=>⟨wj4 K t.c_WALL_SORTS,?_,yj5 T.q_WALL_SORTS h⟩)
 have S:=xj8
 refine A8 ?_
 exact(C5 (qu0 (wv6 (E3 hr)) (zcl (qt1 T) hr T.zc B5 (A0 (pv 0) (A0 (pv 1) A4))) (M8 rfl T.g_WALL_SORTS rfl) (by with_unfolding_all rfl)))
theorem we4(T:Txt K mg t):L5 P w K mg base CX0 3 t.zv.a t.zv.d ["book","name"] (X1 K):=by
 refine T.zv.F.ok wd7 (by walk_at "n") (fun cdv A outer s H vs Q E hr h=>⟨qh8 K,?_,xc2 h⟩)
 have S:=wd7
 refine A5 ?_ ?_
 ·refine zst (i:=2) S ?_
  exact(P2 A4)
 refine A5 ?_ ?_
 ·refine zst (i:=3) S ?_
  exact(zcl (xk7 T) hr T.ze B5 (A0 (pv 0) (A0 (pv 1) A4)))
 refine A5 ?_ ?_
 ·refine wf0 PassesOwn.never ?_ ?_
  ·exact(C8 qy2 (pv 3) V2 (E7 _))
  ·refine A5 ?_ ?_
   ·exact(C9 (U5 PySem.F.plainAttrs_list PySem.F.slot_list_append PySem.F.type_list_append M3 (pv 2) (A0 (pv 3) A4)))
   refine A8 ?_
   refine zst (i:=3) S ?_
   exact(zcl (xk7 T) hr T.ze B5 (A0 (pv 0) (A0 (pv 3) A4)))
 refine A8 ?_
 exact(C5 (X4 W2 rfl T.z_tuple boot_tuple (A0 (pv 2) A4)))
theorem xw7(T:Txt K mg t):L5 P w K mg base CX0 3 t.yc.a t.yc.d ["text","searched"] (qq0 K):=by
 refine T.yc.F.ok wu2 (by walk_at "n") (fun cdv A outer s H vs Q E hr h=>⟨qu6 K,?_,xu3 h⟩)
 have S:=wu2
 refine A5 ?_ ?_
 ·refine zst (i:=2) S ?_
  exact(P2 A4)
 refine A5 ?_ ?_
 ·refine zst (i:=3) S ?_
  exact(U5 PySem.F.plainAttrs_str PySem.F.slot_str_find PySem.F.type_str_find xf8 (pv 0) (A0 B3 (A0 (pv 1) A4)))
 refine A5 ?_ ?_
 ·refine wf0 PassesOwn.never ?_ ?_
  ·exact(C8 zt2 (pv 3) A9 (E7 _))
  ·refine A5 ?_ ?_
   ·refine zst (i:=4) S ?_
    exact(zcl (ye9 T) hr T.ye B5 (A0 (pv 0) (A0 (pv 3) A4)))
   refine A8 ?_
   refine N1 ?_ ?_ ?_
   ·exact(C8 wn6 (pv 4) V2 (E7 _))
   ·refine A8 ?_
    refine zst (i:=3) S ?_
    exact(U5 PySem.F.plainAttrs_str PySem.F.slot_str_find PySem.F.type_str_find xf8 (pv 0) (A0 B3 (A0 (B6 C6 (pv 3) A9) A4)))
   ·refine A5 ?_ ?_
    ·exact(C9 (U5 PySem.F.plainAttrs_list PySem.F.slot_list_append PySem.F.type_list_append M3 (pv 2) (A0 (zcl (xk8 T) hr T.yf B5 (A0 (pv 0) (A0 (pv 3) (A0 (pv 4) A4)))) A4)))
    refine A8 ?_
    refine zst (i:=3) S ?_
    exact(U5 PySem.F.plainAttrs_str PySem.F.slot_str_find PySem.F.type_str_find xf8 (pv 0) (A0 B3 (A0 (pv 4) A4)))
 refine A8 ?_
 exact(C5 (pv 2))
theorem yf0(T:Txt K mg t):L5 P w K mg base CX0 3 t.yy.a t.yy.d ["_law_names_here","_law_number","_law_heaps","_law_mends","_law_start"] (qn0 K):=by
 refine T.yy.F.ok xb3 (by walk_at "n") (fun cdv A outer s H vs Q E hr h=>⟨wc5 K,?_,ye2 h⟩)
 have S:=xb3
 refine A5 ?_ ?_
 ·refine zst (i:=5) S ?_
  exact(B6 wu7 (E5 E4 rfl T.z_len boot_len (A0 (pv 2) A4)) A9)
 refine A5 ?_ ?_
 ·refine N1 ?_ ?_ ?_
  ·exact(PW.pt (wa7 (C8 wv5 (pv 5) A9 (E7 _)) (qt8 (C8 (U1 (qp0 hr)) (B6 V4 (B6 qt9 (pv 1) A9) A9) A9 (E7 _)))))
  ·refine A5 ?_ ?_
   ·exact(C9 (U5 PySem.F.plainAttrs_list PySem.F.slot_list_append PySem.F.type_list_append M3 (pv 2) (A0 (P2 A4) A4)))
   refine A8 ?_
   exact(C5 (B6 C6 (B6 C6 B3 (G0 (B9 (E3 hr)) (pv 0) (B6 qe5 (B6 V4 (pv 5) A9) A9) (fun _ _=>rfl))) B3))
  ·exact I9
 refine A5 ?_ ?_
 ·refine N1 ?_ ?_ ?_
  ·exact(C8 qr2 (pv 5) A9 (E7 _))
  ·refine A8 ?_
   exact(C5 (zcl (wi5 T) hr T.yx B5 (A0 (pv 0) (A0 (pv 2) A4))))
  ·exact I9
 refine A5 ?_ ?_
 ·exact(C9 (U5 PySem.F.plainAttrs_list PySem.F.slot_list_append PySem.F.type_list_append M3 (pv 3) (A0 (C4 (A0 (pv 4) (A0 (B6 C6 (B6 C6 (pv 4) (E5 E4 rfl T.z_len boot_len (A0 (G0 (B9 (E3 hr)) (pv 0) A9 (fun _ _=>rfl)) A4))) A9) (A0 B3 (A0 B3 A4))))) A4)))
 refine A8 ?_
 exact(C5 (B6 C6 (B6 C6 B3 (G0 (B9 (E3 hr)) (pv 0) A9 (fun _ _=>rfl))) B3))
theorem wz8(T:Txt K mg t):L5 P w K mg base CX0 3 t.a_c_Reader_init t.d_c_Reader_init ["self","book"] (qa5 K):=by
 refine T.F_c_Reader_init.ok qz9 (by walk_at "n") (fun cdv A outer s H vs Q E hr h=>⟨qf1 K t.k_Branch,?_,wx4 T.cz h⟩)
 have S:=qz9
 refine A5 ?_ ?_
 ·exact(qw5 (pv 0) (pv 1) rfl)
 refine A5 ?_ ?_
 ·exact(qw5 (pv 0) (P2 (A0 (xr5 T.m_c_Branch_init (wa4 T) (hr.mono (by walk_at "le")) rfl T.n_Branch T.b_c_Branch_init .nil B5 (A0 (M8 rfl T.g_ROOT_NAME.1 T.g_ROOT_NAME.2) (A0 (C4 A4) A4))) A4)) rfl)
 refine A5 ?_ ?_
 ·exact(qw5 (pv 0) (P2 A4) rfl)
 refine A8 ?_
 exact(qw5 (pv 0) (P2 A4) rfl)
theorem wa5(T:Txt K mg t):L5 P w K mg base CX0 3 t.a_c_Reader_is_in_frame t.d_c_Reader_is_in_frame ["self"] (P5 K):=by
 refine T.F_c_Reader_is_in_frame.ok qh0 (by walk_at "n") (fun cdv A outer s H vs Q E hr h=>⟨Q5 K t.k_Reader,?_,qz0 T.cz h⟩)
 have S:=qh0
 refine A8 ?_
 refine C5 ?_
 refine qu0 (U1 (qp0 hr)) ?_ ?_ (E7 _)
 ·refine zcl (qt1 T) hr T.zc B5 ?_
  refine A0 ?_ ?_
  ·exact(J8 (pv 0) rfl)
  refine A0 ?_ ?_
  ·refine zcl (qj3 T) hr T.zj B5 ?_
   refine A0 ?_ ?_
   ·exact(T4 (pv 0) T.cz.cl_Reader T.m_c_Reader_open_names (M6 T) (hr.mono (by walk_at "le")) T.b_c_Reader_open_names .nil B5)
   exact A4
  exact A4
 ·exact B3
theorem qw4(T:Txt K mg t):L5 P w K mg base CX0 3 t.a_c_Reader_enter t.d_c_Reader_enter ["self","name"] (T6 K):=by
 refine T.F_c_Reader_enter.ok qw1 (by walk_at "n") (fun cdv A outer s H vs Q E hr h=>⟨qa1 K t.k_Branch,?_,wr8 T.cz h⟩)
 have S:=qw1
 refine A5 ?_ ?_
 ·refine zst (i:=2) S ?_
  exact(G0 (B9 (E3 hr)) (J8 (pv 0) rfl) (qj5 X7 A9) (fun _ _=>rfl))
 refine A8 ?_
 exact(C9 (U5 PySem.F.plainAttrs_list PySem.F.slot_list_append PySem.F.type_list_append M3 (J8 (pv 0) rfl) (A0 (xr5 T.m_c_Branch_init (wa4 T) (hr.mono (by walk_at "le")) rfl T.n_Branch T.b_c_Branch_init .nil B5 (A0 (pv 1) (A0 (B6 qa0 (J8 (pv 2) rfl) (C4 (A0 (E5 E4 rfl T.z_len boot_len (A0 (J8 (pv 2) rfl) A4)) A4))) A4))) A4)))
theorem wp3(T:Txt K mg t):L5 P w K mg base CX0 4 t.zk.a t.zk.d ["book","names"] (ql2 K):=by
 refine T.zk.F.ok xk2 (by walk_at "n") (fun cdv A outer s H vs Q E hr h=>⟨wj7 K,?_,yj7 h⟩)
 have S:=xk2
 refine A5 ?_ ?_
 ·refine zst (i:=2) S ?_
  exact A9
 refine A5 ?_ ?_
 ·refine X6 PassesOwn.never rfl ?_ ?_ ?_
  ·exact(ya4 rfl T.z_enumerate (A0 (pv 1) A4))
  ·exact(xe1 rfl (V3 (J6 (i:=3) S.nd rfl (Or.inl rfl)) (V3 (J6 (i:=4) S.nd rfl (Or.inl rfl)) wp7)))
  ·refine A8 ?_
   refine N1 ?_ ?_ ?_
   ·exact(qf8 (zcl (wd2 T) hr T.zd B5 (A0 (pv 0) (A0 (pv 4) A4))))
   ·refine A8 ?_
    refine zst (i:=2) S ?_
    exact(B6 qa0 (pv 3) A9)
   ·exact I9
 refine A8 ?_
 exact(C5 (X4 W2 rfl T.z_tuple boot_tuple (A0 (Q7 wq9 (pv 1) (O8 (pv 2)) qo8) A4)))
theorem wp4(T:Txt K mg t):L5 P w K mg base CX0 4 t.zn.a t.zn.d ["book","names","name"] (qr7 K):=by
 refine T.zn.F.ok xk3 (by walk_at "n") (fun cdv A outer s H vs Q E hr h=>⟨wj5 K,?_,yj6 h⟩)
 have S:=xk3
 refine A5 ?_ ?_
 ·refine X6 PassesOwn.never rfl ?_ ?_ ?_
  ·exact(yu7 rfl T.z_range (A0 (B6 wu7 (E5 E4 rfl T.z_len boot_len (A0 (pv 1) A4)) A9) (A0 (qj5 X7 A9) (A0 (qj5 X7 A9) A4))))
  ·exact(J6 (i:=3) S.nd rfl (Or.inl rfl))
  ·refine A5 ?_ ?_
   ·refine N1 ?_ ?_ ?_
    ·exact(C8 (U1 (qp0 hr)) (G0 (B9 (E3 hr)) (pv 1) (pv 3) (fun _ _=>rfl)) (pv 2) (E7 _))
    ·refine A8 ?_
     exact(C5 (pv 3))
    ·exact I9
   refine A8 ?_
   refine N1 ?_ ?_ ?_
   ·exact(PW.pt (wa7 (qf8 (zcl (wd2 T) hr T.zd B5 (A0 (pv 0) (A0 (G0 (B9 (E3 hr)) (pv 1) (pv 3) (fun _ _=>rfl)) A4)))) (qt8 (yf1 (qf8 (zcl (yl9 T) hr T.zh B5 (A0 (pv 0) (A0 (G0 (B9 (E3 hr)) (pv 1) (pv 3) (fun _ _=>rfl)) (A0 (pv 2) A4)))))))))
   ·refine A8 ?_
    exact(C5 V2)
   ·exact I9
 refine A8 ?_
 exact(C5 V2)
theorem xw8(T:Txt K mg t):L5 P w K mg base CX0 4 t.zp.a t.zp.d ["book","names"] (qp5 K):=by
 refine T.zp.F.ok wt8 (by walk_at "n") (fun cdv A outer s H vs Q E hr h=>⟨qu2 K,?_,xt7 h⟩)
 have S:=wt8
 refine A5 ?_ ?_
 ·refine Z3 (i:=2) S.nd rfl (Or.inl rfl) ?_ rfl ?_
  ·refine zcl (we4 T) hr T.zv B5 ?_
   refine A0 ?_ ?_
   ·exact(pv 0)
   refine A0 ?_ ?_
   ·exact(zcl (qj3 T) hr T.zj B5 (A0 (pv 1) A4))
   exact A4
  ·walk_at "or"
 refine A8 ?_
 exact(C5 (qq9 (C8 qr2 (B6 C6 (E5 E4 rfl T.z_len boot_len (A0 (pv 1) A4)) (E5 E4 rfl T.z_len boot_len (A0 (pv 2) A4))) (M8 rfl T.g_MOST_OPEN.1 T.g_MOST_OPEN.2) (E7 _)) V2 (pv 2)))
theorem wu6(T:Txt K mg t):L5 P w K mg base CX0 4 t.yb.a t.yb.d ["text","settled","searched"] (Y3 K):=by
 refine T.yb.F.ok qw0 (by walk_at "n") (fun cdv A outer s H vs Q E hr h=>⟨qa4 K,?_,ws3 h⟩)
 have S:=qw0
 refine A5 ?_ ?_
 ·refine zst (i:=3) S ?_
  exact(P2 A4)
 refine A5 ?_ ?_
 ·refine X6 PassesOwn.never rfl ?_ ?_ ?_
  ·exact(qg2 (zcl (xw7 T) hr T.yc B5 (A0 (pv 0) (A0 (pv 2) A4))))
  ·exact(J6 (i:=4) S.nd rfl (Or.inl rfl))
  ·refine A5 ?_ ?_
   ·exact(C9 (U5 PySem.F.plainAttrs_list PySem.F.slot_list_extend PySem.F.type_list_extend xo6 (pv 3) (A0 (zcl (we3 T) hr T.yg B5 (A0 (pv 0) (A0 (pv 1) (A0 (G0 (B9 (E3 hr)) (pv 4) (M8 rfl T.g_START.1 T.g_START.2) (fun _ _=>rfl)) A4)))) A4)))
   refine A5 ?_ ?_
   ·exact(C9 (U5 PySem.F.plainAttrs_list PySem.F.slot_list_append PySem.F.type_list_append M3 (pv 3) (A0 (pv 4) A4)))
   refine A8 ?_
   refine zst (i:=1) S ?_
   exact(G0 (B9 (E3 hr)) (pv 4) (M8 rfl T.g_STOP.1 T.g_STOP.2) (fun _ _=>rfl))
 refine A8 ?_
 exact(C5 (pv 3))
theorem wp5(T:Txt K mg t):L5 P w K mg base CX0 4 t.yl.a t.yl.d ["book","closed"] (W8 K):=by
 refine T.yl.F.ok qs8 (by walk_at "n") (fun cdv A outer s H vs Q E hr h=>⟨Y6 K,?_,wo6 h⟩)
 have S:=qs8
 refine A5 ?_ ?_
 ·refine zst (i:=2) S ?_
  exact(P2 A4)
 refine A5 ?_ ?_
 ·refine X6 PassesOwn.never rfl ?_ ?_ ?_
  ·exact(qg2 (pv 1))
  ·exact(J6 (i:=3) S.nd rfl (Or.inl rfl))
  ·refine A5 ?_ ?_
   ·refine N1 ?_ ?_ ?_
    ·exact(qf8 (zcl (wd2 T) hr T.zd B5 (A0 (pv 0) (A0 (pv 3) A4))))
    ·refine A8 ?_
     exact yx0
    ·exact I9
   refine A8 ?_
   refine N1 ?_ ?_ ?_
   ·exact(C8 (U1 (qp0 hr)) (zcl (qt1 T) hr T.zc B5 (A0 (pv 0) (A0 (pv 3) A4))) B3 (E7 _))
   ·refine A8 ?_
    exact(C9 (U5 PySem.F.plainAttrs_list PySem.F.slot_list_append PySem.F.type_list_append M3 (pv 2) (A0 (pv 3) A4)))
   ·exact I9
 refine A8 ?_
 exact(C5 (pv 2))
theorem X9(T:Txt K mg t):L5 P w K mg base CX0 4 t.a_c_Reader_last_wall t.d_c_Reader_last_wall ["self"] (N0 K):=by
 refine T.F_c_Reader_last_wall.ok qk7 (by walk_at "n") (fun cdv A outer s H vs Q E hr h=>⟨T7 K,?_,we5 T.cz h⟩)
 have S:=qk7
 refine A5 ?_ ?_
 ·exact(yn3 (i:=1) S.nd rfl rfl rfl (qf9 (osc:=B1 U0) (ON:=["self","walls"]) (N:=["self","branch"]) (fr:=[some 0,none]) (by decide +kernel) rfl rfl) (qg2 (J8 (pv 0) rfl)) (fun _ _ _ _ _ _=>(J6 (i:=1) (show List.Nodup (["self","branch"]:List Str) by decide +kernel) rfl (Or.inl rfl))) wi9 (fun _ _ _ _ _ _=>(xs2 (qf8 (zcl (wd2 T) hr T.zd B5 (A0 (J8 (pv 0) rfl) (A0 (J8 (pv 1) rfl) A4)))))) (fun _ _ _ _ _ _=>(pv 1)))
 refine A8 ?_
 refine C5 ?_
 exact(qq9 (C8 qr2 (E5 E4 rfl T.z_len boot_len (A0 (pv 1) A4)) A9 (E7 _)) (G0 (B9 (E3 hr)) (pv 1) (qj5 X7 A9) (fun _ _=>rfl)) (G0 (B9 (E3 hr)) (J8 (pv 0) rfl) A9 (fun _ _=>rfl)))
theorem qg5(T:Txt K mg t):L5 P w K mg base CX0 4 t.a_c_Reader_put_in t.d_c_Reader_put_in ["self","name","start","rule"] (O4 K):=by
 refine T.F_c_Reader_put_in.ok qt0 (by walk_at "n") (fun cdv A outer s H vs Q E hr h=>⟨Y5 K t.k_Reader,?_,wo5 T.cz h⟩)
 have S:=qt0
 refine A5 ?_ ?_
 ·exact(C9 (U5 PySem.F.plainAttrs_list PySem.F.slot_list_append PySem.F.type_list_append M3 (J8 (pv 0) rfl) (A0 (C4 (A0 (pv 2) (A0 (pv 2) (A0 (zcl (xn2 T) hr T.yh B5 (A0 (pv 1) A4)) (A0 (pv 3) A4))))) A4)))
 refine A8 ?_
 exact(C9 (O7 (pv 0) T.cz.cl_Reader T.m_c_Reader_enter (qw4 T) (hr.mono (by walk_at "le")) T.b_c_Reader_enter .nil B5 (A0 (pv 1) A4)))
theorem wz9(T:Txt K mg t):L5 P w K mg base CX0 5 t.zu.a t.zu.d ["book","names","name"] (qa3 K):=by
 refine T.zu.F.ok qz6 (by walk_at "n") (fun cdv A outer s H vs Q E hr h=>⟨qf0 K,?_,ww9 h⟩)
 have S:=qz6
 refine A5 ?_ ?_
 ·refine zst (i:=3) S ?_
  exact(G0 (B9 (E3 hr)) (zcl (wa3 T) hr T.zb B5 (A0 (pv 0) (A0 (pv 2) A4))) (M8 rfl T.g_SHUTS.1 T.g_SHUTS.2) (fun _ _=>rfl))
 refine A5 ?_ ?_
 ·refine Z3 (i:=4) S.nd rfl (Or.inl rfl) ?_ rfl ?_
  ·refine B6 wu7 ?_ ?_
   ·exact(E5 E4 rfl T.z_len boot_len (A0 (pv 1) A4))
   ·exact(E5 E4 rfl T.z_len boot_len (A0 (zcl (wp3 T) hr T.zk B5 (A0 (pv 0) (A0 (pv 1) A4))) A4))
  ·walk_at "or"
 refine A5 ?_ ?_
 ·refine X6 PassesOwn.never rfl ?_ ?_ ?_
  ·exact(yr9 rfl T.z_range (A0 (pv 4) (A0 (E5 E4 rfl T.z_len boot_len (A0 (pv 1) A4)) A4)))
  ·exact(J6 (i:=5) S.nd rfl (Or.inl rfl))
  ·refine A8 ?_
   refine N1 ?_ ?_ ?_
   ·exact(C8 (wv6 (E3 hr)) (G0 (B9 (E3 hr)) (pv 1) (pv 5) (fun _ _=>rfl)) (pv 3) (by with_unfolding_all rfl))
   ·refine A8 ?_
    exact(C5 (pv 5))
   ·exact I9
 refine A8 ?_
 exact(C5 (E5 E4 rfl T.z_len boot_len (A0 (pv 1) A4)))
theorem xw9(T:Txt K mg t):L5 P w K mg base CX0 5 t.zw.a t.zw.d ["book","kept","put"] (qp7 K):=by
 refine T.zw.F.ok wt9 (by walk_at "n") (fun cdv A outer s H vs Q E hr h=>⟨qu3 K,?_,xt8 h⟩)
 have S:=wt9
 refine A5 ?_ ?_
 ·refine X6 PassesOwn.never rfl ?_ ?_ ?_
  ·exact(ya4 rfl T.z_enumerate (A0 (pv 2) A4))
  ·exact(xe1 rfl (V3 (J6 (i:=3) S.nd rfl (Or.inl rfl)) (V3 (J6 (i:=4) S.nd rfl (Or.inl rfl)) wp7)))
  ·refine A5 ?_ ?_
   ·refine zst (i:=5) S ?_
    exact(zcl (wp3 T) hr T.zk B5 (A0 (pv 0) (A0 (B6 qa0 (pv 1) (Q7 wq9 (pv 2) qo8 (O8 (pv 3)))) A4)))
   refine A8 ?_
   refine N1 ?_ ?_ ?_
   ·exact(qf8 (zcl (we2 T) hr T.zm B5 (A0 (pv 5) (A0 (G0 (B9 (E3 hr)) (zcl (wa3 T) hr T.zb B5 (A0 (pv 0) (A0 (pv 4) A4))) (M8 rfl T.g_BARS.1 T.g_BARS.2) (fun _ _=>rfl)) A4))))
   ·refine A8 ?_
    exact(C5 xx7)
   ·exact I9
 refine A8 ?_
 exact(C5 xx7)
theorem xx0(T:Txt K mg t):L5 P w K mg base CX0 5 t.ya.a t.ya.d ["text"] (qq1 K):=by
 refine T.ya.F.ok wu1 (by walk_at "n") (fun cdv A outer s H vs Q E hr h=>⟨qu7 K,?_,xu4 h⟩)
 have S:=wu1
 refine A5 ?_ ?_
 ·refine zst (i:=1) S ?_
  exact(zcl (wu6 T) hr T.yb B5 (A0 (pv 0) (A0 A9 (A0 A9 A4))))
 refine A5 ?_ ?_
 ·refine zst (i:=2) S ?_
  exact(qq9 (C8 qr2 (E5 E4 rfl T.z_len boot_len (A0 (pv 1) A4)) A9 (E7 _)) (G0 (B9 (E3 hr)) (G0 (B9 (E3 hr)) (pv 1) (qj5 X7 A9) (fun _ _=>rfl)) (M8 rfl T.g_STOP.1 T.g_STOP.2) (fun _ _=>rfl)) A9)
 refine A8 ?_
 exact(C5 (B6 C6 (pv 1) (zcl (we3 T) hr T.yg B5 (A0 (pv 0) (A0 (pv 2) (A0 (E5 E4 rfl T.z_len boot_len (A0 (pv 0) A4)) A4))))))
theorem xa0(T:Txt K mg t):L5 P w K mg base CX0 5 t.yn.a t.yn.d ["book","names","name"] (qb0 K):=by
 refine T.yn.F.ok qz7 (by walk_at "n") (fun cdv A outer s H vs Q E hr h=>⟨qf3 K,?_,wy2 h⟩)
 have S:=qz7
 refine A5 ?_ ?_
 ·refine zst (i:=3) S ?_
  exact(zcl (wa3 T) hr T.zb B5 (A0 (pv 0) (A0 (pv 2) A4)))
 refine A5 ?_ ?_
 ·refine zst (i:=4) S ?_
  exact(B6 qa0 (B6 qa0 (C4 (A0 (pv 2) A4)) (G0 (B9 (E3 hr)) (pv 3) (M8 rfl T.g_SHUTS.1 T.g_SHUTS.2) (fun _ _=>rfl))) (G0 (B9 (E3 hr)) (pv 3) (M8 rfl T.g_BARS.1 T.g_BARS.2) (fun _ _=>rfl)))
 refine A8 ?_
 refine C5 ?_
 exact(yw9 (qu0 wv5 (E5 E4 rfl T.z_len boot_len (A0 (pv 1) A4)) (M8 rfl T.g_MOST_OPEN.1 T.g_MOST_OPEN.2) (E7 _)) (yw8 (zr3 (zcl (we2 T) hr T.zm B5 (A0 (zcl (wp3 T) hr T.zk B5 (A0 (pv 0) (A0 (pv 1) A4))) (A0 (pv 4) A4))))))
theorem U3(T:Txt K mg t):L5 P w K mg base CX0 5 t.a_c_Reader_close_behind t.d_c_Reader_close_behind ["self","kept","start","rule"] (L8 K):=by
 refine T.F_c_Reader_close_behind.ok qe3 (by walk_at "n") (fun cdv A outer s H vs Q E hr h=>⟨P6 K t.k_Reader,?_,qw9 T.cz h⟩)
 have S:=qe3
 refine A5 ?_ ?_
 ·refine zst (i:=4) S ?_
  exact(Q7 wq9 (T4 (pv 0) T.cz.cl_Reader T.m_c_Reader_open_names (M6 T) (hr.mono (by walk_at "le")) T.b_c_Reader_open_names .nil B5) (O8 (pv 1)) qo8)
 refine A5 ?_ ?_
 ·refine X6 PassesOwn.never rfl ?_ ?_ ?_
  ·exact(zl7 rfl T.z_reversed (A0 (pv 4) A4))
  ·exact(J6 (i:=5) S.nd rfl (Or.inl rfl))
  ·refine A5 ?_ ?_
   ·exact(C9 (U5 PySem.F.plainAttrs_list PySem.F.slot_list_append PySem.F.type_list_append M3 (J8 (pv 0) rfl) (A0 (C4 (A0 (pv 2) (A0 (pv 2) (A0 (zcl (xn3 T) hr T.yi B5 (A0 (pv 5) A4)) (A0 (pv 3) A4))))) A4)))
   refine A8 ?_
   exact(C9 (T4 (pv 0) T.cz.cl_Reader T.m_c_Reader_leave (qj4 T) (hr.mono (by walk_at "le")) T.b_c_Reader_leave .nil B5))
 refine A8 ?_
 exact(C9 (U5 PySem.F.plainAttrs_list PySem.F.slot_list_extend PySem.F.type_list_extend xo6 (J8 (T4 (pv 0) T.cz.cl_Reader T.m_c_Reader_last_wall (X9 T) (hr.mono (by walk_at "le")) T.b_c_Reader_last_wall .nil B5) rfl) (A0 (zcl (wp5 T) hr T.yl B5 (A0 (J8 (pv 0) rfl) (A0 (pv 4) A4))) A4)))
theorem qt2(T:Txt K mg t):L5 P w K mg base CX0 6 t.zt.a t.zt.d ["book","names","name"] (W7 K):=by
 refine T.zt.F.ok qs7 (by walk_at "n") (fun cdv A outer s H vs Q E hr h=>⟨Y1 K,?_,wo2 h⟩)
 have S:=qs7
 refine A5 ?_ ?_
 ·refine Z3 (i:=3) S.nd rfl (Or.inl rfl) ?_ rfl ?_
  ·refine zcl (we4 T) hr T.zv B5 ?_
   refine A0 ?_ ?_
   ·exact(pv 0)
   refine A0 ?_ ?_
   ·exact(zcl (qj3 T) hr T.zj B5 (A0 (pv 1) A4))
   exact A4
  ·walk_at "or"
 refine A5 ?_ ?_
 ·refine N1 ?_ ?_ ?_
  ·exact(C8 qr2 (E5 E4 rfl T.z_len boot_len (A0 (pv 3) A4)) A9 (E7 _))
  ·refine A8 ?_
   exact(C5 (C4 (A0 (E5 E4 rfl T.z_len boot_len (A0 (pv 1) A4)) (A0 (B6 qa0 (pv 3) (C4 (A0 (pv 2) A4))) A4))))
  ·exact I9
 refine A8 ?_
 exact(C5 (C4 (A0 (zcl (wz9 T) hr T.zu B5 (A0 (pv 0) (A0 (pv 1) (A0 (pv 2) A4)))) (A0 (C4 (A0 (pv 2) A4)) A4))))
theorem wp6(T:Txt K mg t):L5 P w K mg base CX0 6 t.a_c_Reader_finish t.d_c_Reader_finish ["self","size"] (W9 K):=by
 refine T.F_c_Reader_finish.ok qs9 (by walk_at "n") (fun cdv A outer s H vs Q E hr h=>⟨Y7 K t.k_Reader,?_,wo8 T.cz h⟩)
 have S:=qs9
 refine A8 ?_
 exact(C9 (O7 (pv 0) T.cz.cl_Reader T.m_c_Reader_close_behind (U3 T) (hr.mono (by walk_at "le")) T.b_c_Reader_close_behind .nil B5 (A0 A9 (A0 (pv 1) (A0 B3 A4)))))
theorem qx7(T:Txt K mg t):L5 P w K mg base CX0 6 t.a_c_Reader_read_closing t.d_c_Reader_read_closing ["self","start","signs","name"] (P1 K):=by
 refine T.F_c_Reader_read_closing.ok qe2 (by walk_at "n") (fun cdv A outer s H vs Q E hr h=>⟨P8 K t.k_Reader,?_,qx3 T.cz h⟩)
 have S:=qe2
 refine A5 ?_ ?_
 ·refine Z3 (i:=4) S.nd rfl (Or.inl rfl) ?_ rfl ?_
  ·refine zcl (wp4 T) hr T.zn B5 ?_
   refine A0 ?_ ?_
   ·exact(J8 (pv 0) rfl)
   refine A0 ?_ ?_
   ·exact(T4 (pv 0) T.cz.cl_Reader T.m_c_Reader_open_names (M6 T) (hr.mono (by walk_at "le")) T.b_c_Reader_open_names .nil B5)
   refine A0 ?_ ?_
   ·exact(pv 3)
   exact A4
  ·walk_at "or"
 refine A5 ?_ ?_
 ·refine zst (i:=5) S ?_
  exact(T4 (pv 0) T.cz.cl_Reader T.m_c_Reader_last_wall (X9 T) (hr.mono (by walk_at "le")) T.b_c_Reader_last_wall .nil B5)
 refine A8 ?_
 refine N1 ?_ ?_ ?_
 ·exact(C8 qy2 (pv 4) V2 (E7 _))
 ·refine A5 ?_ ?_
  ·exact(C9 (O7 (pv 0) T.cz.cl_Reader T.m_c_Reader_close_behind (U3 T) (hr.mono (by walk_at "le")) T.b_c_Reader_close_behind .nil B5 (A0 (B6 C6 (pv 4) A9) (A0 (pv 1) (A0 B3 A4)))))
  refine A8 ?_
  exact(C9 (T4 (pv 0) T.cz.cl_Reader T.m_c_Reader_leave (qj4 T) (hr.mono (by walk_at "le")) T.b_c_Reader_leave .nil B5))
 ·refine A8 ?_
  refine N1 ?_ ?_ ?_
  ·exact(C8 (wv6 (E3 hr)) (pv 3) (J8 (pv 5) rfl) (by with_unfolding_all rfl))
  ·refine A5 ?_ ?_
   ·exact(qw5 (pv 5) (zcl (xc9 T) hr T.ym B5 (A0 (J8 (pv 5) rfl) (A0 (pv 3) A4))) rfl)
   refine A8 ?_
   exact(C9 (O7 (pv 0) T.cz.cl_Reader T.m_c_Reader_drop (Q6 T) (hr.mono (by walk_at "le")) T.b_c_Reader_drop .nil B5 (A0 (pv 1) (A0 (pv 2) (A0 B3 A4)))))
  ·refine A8 ?_
   exact(C9 (O7 (pv 0) T.cz.cl_Reader T.m_c_Reader_drop (Q6 T) (hr.mono (by walk_at "le")) T.b_c_Reader_drop .nil B5 (A0 (pv 1) (A0 (pv 2) (A0 B3 A4)))))
theorem qt3(T:Txt K mg t):L5 P w K mg base CX0 6 t.a_c_Reader_put_in_waiting t.d_c_Reader_put_in_waiting ["self","start"] (N8 K):=by
 refine T.F_c_Reader_put_in_waiting.ok Z9 (by walk_at "n") (fun cdv A outer s H vs Q E hr h=>⟨O2 K t.k_Reader,?_,qs1 T.cz h⟩)
 have S:=Z9
 refine A5 ?_ ?_
 ·refine zst (i:=2) S ?_
  exact(T4 (pv 0) T.cz.cl_Reader T.m_c_Reader_last_wall (X9 T) (hr.mono (by walk_at "le")) T.b_c_Reader_last_wall .nil B5)
 refine A5 ?_ ?_
 ·refine zst (i:=3) S ?_
  exact(J8 (pv 2) rfl)
 refine A5 ?_ ?_
 ·exact(qw5 (pv 2) (P2 A4) rfl)
 refine A8 ?_
 refine X6 PassesOwn.never rfl ?_ ?_ ?_
 ·exact(qg2 (pv 3))
 ·exact(J6 (i:=4) S.nd rfl (Or.inl rfl))
 ·refine A8 ?_
  refine N1 ?_ ?_ ?_
  ·exact(qf8 (zcl (xa0 T) hr T.yn B5 (A0 (J8 (pv 0) rfl) (A0 (T4 (pv 0) T.cz.cl_Reader T.m_c_Reader_open_names (M6 T) (hr.mono (by walk_at "le")) T.b_c_Reader_open_names .nil B5) (A0 (pv 4) A4)))))
  ·refine A8 ?_
   exact(C9 (O7 (pv 0) T.cz.cl_Reader T.m_c_Reader_put_in (qg5 T) (hr.mono (by walk_at "le")) T.b_c_Reader_put_in .nil B5 (A0 (pv 4) (A0 (pv 1) (A0 B3 A4)))))
  ·exact I9
theorem wi7(T:Txt K mg t):L5 P w K mg base CX0 7 t.a_c_Reader_read_run t.d_c_Reader_read_run ["self","start","signs","told"] (T9 K):=by
 refine T.F_c_Reader_read_run.ok qn1 (by walk_at "n") (fun cdv A outer s H vs Q E hr h=>⟨V0 K t.k_Reader,?_,wh2 T.cz h⟩)
 have S:=qn1
 refine A5 ?_ ?_
 ·refine Z3 (i:=4) S.nd rfl (Or.inl rfl) ?_ rfl ?_
  ·refine zcl (xw8 T) hr T.zp B5 ?_
   refine A0 ?_ ?_
   ·exact(J8 (pv 0) rfl)
   refine A0 ?_ ?_
   ·exact(T4 (pv 0) T.cz.cl_Reader T.m_c_Reader_open_names (M6 T) (hr.mono (by walk_at "le")) T.b_c_Reader_open_names .nil B5)
   exact A4
  ·walk_at "or"
 refine A8 ?_
 refine N1 ?_ ?_ ?_
 ·exact(PW.pt (wa7 (qf8 (T4 (pv 0) T.cz.cl_Reader T.m_c_Reader_is_in_frame (wa5 T) (hr.mono (by walk_at "le")) T.b_c_Reader_is_in_frame .nil B5)) (qt8 (C8 (U1 (qp0 hr)) (U5 PySem.F.plainAttrs_str PySem.F.slot_str_strip PySem.F.type_str_strip yu9 (pv 3) (A0 (M8 rfl T.g_BLANKS.1 T.g_BLANKS.2) A4)) B3 (E7 _)))))
 ·refine A8 ?_
  exact(C9 (O7 (pv 0) T.cz.cl_Reader T.m_c_Reader_drop (Q6 T) (hr.mono (by walk_at "le")) T.b_c_Reader_drop .nil B5 (A0 (pv 1) (A0 (pv 2) (A0 B3 A4)))))
 ·refine A8 ?_
  refine N1 ?_ ?_ ?_
  ·exact(C8 wn6 (pv 4) V2 (E7 _))
  ·refine A8 ?_
   exact(C9 (O7 (pv 0) T.cz.cl_Reader T.m_c_Reader_drop (Q6 T) (hr.mono (by walk_at "le")) T.b_c_Reader_drop .nil B5 (A0 (pv 1) (A0 (pv 2) (A0 B3 A4)))))
  ·refine A5 ?_ ?_
   ·refine X6 PassesOwn.never rfl ?_ ?_ ?_
    ·exact(qg2 (pv 4))
    ·exact(J6 (i:=5) S.nd rfl (Or.inl rfl))
    ·refine A8 ?_
     exact(C9 (O7 (pv 0) T.cz.cl_Reader T.m_c_Reader_put_in (qg5 T) (hr.mono (by walk_at "le")) T.b_c_Reader_put_in .nil B5 (A0 (pv 5) (A0 (pv 1) (A0 B3 A4)))))
   refine A5 ?_ ?_
   ·exact(C9 (O7 (pv 0) T.cz.cl_Reader T.m_c_Reader_put_in_waiting (qt3 T) (hr.mono (by walk_at "le")) T.b_c_Reader_put_in_waiting .nil B5 (A0 (pv 1) A4)))
   refine A5 ?_ ?_
   ·refine X6 PassesOwn.never rfl ?_ ?_ ?_
    ·exact(qg2 (zcl (xw5 T) hr T.zz B5 (A0 (pv 2) A4)))
    ·exact(J6 (i:=6) S.nd rfl (Or.inl rfl))
    ·refine A5 ?_ ?_
     ·refine zst (i:=7) S ?_
      exact(B6 C6 (pv 1) (pv 6))
     refine A8 ?_
     exact(C9 (U5 PySem.F.plainAttrs_list PySem.F.slot_list_append PySem.F.type_list_append M3 (J8 (pv 0) rfl) (A0 (C4 (A0 (pv 7) (A0 (B6 C6 (pv 7) A9) (A0 (zcl (yl7 T) hr T.zx B5 (A0 (G0 (B9 (E3 hr)) (pv 2) (pv 6) (fun _ _=>rfl)) A4)) (A0 B3 A4))))) A4)))
   refine A8 ?_
   exact(C9 (O7 (pv 0) T.cz.cl_Reader T.m_c_Reader_add_text (wi6 T) (hr.mono (by walk_at "le")) T.b_c_Reader_add_text .nil B5 (A0 (pv 1) (A0 (pv 2) (A0 (pv 3) A4)))))
theorem xk9(T:Txt K mg t):∀ n:Nat,L5 P w K mg base CX0 (7+n) t.zr.a t.zr.d ["book","names","name"] (qr8 n K)
 | 0 => by
   have FR:L5 P w K mg base CX0 6 t.zr.a t.zr.d ["book","names","name"] (qm9 K 0):=⟨fun _ _ _ _ h=>h.elim,fun _ _ _ _ _ _ _ _ _ _ _ _ _ h=>h.elim⟩
   refine T.zr.F.ok (k:=6) wk6 (by walk_at "n") (fun cdv A outer s H vs Q E hr h=>⟨wg9 K (qm9 K 0),?_,xq1 0 h⟩)
   have S:=wk6
   refine A5 ?_ ?_
   ·refine zst (i:=3) S ?_
    exact(zcl (qw3 T) hr T.zf B5 (A0 (pv 0) (A0 (pv 2) A4)))
   refine A5 ?_ ?_
   ·refine N1 ?_ ?_ ?_
    ·exact(C8 wn6 (pv 3) V2 (E7 _))
    ·refine A8 ?_
     exact(C5 (zcl (qt2 T) hr T.zt B5 (A0 (pv 0) (A0 (pv 1) (A0 (pv 2) A4)))))
    ·exact I9
   refine A5 ?_ ?_
   ·refine zst (i:=4) S ?_
    exact(zcl (wp4 T) hr T.zn B5 (A0 (pv 0) (A0 (pv 1) (A0 (pv 3) A4))))
   refine A5 ?_ ?_
   ·refine N1 ?_ ?_ ?_
    ·exact(C8 qy2 (pv 4) V2 (E7 _))
    ·refine A8 ?_
     exact(C5 (C4 (A0 (B6 qa0 (pv 4) A9) (A0 (C4 (A0 (pv 2) A4)) A4))))
    ·exact I9
   refine A5 ?_ ?_
   ·refine zst (i:=5) S ?_
    exact(zcl FR hr T.zr B5 (A0 (pv 0) (A0 (pv 1) (A0 (pv 3) A4))))
   refine A8 ?_
   refine C5 ?_
   refine C4 ?_
   refine A0 ?_ ?_
   ·exact(G0 (B9 (E3 hr)) (pv 5) A9 (fun _ _=>rfl))
   refine A0 ?_ ?_
   ·exact(B6 qa0 (G0 (B9 (E3 hr)) (pv 5) A9 (fun _ _=>rfl)) (C4 (A0 (pv 2) A4)))
   exact A4
 | n + 1=>by
   have FR:L5 P w K mg base CX0 (7+n) t.zr.a t.zr.d ["book","names","name"] (qm9 K (n+1)):=xk9 T n
   refine T.zr.F.ok (k:=(7+n)) wk6 (by walk_at "n") (fun cdv A outer s H vs Q E hr h=>⟨wg9 K (qm9 K (n+1)),?_,xq1 (n+1) h⟩)
   have S:=wk6
   refine A5 ?_ ?_
   ·refine zst (i:=3) S ?_
    exact(zcl (qw3 T) hr T.zf B5 (A0 (pv 0) (A0 (pv 2) A4)))
   refine A5 ?_ ?_
   ·refine N1 ?_ ?_ ?_
    ·exact(C8 wn6 (pv 3) V2 (E7 _))
    ·refine A8 ?_
     exact(C5 (zcl (qt2 T) hr T.zt B5 (A0 (pv 0) (A0 (pv 1) (A0 (pv 2) A4)))))
    ·exact I9
   refine A5 ?_ ?_
   ·refine zst (i:=4) S ?_
    exact(zcl (wp4 T) hr T.zn B5 (A0 (pv 0) (A0 (pv 1) (A0 (pv 3) A4))))
   refine A5 ?_ ?_
   ·refine N1 ?_ ?_ ?_
    ·exact(C8 qy2 (pv 4) V2 (E7 _))
    ·refine A8 ?_
     exact(C5 (C4 (A0 (B6 qa0 (pv 4) A9) (A0 (C4 (A0 (pv 2) A4)) A4))))
    ·exact I9
   refine A5 ?_ ?_
   ·refine zst (i:=5) S ?_
    exact(zcl FR hr T.zr B5 (A0 (pv 0) (A0 (pv 1) (A0 (pv 3) A4))))
   refine A8 ?_
   refine C5 ?_
   refine C4 ?_
   refine A0 ?_ ?_
   ·exact(G0 (B9 (E3 hr)) (pv 5) A9 (fun _ _=>rfl))
   refine A0 ?_ ?_
   ·exact(B6 qa0 (G0 (B9 (E3 hr)) (pv 5) A9 (fun _ _=>rfl)) (C4 (A0 (pv 2) A4)))
   exact A4
theorem yw4(T:Txt K mg t):L5 P w K mg base CX0 20 t.zr.a t.zr.d ["book","names","name"] (xq0 K):=xk9 T 13
theorem ym0(T:Txt K mg t):L5 P w K mg base CX0 21 t.zo.a t.zo.d ["book","names","name"] (wb5 K):=by
 refine T.zo.F.ok xk4 (by walk_at "n") (fun cdv A outer s H vs Q E hr h=>⟨wj8 K,?_,yj8 h⟩)
 have S:=xk4
 refine A5 ?_ ?_
 ·refine zst (i:=3) S ?_
  exact(zcl (yw4 T) hr T.zr B5 (A0 (pv 0) (A0 (pv 1) (A0 (pv 2) A4))))
 refine A5 ?_ ?_
 ·refine zst (i:=4) S ?_
  exact(X4 W2 rfl T.z_tuple boot_tuple (A0 (Q7 wq9 (pv 1) qo8 (O8 (G0 (B9 (E3 hr)) (pv 3) A9 (fun _ _=>rfl)))) A4))
 refine A5 ?_ ?_
 ·refine zst (i:=5) S ?_
  exact(G0 (B9 (E3 hr)) (pv 3) A9 (fun _ _=>rfl))
 refine A5 ?_ ?_
 ·refine N1 ?_ ?_ ?_
  ·exact(qf8 (zcl (xw9 T) hr T.zw B5 (A0 (pv 0) (A0 (pv 4) (A0 (pv 5) A4)))))
  ·refine A8 ?_
   exact(C5 (C4 (A0 B3 (A0 B3 A4))))
  ·exact I9
 refine A5 ?_ ?_
 ·refine N1 ?_ ?_ ?_
  ·exact(C8 qr2 (B6 qa0 (E5 E4 rfl T.z_len boot_len (A0 (pv 4) A4)) (E5 E4 rfl T.z_len boot_len (A0 (pv 5) A4))) (M8 rfl T.g_MOST_OPEN.1 T.g_MOST_OPEN.2) (E7 _))
  ·refine A8 ?_
   exact(C5 (C4 (A0 B3 (A0 B3 A4))))
  ·exact I9
 refine A8 ?_
 exact(C5 (C4 (A0 B3 (A0 (E5 E4 rfl T.z_len boot_len (A0 (pv 4) A4)) (A0 (pv 5) A4)))))
theorem qx8(T:Txt K mg t):L5 P w K mg base CX0 22 t.a_c_Reader_read_opening t.d_c_Reader_read_opening ["self","start","signs","name"] (O9 K):=by
 refine T.F_c_Reader_read_opening.ok qe1 (by walk_at "n") (fun cdv A outer s H vs Q E hr h=>⟨P7 K t.k_Reader,?_,qx2 T.cz h⟩)
 have S:=qe1
 refine A5 ?_ ?_
 ·refine N1 ?_ ?_ ?_
  ·exact(C8 wn6 (zcl (qt1 T) hr T.zc B5 (A0 (J8 (pv 0) rfl) (A0 (pv 3) A4))) V2 (E7 _))
  ·refine A5 ?_ ?_
   ·exact(C9 (O7 (pv 0) T.cz.cl_Reader T.m_c_Reader_drop (Q6 T) (hr.mono (by walk_at "le")) T.b_c_Reader_drop .nil B5 (A0 (pv 1) (A0 (pv 2) (A0 B3 A4)))))
   refine A8 ?_
   exact ym3
  ·exact I9
 refine A5 ?_ ?_
 ·refine Z3 (i:=4) S.nd rfl (Or.inl rfl) ?_ rfl ?_
  ·refine zcl (ym0 T) hr T.zo B5 ?_
   refine A0 ?_ ?_
   ·exact(J8 (pv 0) rfl)
   refine A0 ?_ ?_
   ·exact(T4 (pv 0) T.cz.cl_Reader T.m_c_Reader_open_names (M6 T) (hr.mono (by walk_at "le")) T.b_c_Reader_open_names .nil B5)
   refine A0 ?_ ?_
   ·exact(pv 3)
   exact A4
  ·walk_at "or"
 refine A5 ?_ ?_
 ·refine N1 ?_ ?_ ?_
  ·exact(C8 (U1 (qp0 hr)) (G0 (B9 (E3 hr)) (pv 4) A9 (fun _ _=>rfl)) B3 (E7 _))
  ·refine A5 ?_ ?_
   ·exact(C9 (O7 (pv 0) T.cz.cl_Reader T.m_c_Reader_drop (Q6 T) (hr.mono (by walk_at "le")) T.b_c_Reader_drop .nil B5 (A0 (pv 1) (A0 (pv 2) (A0 (G0 (B9 (E3 hr)) (pv 4) A9 (fun _ _=>rfl)) A4)))))
   refine A8 ?_
   exact ym3
  ·exact I9
 refine A5 ?_ ?_
 ·exact(C9 (O7 (pv 0) T.cz.cl_Reader T.m_c_Reader_close_behind (U3 T) (hr.mono (by walk_at "le")) T.b_c_Reader_close_behind .nil B5 (A0 (G0 (B9 (E3 hr)) (pv 4) A9 (fun _ _=>rfl)) (A0 (pv 1) (A0 B3 A4)))))
 refine A5 ?_ ?_
 ·refine X6 PassesOwn.never rfl ?_ ?_ ?_
  ·exact(qg2 (Q7 wq9 (G0 (B9 (E3 hr)) (pv 4) A9 (fun _ _=>rfl)) qo8 (O8 (qj5 X7 A9))))
  ·exact(J6 (i:=5) S.nd rfl (Or.inl rfl))
  ·refine A8 ?_
   exact(C9 (O7 (pv 0) T.cz.cl_Reader T.m_c_Reader_put_in (qg5 T) (hr.mono (by walk_at "le")) T.b_c_Reader_put_in .nil B5 (A0 (pv 5) (A0 (pv 1) (A0 B3 A4)))))
 refine A5 ?_ ?_
 ·exact(C9 (O7 (pv 0) T.cz.cl_Reader T.m_c_Reader_enter (qw4 T) (hr.mono (by walk_at "le")) T.b_c_Reader_enter .nil B5 (A0 (pv 3) A4)))
 refine A8 ?_
 refine N1 ?_ ?_ ?_
 ·exact(C8 (U1 (qp0 hr)) (zcl (qt1 T) hr T.zc B5 (A0 (J8 (pv 0) rfl) (A0 (pv 3) A4))) B3 (E7 _))
 ·refine A8 ?_
  exact(C9 (T4 (pv 0) T.cz.cl_Reader T.m_c_Reader_leave (qj4 T) (hr.mono (by walk_at "le")) T.b_c_Reader_leave .nil B5))
 ·exact I9
theorem xa1(T:Txt K mg t):L5 P w K mg base CX0 23 t.a_c_Reader_read t.d_c_Reader_read ["self","kind","start","signs","told"] (qb1 K):=by
 refine T.F_c_Reader_read.ok wa1 (by walk_at "n") (fun cdv A outer s H vs Q E hr h=>⟨qf5 K t.k_Reader,?_,wy4 T.cz h⟩)
 have S:=wa1
 refine A8 ?_
 refine N1 ?_ ?_ ?_
 ·exact(C8 (U1 (qp0 hr)) (pv 1) B3 (E7 _))
 ·refine A8 ?_
  exact(C9 (O7 (pv 0) T.cz.cl_Reader T.m_c_Reader_read_opening (qx8 T) (hr.mono (by walk_at "le")) T.b_c_Reader_read_opening .nil B5 (A0 (pv 2) (A0 (pv 3) (A0 (pv 4) A4)))))
 ·refine A8 ?_
  refine N1 ?_ ?_ ?_
  ·exact(C8 (U1 (qp0 hr)) (pv 1) B3 (E7 _))
  ·refine A8 ?_
   exact(C9 (O7 (pv 0) T.cz.cl_Reader T.m_c_Reader_read_closing (qx7 T) (hr.mono (by walk_at "le")) T.b_c_Reader_read_closing .nil B5 (A0 (pv 2) (A0 (pv 3) (A0 (pv 4) A4)))))
  ·refine A8 ?_
   exact(C9 (O7 (pv 0) T.cz.cl_Reader T.m_c_Reader_read_run (wi7 T) (hr.mono (by walk_at "le")) T.b_c_Reader_read_run .nil B5 (A0 (pv 2) (A0 (pv 3) (A0 (pv 4) A4)))))
theorem xx1(T:Txt K mg t):L5 P w K mg base CX0 24 t.yk.a t.yk.d ["book","text"] (qq5 K):=by
 refine T.yk.F.ok wu4 (by walk_at "n") (fun cdv A outer s H vs Q E hr h=>⟨qv5 K t.k_Reader,?_,xv4 T.cz h⟩)
 have S:=wu4
 refine A5 ?_ ?_
 ·refine zst (i:=2) S ?_
  exact(xr5 T.m_c_Reader_init (wz8 T) (hr.mono (by walk_at "le")) rfl T.n_Reader T.b_c_Reader_init .nil B5 (A0 (pv 0) A4))
 refine A5 ?_ ?_
 ·refine X6 PassesOwn.never rfl ?_ ?_ ?_
  ·exact(qg2 (zcl (xx0 T) hr T.ya B5 (A0 (pv 1) A4)))
  ·exact(xe1 rfl (V3 (J6 (i:=3) S.nd rfl (Or.inl rfl)) (V3 (J6 (i:=4) S.nd rfl (Or.inl rfl)) (V3 (J6 (i:=5) S.nd rfl (Or.inl rfl)) (V3 (J6 (i:=6) S.nd rfl (Or.inl rfl)) wp7)))))
  ·refine A8 ?_
   exact(C9 (O7 (pv 2) T.cz.cl_Reader T.m_c_Reader_read (xa1 T) (hr.mono (by walk_at "le")) T.b_c_Reader_read .nil B5 (A0 (pv 3) (A0 (pv 4) (A0 (Q7 qr3 (pv 1) (O8 (pv 4)) (O8 (pv 5))) (A0 (pv 6) A4))))))
 refine A5 ?_ ?_
 ·exact(C9 (O7 (pv 2) T.cz.cl_Reader T.m_c_Reader_finish (wp6 T) (hr.mono (by walk_at "le")) T.b_c_Reader_finish .nil B5 (A0 (E5 E4 rfl T.z_len boot_len (A0 (pv 1) A4)) A4)))
 refine A8 ?_
 exact(C5 (pv 2))
theorem xx2(T:Txt K mg t):L5 P w K mg base CX0 25 t.yj.a t.yj.d ["book","text"] (qq6 K):=by
 refine T.yj.F.ok wu3 (by walk_at "n") (fun cdv A outer s H vs Q E hr h=>⟨qv6 K t.k_Reader,?_,xv5 T.cz h⟩)
 have S:=wu3
 refine A5 ?_ ?_
 ·refine zst (i:=2) S ?_
  exact(zcl (xx1 T) hr T.yk B5 (A0 (pv 0) (A0 (pv 1) A4)))
 refine A8 ?_
 exact(C5 (C4 (A0 (T4 (pv 2) T.cz.cl_Reader T.m_c_Reader_root (wz7 T) (hr.mono (by walk_at "le")) T.b_c_Reader_root .nil B5) (A0 (J8 (pv 2) rfl) A4))))
theorem zx5 (T:Txt K mg t):L5 P w K mg base CX0 26 t.yz.a t.yz.d ["_law_script"] (wy6 K):=by
 refine T.yz.F.ok zh5 (by walk_at "n") (fun cdv A outer s H vs Q E hr h=>⟨yr3 K,?_,zx4 h⟩)
 have S:=zh5
 refine A5 ?_ ?_
 ·refine Z3 (i:=1) S.nd rfl (Or.inl rfl) ?_ rfl ?_
  ·refine zcl (xn5 T) hr T.yr B5 ?_
   refine A0 ?_ ?_
   ·exact(zcl (xd0 T) hr T.yo B5 (A0 (pv 0) (A0 A9 A4)))
   exact A4
  ·walk_at "or"
 refine A5 ?_ ?_
 ·refine zst (i:=2) S ?_
  exact(G0 (B9 (E3 hr)) (pv 1) A9 (fun _ _=>rfl))
 refine A5 ?_ ?_
 ·refine Z3 (i:=3) S.nd rfl (Or.inl rfl) ?_ rfl ?_
  ·refine C4 ?_
   refine A0 ?_ ?_
   ·exact(C4 (A0 (G0 (B9 (E3 hr)) (pv 1) A9 (fun _ _=>rfl)) (A0 B3 (A0 B3 (A0 (C4 A4) (A0 (C4 A4) A4))))))
   refine A0 ?_ ?_
   ·exact(C4 (A0 (G0 (B9 (E3 hr)) (pv 1) A9 (fun _ _=>rfl)) (A0 B3 (A0 B3 (A0 (C4 A4) (A0 (C4 A4) A4))))))
   refine A0 ?_ ?_
   ·exact(C4 (A0 (G0 (B9 (E3 hr)) (pv 1) A9 (fun _ _=>rfl)) (A0 B3 (A0 B3 (A0 (C4 A4) (A0 (C4 A4) A4))))))
   exact A4
  ·walk_at "or"
 refine A5 ?_ ?_
 ·refine zst (i:=4) S ?_
  exact(P2 (A0 (P2 A4) A4))
 refine A5 ?_ ?_
 ·refine zst (i:=5) S ?_
  exact(P2 A4)
 refine A5 ?_ ?_
 ·refine zst (i:=6) S ?_
  exact B3
 refine A5 ?_ ?_
 ·refine zst (i:=7) S ?_
  exact xx7
 refine A5 ?_ ?_
 ·refine X6 PassesOwn.never rfl ?_ ?_ ?_
  ·exact(qg2 (Q7 qr3 (pv 0) (O8 A9) (O8 A9)))
  ·exact(J6 (i:=8) S.nd rfl (Or.inl rfl))
  ·refine A5 ?_ ?_
   ·refine zst (i:=9) S ?_
    exact(zcl (qx6 T) hr T.yp B5 (A0 (pv 8) (A0 A9 A4)))
   refine A5 ?_ ?_
   ·refine zst (i:=10) S ?_
    exact(B6 V4 (pv 9) A9)
   refine A5 ?_ ?_
   ·refine zst (i:=11) S ?_
    exact(E5 E4 rfl T.z_len boot_len (A0 (pv 6) A4))
   refine A5 ?_ ?_
   ·refine N1 ?_ ?_ ?_
    ·exact(PW.pt (wa7 (C8 wv5 (pv 10) A9 (E7 _)) (qt8 (yf1 (qf8 (pv 7))))))
    ·refine A5 ?_ ?_
     ·exact(xr2 (zcl (xw6 T) hr T.yu B5 (A0 (B6 qt9 (pv 9) A9) A4)) (xe1 rfl (V3 (J6 (i:=12) S.nd rfl (Or.inl rfl)) (V3 (J6 (i:=13) S.nd rfl (Or.inl rfl)) (V3 (J6 (i:=14) S.nd rfl (Or.inl rfl)) wp7)))))
     refine A5 ?_ ?_
     ·refine zst (i:=6) S ?_
      exact(B6 C6 (pv 6) (pv 12))
     refine A5 ?_ ?_
     ·exact(C9 (zcl (xn4 T) hr T.yw B5 (A0 (pv 5) (A0 (pv 11) (A0 (pv 12) (A0 (pv 14) A4))))))
     refine A8 ?_
     exact(C9 (zcl (wi4 T) hr T.yt B5 (A0 (G0 (B9 (E3 hr)) (pv 4) (qj5 X7 A9) (fun _ _=>rfl)) (A0 (pv 13) A4))))
    ·exact I9
   refine A5 ?_ ?_
   ·refine N1 ?_ ?_ ?_
    ·exact(C8 (U1 (qp0 hr)) (pv 10) A9 (E7 _))
    ·refine A5 ?_ ?_
     ·refine Z3 (i:=6) S.nd rfl (Or.inl rfl) ?_ rfl ?_
      ·refine B6 C6 ?_ ?_
       ·exact(pv 6)
       ·refine G0 ?_ ?_ ?_ ?_
        ·exact B9 (E3 hr)
        ·refine P2 ?_
         refine A0 ?_ ?_
         ·exact(B6 C6 (B6 C6 B3 (pv 2)) B3)
         refine A0 ?_ ?_
         ·exact(B6 C6 (B6 C6 B3 (pv 2)) B3)
         refine A0 ?_ ?_
         ·exact(B6 C6 (B6 C6 B3 (G0 (B9 (E3 hr)) (pv 1) A9 (fun _ _=>rfl))) B3)
         exact A4
        ·exact(B6 V4 (B6 qt9 (pv 9) A9) A9)
        ·exact fun _ _=>rfl
      ·walk_at "or"
     refine A8 ?_
     exact(C9 (U5 PySem.F.plainAttrs_list PySem.F.slot_list_append PySem.F.type_list_append M3 (pv 5) (A0 (C4 (A0 (pv 11) (A0 (E5 E4 rfl T.z_len boot_len (A0 (pv 6) A4)) (A0 B3 (A0 (G0 (B9 (E3 hr)) (P2 (A0 B3 (A0 B3 (A0 B3 A4)))) (B6 V4 (B6 qt9 (pv 9) A9) A9) (fun _ _=>rfl)) A4))))) A4)))
    ·exact I9
   refine A5 ?_ ?_
   ·refine N1 ?_ ?_ ?_
    ·exact(C8 (U1 (qp0 hr)) (pv 10) A9 (E7 _))
    ·refine A5 ?_ ?_
     ·refine zst (i:=6) S ?_
      exact(B6 C6 (B6 C6 (B6 C6 (pv 6) B3) (G0 (B9 (E3 hr)) (pv 1) A9 (fun _ _=>rfl))) B3)
     refine A8 ?_
     exact(C9 (zcl (wi4 T) hr T.yt B5 (A0 (G0 (B9 (E3 hr)) (pv 4) (qj5 X7 A9) (fun _ _=>rfl)) (A0 (C4 (A0 (G0 (B9 (E3 hr)) (pv 1) A9 (fun _ _=>rfl)) (A0 (C4 A4) A4))) A4))))
    ·exact I9
   refine A5 ?_ ?_
   ·refine N1 ?_ ?_ ?_
    ·exact(C8 qr2 (pv 10) A9 (E7 _))
    ·refine A8 ?_
     refine zst (i:=6) S ?_
     exact(B6 C6 (pv 6) (zcl (yf0 T) hr T.yy B5 (A0 (pv 1) (A0 (pv 9) (A0 (pv 4) (A0 (pv 5) (A0 (pv 11) A4)))))))
    ·exact I9
   refine A8 ?_
   refine zst (i:=7) S ?_
   exact(qu0 wv5 (pv 10) A9 (E7 _))
 refine A5 ?_ ?_
 ·refine wf0 PassesOwn.never ?_ ?_
  ·exact(C8 qr2 (E5 E4 rfl T.z_len boot_len (A0 (pv 4) A4)) A9 (E7 _))
  ·refine A8 ?_
   refine zst (i:=6) S ?_
   exact(B6 C6 (pv 6) (zcl (wi5 T) hr T.yx B5 (A0 (pv 1) (A0 (pv 4) A4))))
 refine A8 ?_
 exact(C5 (qu0 (U1 (qp0 hr)) (zcl (xx2 T) hr T.yj B5 (A0 (pv 3) (A0 (pv 6) A4))) (C4 (A0 (C4 (A0 B3 (A0 (X4 W2 rfl T.z_tuple boot_tuple (A0 (G0 (B9 (E3 hr)) (pv 4) A9 (fun _ _=>rfl)) A4)) A4))) (A0 (pv 5) A4))) (E7 _)))
end
theorem ln1{us:List Value}(h:us.length=1):∃ x0,us=[x0]:=by
 rcases us with _|⟨x0,_|⟨y,us⟩⟩
 ·cases h
 ·exact⟨x0,rfl⟩
 ·cases h
theorem ln2{us:List Value}(h:us.length=2):∃ x0 x1,us=[x0,x1]:=by
 rcases us with _|⟨x0,_|⟨x1,_|⟨y,us⟩⟩⟩
 ·cases h
 ·cases h
 ·exact⟨x0,x1,rfl⟩
 ·cases h
theorem ln3{us:List Value}(h:us.length=3):∃ x0 x1 x2,us=[x0,x1,x2]:=by
 rcases us with _|⟨x0,_|⟨x1,_|⟨x2,_|⟨y,us⟩⟩⟩⟩
 ·cases h
 ·cases h
 ·cases h
 ·exact⟨x0,x1,x2,rfl⟩
 ·cases h
theorem ln4{us:List Value}(h:us.length=4):∃ x0 x1 x2 x3,us=[x0,x1,x2,x3]:=by
 rcases us with _|⟨x0,_|⟨x1,_|⟨x2,_|⟨x3,_|⟨y,us⟩⟩⟩⟩⟩
 ·cases h
 ·cases h
 ·cases h
 ·cases h
 ·exact⟨x0,x1,x2,x3,rfl⟩
 ·cases h
theorem ln5{us:List Value}(h:us.length=5):∃ x0 x1 x2 x3 x4,us=[x0,x1,x2,x3,x4]:=by
 rcases us with _|⟨x0,_|⟨x1,_|⟨x2,_|⟨x3,_|⟨x4,_|⟨y,us⟩⟩⟩⟩⟩⟩
 ·cases h
 ·cases h
 ·cases h
 ·cases h
 ·cases h
 ·exact⟨x0,x1,x2,x3,x4,rfl⟩
 ·cases h
theorem all_mk{l:PySem.W.OpenLaw}{w:World}{fa f0 f1 f2 f3 f4 f5 f6 f7 f8 f9 f10 f11 f12 f13 f14 f15 f16 f17 f18 f19 f20 f21 f22 f23 f24 f25 f26 f27 f28 f29 f30 f31 f32 f33 f34 f35 f36 f37 f38 f39 f40 f41 f42 f43 f44 f45 f46 f47 f48 f49 f50 f51 f52 f53 f54 f55 f56 f57 f58 f59 f60 f61 f62 f63:Addr}(X:K.In h)(G:h.Ns mainGlobals mg)(hfa:mg "law"=some (.ref fa)){d0 d1 d2 d3 d4 d5 d6 d7 d8 d9 d10 d11 d12 d13 d14 d15 d16 d17 d18 d19 d20 d21 d22 d23 d24 d25 d26 d27 d28 d29 d30 d31 d32 d33 d34 d35 d36 d37 d38 d39 d40 d41 d42 d43 d44 d45 d46 d47 d48 d49 d50 d51 d52 d53 d54 d55 d56 d57 d58 d59 d60 d61 d62 d63:FuncData}{k_LONGEST_NAME k_NAME k_SORT k_HOST k_SHUTS k_BARS k_ROOT_NAME k_MOST_OPEN k_START k_STOP k_BLANKS:Tok}{c_WALL_SORTS:Addr}{d_WALL_SORTS:Option Addr}{n_WALL_SORTS:Nat}{sl_WALL_SORTS:Array (Option Value)}{k_WALL_SORTS_0 k_WALL_SORTS_1:Tok}{c_TOLD_FOR:Addr}{d_TOLD_FOR:Option Addr}{n_TOLD_FOR:Nat}{sl_TOLD_FOR:Array (Option Value)}{k_TOLD_FOR_0 k_TOLD_FOR_1:Tok}{d_ESCAPED:Option Addr}{n_ESCAPED:Nat}{sl_ESCAPED:Array (Option Value)}{k_ESCAPED_0 k_ESCAPED_1:Tok}(eBranch:PySem.W.nsIn K mainGlobals "Branch"=some (some (.ref k_Branch)))(eReader:PySem.W.nsIn K mainGlobals "Reader"=some (some (.ref k_Reader)))(a0:PySem.W.nsIn K mainGlobals "has_letters_of_name"=some (some (.ref f0)))(F0:Fun K "has_letters_of_name" "has_letters_of_name" R4 f0 d0)(a1:PySem.W.nsIn K mainGlobals "row_of"=some (some (.ref f1)))(F1:Fun K "row_of" "row_of" xj5 f1 d1)(a2:PySem.W.nsIn K mainGlobals "sort_of"=some (some (.ref f2)))(F2:Fun K "sort_of" "sort_of" wy7 f2 d2)(a3:PySem.W.nsIn K mainGlobals "is_wall"=some (some (.ref f3)))(F3:Fun K "is_wall" "is_wall" wy8 f3 d3)(a4:PySem.W.nsIn K mainGlobals "host_of"=some (some (.ref f4)))(F4:Fun K "host_of" "host_of" wy9 f4 d4)(a5:PySem.W.nsIn K mainGlobals "frame_of"=some (some (.ref f5)))(F5:Fun K "frame_of" "frame_of" wo9 f5 d5)(a6:PySem.W.nsIn K mainGlobals "belongs"=some (some (.ref f6)))(F6:Fun K "belongs" "belongs" wz0 f6 d6)(a7:PySem.W.nsIn K mainGlobals "is_text"=some (some (.ref f7)))(F7:Fun K "is_text" "is_text" wz1 f7 d7)(a8:PySem.W.nsIn K mainGlobals "straight_above"=some (some (.ref f8)))(F8:Fun K "straight_above" "straight_above" ql3 f8 d8)(a9:PySem.W.nsIn K mainGlobals "near_of"=some (some (.ref f9)))(F9:Fun K "near_of" "near_of" wz2 f9 d9)(a10:PySem.W.nsIn K mainGlobals "share_a_name"=some (some (.ref f10)))(F10:Fun K "share_a_name" "share_a_name" qi5 f10 d10)(a11:PySem.W.nsIn K mainGlobals "closing"=some (some (.ref f11)))(F11:Fun K "closing" "closing" wz3 f11 d11)(a12:PySem.W.nsIn K mainGlobals "opening"=some (some (.ref f12)))(F12:Fun K "opening" "opening" wz4 f12 d12)(a13:PySem.W.nsIn K mainGlobals "hosts_for"=some (some (.ref f13)))(F13:Fun K "hosts_for" "hosts_for" wh5 f13 d13)(a14:PySem.W.nsIn K mainGlobals "wanted"=some (some (.ref f14)))(F14:Fun K "wanted" "wanted" xj6 f14 d14)(a15:PySem.W.nsIn K mainGlobals "wanted_by_guest"=some (some (.ref f15)))(F15:Fun K "wanted_by_guest" "wanted_by_guest" qi6 f15 d15)(a16:PySem.W.nsIn K mainGlobals "kept_by_shuts"=some (some (.ref f16)))(F16:Fun K "kept_by_shuts" "kept_by_shuts" qn6 f16 d16)(a17:PySem.W.nsIn K mainGlobals "hosts_within"=some (some (.ref f17)))(F17:Fun K "hosts_within" "hosts_within" qs2 f17 d17)(a18:PySem.W.nsIn K mainGlobals "is_barred"=some (some (.ref f18)))(F18:Fun K "is_barred" "is_barred" wh6 f18 d18)(a19:PySem.W.nsIn K mainGlobals "escaped"=some (some (.ref f19)))(F19:Fun K "escaped" "escaped" wz5 f19 d19)(a20:PySem.W.nsIn K mainGlobals "told_by"=some (some (.ref f20)))(F20:Fun K "told_by" "told_by" wz6 f20 d20)(a21:PySem.W.nsIn K mainGlobals "lone_ones"=some (some (.ref f21)))(F21:Fun K "lone_ones" "lone_ones" qv8 f21 d21)(a22:PySem.W.nsIn K mainGlobals "tokens_of"=some (some (.ref f22)))(F22:Fun K "tokens_of" "tokens_of" wh7 f22 d22)(a23:PySem.W.nsIn K mainGlobals "settled_tokens"=some (some (.ref f23)))(F23:Fun K "settled_tokens" "settled_tokens" ql4 f23 d23)(a24:PySem.W.nsIn K mainGlobals "tags_from"=some (some (.ref f24)))(F24:Fun K "tags_from" "tags_from" wh8 f24 d24)(a25:PySem.W.nsIn K mainGlobals "name_start"=some (some (.ref f25)))(F25:Fun K "name_start" "name_start" wc6 f25 d25)(a26:PySem.W.nsIn K mainGlobals "tag_stop"=some (some (.ref f26)))(F26:Fun K "tag_stop" "tag_stop" wp0 f26 d26)(a27:PySem.W.nsIn K mainGlobals "tag_between"=some (some (.ref f27)))(F27:Fun K "tag_between" "tag_between" qx4 f27 d27)(a28:PySem.W.nsIn K mainGlobals "runs_between"=some (some (.ref f28)))(F28:Fun K "runs_between" "runs_between" qs3 f28 d28)(a29:PySem.W.nsIn K mainGlobals "opening_of"=some (some (.ref f29)))(F29:Fun K "opening_of" "opening_of" wc7 f29 d29)(a30:PySem.W.nsIn K mainGlobals "closing_of"=some (some (.ref f30)))(F30:Fun K "closing_of" "closing_of" wc8 f30 d30)(a31:PySem.W.nsIn K mainGlobals "read_text"=some (some (.ref f31)))(F31:Fun K "read_text" "read_text" wh9 f31 d31)(a32:PySem.W.nsIn K mainGlobals "reader_of"=some (some (.ref f32)))(F32:Fun K "reader_of" "reader_of" wi0 f32 d32)(a33:PySem.W.nsIn K mainGlobals "those_that_wait"=some (some (.ref f33)))(F33:Fun K "those_that_wait" "those_that_wait" qi7 f33 d33)(a34:PySem.W.nsIn K mainGlobals "without_last"=some (some (.ref f34)))(F34:Fun K "without_last" "without_last" qs4 f34 d34)(a35:PySem.W.nsIn K mainGlobals "may_come_anew"=some (some (.ref f35)))(F35:Fun K "may_come_anew" "may_come_anew" qn7 f35 d35)(a36:PySem.W.nsIn K mainGlobals "_law_cell_at"=some (some (.ref f36)))(F36:Fun K "_law_cell_at" "_law_cell_at" qs5 f36 d36)(a37:PySem.W.nsIn K mainGlobals "_law_mixed"=some (some (.ref f37)))(F37:Fun K "_law_mixed" "_law_mixed" wc9 f37 d37)(a38:PySem.W.nsIn K mainGlobals "_law_letters"=some (some (.ref f38)))(F38:Fun K "_law_letters" "_law_letters" qs6 f38 d38)(a39:PySem.W.nsIn K mainGlobals "_law_names"=some (some (.ref f39)))(F39:Fun K "_law_names" "_law_names" qi8 f39 d39)(a40:PySem.W.nsIn K mainGlobals "_law_lie"=some (some (.ref f40)))(F40:Fun K "_law_lie" "_law_lie" wp1 f40 d40)(a41:PySem.W.nsIn K mainGlobals "_law_runs"=some (some (.ref f41)))(F41:Fun K "_law_runs" "_law_runs" wi1 f41 d41)(a42:PySem.W.nsIn K mainGlobals "_law_signs"=some (some (.ref f42)))(F42:Fun K "_law_signs" "_law_signs" wd0 f42 d42)(a43:PySem.W.nsIn K mainGlobals "_law_closed"=some (some (.ref f43)))(F43:Fun K "_law_closed" "_law_closed" qx5 f43 d43)(a44:PySem.W.nsIn K mainGlobals "_law_tag"=some (some (.ref f44)))(F44:Fun K "_law_tag" "_law_tag" wp2 f44 d44)(a45:PySem.W.nsIn K mainGlobals "law"=some (some (.ref f45)))(F45:Fun K "law" "law" xq7 f45 d45)(a46:PySem.W.findIn K (.ref k_Branch) "__init__"=some (some (.ref f46)))(F46:Fun K "__init__" "Branch.__init__" qn8 f46 d46)(fn46:PySem.W.isFn K (.ref f46)=true)(a47:PySem.W.findIn K (.ref k_Reader) "__init__"=some (some (.ref f47)))(F47:Fun K "__init__" "Reader.__init__" qn9 f47 d47)(fn47:PySem.W.isFn K (.ref f47)=true)(a48:PySem.W.findIn K (.ref k_Reader) "root"=some (some (.ref f48)))(F48:Fun K "root" "Reader.root" qo0 f48 d48)(fn48:PySem.W.isFn K (.ref f48)=true)(a49:PySem.W.findIn K (.ref k_Reader) "read"=some (some (.ref f49)))(F49:Fun K "read" "Reader.read" qo1 f49 d49)(fn49:PySem.W.isFn K (.ref f49)=true)(a50:PySem.W.findIn K (.ref k_Reader) "finish"=some (some (.ref f50)))(F50:Fun K "finish" "Reader.finish" qi9 f50 d50)(fn50:PySem.W.isFn K (.ref f50)=true)(a51:PySem.W.findIn K (.ref k_Reader) "read_opening"=some (some (.ref f51)))(F51:Fun K "read_opening" "Reader.read_opening" V9 f51 d51)(fn51:PySem.W.isFn K (.ref f51)=true)(a52:PySem.W.findIn K (.ref k_Reader) "read_closing"=some (some (.ref f52)))(F52:Fun K "read_closing" "Reader.read_closing" W0 f52 d52)(fn52:PySem.W.isFn K (.ref f52)=true)(a53:PySem.W.findIn K (.ref k_Reader) "read_run"=some (some (.ref f53)))(F53:Fun K "read_run" "Reader.read_run" qd3 f53 d53)(fn53:PySem.W.isFn K (.ref f53)=true)(a54:PySem.W.findIn K (.ref k_Reader) "open_names"=some (some (.ref f54)))(F54:Fun K "open_names" "Reader.open_names" R5 f54 d54)(fn54:PySem.W.isFn K (.ref f54)=true)(a55:PySem.W.findIn K (.ref k_Reader) "is_in_frame"=some (some (.ref f55)))(F55:Fun K "is_in_frame" "Reader.is_in_frame" X0 f55 d55)(fn55:PySem.W.isFn K (.ref f55)=true)(a56:PySem.W.findIn K (.ref k_Reader) "last_wall"=some (some (.ref f56)))(F56:Fun K "last_wall" "Reader.last_wall" U0 f56 d56)(fn56:PySem.W.isFn K (.ref f56)=true)(a57:PySem.W.findIn K (.ref k_Reader) "enter"=some (some (.ref f57)))(F57:Fun K "enter" "Reader.enter" ql5 f57 d57)(fn57:PySem.W.isFn K (.ref f57)=true)(a58:PySem.W.findIn K (.ref k_Reader) "leave"=some (some (.ref f58)))(F58:Fun K "leave" "Reader.leave" ql6 f58 d58)(fn58:PySem.W.isFn K (.ref f58)=true)(a59:PySem.W.findIn K (.ref k_Reader) "drop"=some (some (.ref f59)))(F59:Fun K "drop" "Reader.drop" qo2 f59 d59)(fn59:PySem.W.isFn K (.ref f59)=true)(a60:PySem.W.findIn K (.ref k_Reader) "put_in"=some (some (.ref f60)))(F60:Fun K "put_in" "Reader.put_in" qj0 f60 d60)(fn60:PySem.W.isFn K (.ref f60)=true)(a61:PySem.W.findIn K (.ref k_Reader) "close_behind"=some (some (.ref f61)))(F61:Fun K "close_behind" "Reader.close_behind" W1 f61 d61)(fn61:PySem.W.isFn K (.ref f61)=true)(a62:PySem.W.findIn K (.ref k_Reader) "put_in_waiting"=some (some (.ref f62)))(F62:Fun K "put_in_waiting" "Reader.put_in_waiting" R8 f62 d62)(fn62:PySem.W.isFn K (.ref f62)=true)(a63:PySem.W.findIn K (.ref k_Reader) "add_text"=some (some (.ref f63)))(F63:Fun K "add_text" "Reader.add_text" qd4 f63 d63)(fn63:PySem.W.isFn K (.ref f63)=true)(uLONGEST_NAME:PySem.W.nsIn K mainGlobals "LONGEST_NAME"=some (some (.int 8 k_LONGEST_NAME)))(uNAME:PySem.W.nsIn K mainGlobals "NAME"=some (some (.int 0 k_NAME)))(uSORT:PySem.W.nsIn K mainGlobals "SORT"=some (some (.int 1 k_SORT)))(uHOST:PySem.W.nsIn K mainGlobals "HOST"=some (some (.int 2 k_HOST)))(uSHUTS:PySem.W.nsIn K mainGlobals "SHUTS"=some (some (.int 3 k_SHUTS)))(uBARS:PySem.W.nsIn K mainGlobals "BARS"=some (some (.int 4 k_BARS)))(uROOT_NAME:PySem.W.nsIn K mainGlobals "ROOT_NAME"=some (some (.str "" k_ROOT_NAME)))(uMOST_OPEN:PySem.W.nsIn K mainGlobals "MOST_OPEN"=some (some (.int 20 k_MOST_OPEN)))(uSTART:PySem.W.nsIn K mainGlobals "START"=some (some (.int 1 k_START)))(uSTOP:PySem.W.nsIn K mainGlobals "STOP"=some (some (.int 2 k_STOP)))(uBLANKS:PySem.W.nsIn K mainGlobals "BLANKS"=some (some (.str " \n" k_BLANKS)))(uWALL_SORTS:PySem.W.nsIn K mainGlobals "WALL_SORTS"=some (some (.ref c_WALL_SORTS)))(wWALL_SORTS:K.lookup c_WALL_SORTS=some ⟨.type "tuple",d_WALL_SORTS,.seq #[.str "room" k_WALL_SORTS_0,.str "frame" k_WALL_SORTS_1] n_WALL_SORTS,sl_WALL_SORTS⟩)(uTOLD_FOR:PySem.W.nsIn K mainGlobals "TOLD_FOR"=some (some (.ref c_TOLD_FOR)))(wTOLD_FOR:K.lookup c_TOLD_FOR=some ⟨.type "tuple",d_TOLD_FOR,.seq #[.str "&l;" k_TOLD_FOR_0,.str "&a;" k_TOLD_FOR_1] n_TOLD_FOR,sl_TOLD_FOR⟩)(uESCAPED:PySem.W.nsIn K mainGlobals "ESCAPED"=some (some (.ref c_ESCAPED)))(wESCAPED:K.lookup c_ESCAPED=some ⟨.type "tuple",d_ESCAPED,.seq #[.str "<" k_ESCAPED_0,.str "&" k_ESCAPED_1] n_ESCAPED,sl_ESCAPED⟩)(pg0Branch:PySem.W.plainGet K k_Branch Str.empty=true)(hd0Branch:PySem.W.hasDictIn K k_Branch=true)(po0Branch:PySem.W.plainOver K k_Branch=true)(sa0Branch:PySem.W.findIn K (.ref k_Branch) "__setattr__"=some (some (.builtin "object.__setattr__")))(ns0Branch:PySem.W.nsIn K mainGlobals "Branch"=some (some (.ref k_Branch)))(na0Branch0name:PySem.W.findIn K (.ref k_Branch) "name"=some none)(na0Branch0place:PySem.W.findIn K (.ref k_Branch) "place"=some none)(na0Branch0parts:PySem.W.findIn K (.ref k_Branch) "parts"=some none)(na0Branch0waiting:PySem.W.findIn K (.ref k_Branch) "waiting"=some none)(pg0Reader:PySem.W.plainGet K k_Reader Str.empty=true)(hd0Reader:PySem.W.hasDictIn K k_Reader=true)(po0Reader:PySem.W.plainOver K k_Reader=true)(sa0Reader:PySem.W.findIn K (.ref k_Reader) "__setattr__"=some (some (.builtin "object.__setattr__")))(ns0Reader:PySem.W.nsIn K mainGlobals "Reader"=some (some (.ref k_Reader)))(na0Reader0book:PySem.W.findIn K (.ref k_Reader) "book"=some none)(na0Reader0branches:PySem.W.findIn K (.ref k_Reader) "branches"=some none)(na0Reader0mends:PySem.W.findIn K (.ref k_Reader) "mends"=some none)(na0Reader0laid:PySem.W.findIn K (.ref k_Reader) "laid"=some none)(mk0Branch:PySem.W.makesIn K k_Branch=true)(kp0Branch:PySem.W.keepIn K (.ref k_Branch)=true)(mk0Reader:PySem.W.makesIn K k_Reader=true)(kp0Reader:PySem.W.keepIn K (.ref k_Reader)=true)(zall:PySem.W.nsIn K mainGlobals "all"=some none)(zany:PySem.W.nsIn K mainGlobals "any"=some none)(zenumerate:PySem.W.nsIn K mainGlobals "enumerate"=some none)(zint:PySem.W.nsIn K mainGlobals "int"=some none)(zisinstance:PySem.W.nsIn K mainGlobals "isinstance"=some none)(zlen:PySem.W.nsIn K mainGlobals "len"=some none)(zrange:PySem.W.nsIn K mainGlobals "range"=some none)(zreversed:PySem.W.nsIn K mainGlobals "reversed"=some none)(zstr:PySem.W.nsIn K mainGlobals "str"=some none)(ztuple:PySem.W.nsIn K mainGlobals "tuple"=some none) :
 ∃ fd:FuncData,(∀ (s:Shared) (v:Value),BindsTo s fd ⟨[v],[]⟩ [("_law_script",v)])/\∀ base:Heap,K.In base->base.Ns mainGlobals mg->L5 l.prog w K mg base CX0 26 fa fd ["_law_script"] (wy6 K):=by
 have e:=hfa.symm.trans (PySem.W.mg_of X G a45)
 have e:f45=fa:=by cases e;rfl
 subst e
 obtain⟨_,_,kV,dc,pm,an,cd,ct,_,rfl,_,_⟩:=id F45.ex
 have b0:=F0.binds (ps:=["word"]) fun _ _ _ _ _ _ us hl=>by obtain⟨_,rfl⟩:=ln1 hl;rfl
 have b1:=F1.binds (ps:=["rows","name"]) fun _ _ _ _ _ _ us hl=>by obtain⟨_,_,rfl⟩:=ln2 hl;rfl
 have b2:=F2.binds (ps:=["book","name"]) fun _ _ _ _ _ _ us hl=>by obtain⟨_,_,rfl⟩:=ln2 hl;rfl
 have b3:=F3.binds (ps:=["book","name"]) fun _ _ _ _ _ _ us hl=>by obtain⟨_,_,rfl⟩:=ln2 hl;rfl
 have b4:=F4.binds (ps:=["book","name"]) fun _ _ _ _ _ _ us hl=>by obtain⟨_,_,rfl⟩:=ln2 hl;rfl
 have b5:=F5.binds (ps:=["book","name"]) fun _ _ _ _ _ _ us hl=>by obtain⟨_,_,rfl⟩:=ln2 hl;rfl
 have b6:=F6.binds (ps:=["book","name","frame"]) fun _ _ _ _ _ _ us hl=>by obtain⟨_,_,_,rfl⟩:=ln3 hl;rfl
 have b7:=F7.binds (ps:=["part"]) fun _ _ _ _ _ _ us hl=>by obtain⟨_,rfl⟩:=ln1 hl;rfl
 have b8:=F8.binds (ps:=["names"]) fun _ _ _ _ _ _ us hl=>by obtain⟨_,rfl⟩:=ln1 hl;rfl
 have b9:=F9.binds (ps:=["book","names"]) fun _ _ _ _ _ _ us hl=>by obtain⟨_,_,rfl⟩:=ln2 hl;rfl
 have b10:=F10.binds (ps:=["names","others"]) fun _ _ _ _ _ _ us hl=>by obtain⟨_,_,rfl⟩:=ln2 hl;rfl
 have b11:=F11.binds (ps:=["book","names","name"]) fun _ _ _ _ _ _ us hl=>by obtain⟨_,_,_,rfl⟩:=ln3 hl;rfl
 have b12:=F12.binds (ps:=["book","names","name"]) fun _ _ _ _ _ _ us hl=>by obtain⟨_,_,_,rfl⟩:=ln3 hl;rfl
 have b13:=F13.binds (ps:=["book","names"]) fun _ _ _ _ _ _ us hl=>by obtain⟨_,_,rfl⟩:=ln2 hl;rfl
 have b14:=F14.binds (ps:=["book","names","name"]) fun _ _ _ _ _ _ us hl=>by obtain⟨_,_,_,rfl⟩:=ln3 hl;rfl
 have b15:=F15.binds (ps:=["book","names","name"]) fun _ _ _ _ _ _ us hl=>by obtain⟨_,_,_,rfl⟩:=ln3 hl;rfl
 have b16:=F16.binds (ps:=["book","names","name"]) fun _ _ _ _ _ _ us hl=>by obtain⟨_,_,_,rfl⟩:=ln3 hl;rfl
 have b17:=F17.binds (ps:=["book","name"]) fun _ _ _ _ _ _ us hl=>by obtain⟨_,_,rfl⟩:=ln2 hl;rfl
 have b18:=F18.binds (ps:=["book","kept","put"]) fun _ _ _ _ _ _ us hl=>by obtain⟨_,_,_,rfl⟩:=ln3 hl;rfl
 have b19:=F19.binds (ps:=["text"]) fun _ _ _ _ _ _ us hl=>by obtain⟨_,rfl⟩:=ln1 hl;rfl
 have b20:=F20.binds (ps:=["run"]) fun _ _ _ _ _ _ us hl=>by obtain⟨_,rfl⟩:=ln1 hl;rfl
 have b21:=F21.binds (ps:=["run"]) fun _ _ _ _ _ _ us hl=>by obtain⟨_,rfl⟩:=ln1 hl;rfl
 have b22:=F22.binds (ps:=["text"]) fun _ _ _ _ _ _ us hl=>by obtain⟨_,rfl⟩:=ln1 hl;rfl
 have b23:=F23.binds (ps:=["text","settled","searched"]) fun _ _ _ _ _ _ us hl=>by obtain⟨_,_,_,rfl⟩:=ln3 hl;rfl
 have b24:=F24.binds (ps:=["text","searched"]) fun _ _ _ _ _ _ us hl=>by obtain⟨_,_,rfl⟩:=ln2 hl;rfl
 have b25:=F25.binds (ps:=["text","start"]) fun _ _ _ _ _ _ us hl=>by obtain⟨_,_,rfl⟩:=ln2 hl;rfl
 have b26:=F26.binds (ps:=["text","start"]) fun _ _ _ _ _ _ us hl=>by obtain⟨_,_,rfl⟩:=ln2 hl;rfl
 have b27:=F27.binds (ps:=["text","start","stop"]) fun _ _ _ _ _ _ us hl=>by obtain⟨_,_,_,rfl⟩:=ln3 hl;rfl
 have b28:=F28.binds (ps:=["text","start","stop"]) fun _ _ _ _ _ _ us hl=>by obtain⟨_,_,_,rfl⟩:=ln3 hl;rfl
 have b29:=F29.binds (ps:=["name"]) fun _ _ _ _ _ _ us hl=>by obtain⟨_,rfl⟩:=ln1 hl;rfl
 have b30:=F30.binds (ps:=["name"]) fun _ _ _ _ _ _ us hl=>by obtain⟨_,rfl⟩:=ln1 hl;rfl
 have b31:=F31.binds (ps:=["book","text"]) fun _ _ _ _ _ _ us hl=>by obtain⟨_,_,rfl⟩:=ln2 hl;rfl
 have b32:=F32.binds (ps:=["book","text"]) fun _ _ _ _ _ _ us hl=>by obtain⟨_,_,rfl⟩:=ln2 hl;rfl
 have b33:=F33.binds (ps:=["book","closed"]) fun _ _ _ _ _ _ us hl=>by obtain⟨_,_,rfl⟩:=ln2 hl;rfl
 have b34:=F34.binds (ps:=["names","name"]) fun _ _ _ _ _ _ us hl=>by obtain⟨_,_,rfl⟩:=ln2 hl;rfl
 have b35:=F35.binds (ps:=["book","names","name"]) fun _ _ _ _ _ _ us hl=>by obtain⟨_,_,_,rfl⟩:=ln3 hl;rfl
 have b36:=F36.binds (ps:=["_law_script","_law_k"]) fun _ _ _ _ _ _ us hl=>by obtain⟨_,_,rfl⟩:=ln2 hl;rfl
 have b37:=F37.binds (ps:=["_law_cell","_law_k"]) fun _ _ _ _ _ _ us hl=>by obtain⟨_,_,rfl⟩:=ln2 hl;rfl
 have b38:=F38.binds (ps:=["_law_number"]) fun _ _ _ _ _ _ us hl=>by obtain⟨_,rfl⟩:=ln1 hl;rfl
 have b39:=F39.binds (ps:=["_law_cell"]) fun _ _ _ _ _ _ us hl=>by obtain⟨_,rfl⟩:=ln1 hl;rfl
 have b40:=F40.binds (ps:=["_law_heap","_law_thing"]) fun _ _ _ _ _ _ us hl=>by obtain⟨_,_,rfl⟩:=ln2 hl;rfl
 have b41:=F41.binds (ps:=["_law_number"]) fun _ _ _ _ _ _ us hl=>by obtain⟨_,rfl⟩:=ln1 hl;rfl
 have b42:=F42.binds (ps:=["_law_mends","_law_start","_law_raw","_law_lone"]) fun _ _ _ _ _ _ us hl=>by obtain⟨_,_,_,_,rfl⟩:=ln4 hl;rfl
 have b43:=F43.binds (ps:=["_law_names_here","_law_heaps"]) fun _ _ _ _ _ _ us hl=>by obtain⟨_,_,rfl⟩:=ln2 hl;rfl
 have b44:=F44.binds (ps:=["_law_names_here","_law_number","_law_heaps","_law_mends","_law_start"]) fun _ _ _ _ _ _ us hl=>by obtain⟨_,_,_,_,_,rfl⟩:=ln5 hl;rfl
 have b45:=F45.binds (ps:=["_law_script"]) fun _ _ _ _ _ _ us hl=>by obtain⟨_,rfl⟩:=ln1 hl;rfl
 have b46:=F46.binds (ps:=["self","name","place"]) fun _ _ _ _ _ _ us hl=>by obtain⟨_,_,_,rfl⟩:=ln3 hl;rfl
 have b47:=F47.binds (ps:=["self","book"]) fun _ _ _ _ _ _ us hl=>by obtain⟨_,_,rfl⟩:=ln2 hl;rfl
 have b48:=F48.binds (ps:=["self"]) fun _ _ _ _ _ _ us hl=>by obtain⟨_,rfl⟩:=ln1 hl;rfl
 have b49:=F49.binds (ps:=["self","kind","start","signs","told"]) fun _ _ _ _ _ _ us hl=>by obtain⟨_,_,_,_,_,rfl⟩:=ln5 hl;rfl
 have b50:=F50.binds (ps:=["self","size"]) fun _ _ _ _ _ _ us hl=>by obtain⟨_,_,rfl⟩:=ln2 hl;rfl
 have b51:=F51.binds (ps:=["self","start","signs","name"]) fun _ _ _ _ _ _ us hl=>by obtain⟨_,_,_,_,rfl⟩:=ln4 hl;rfl
 have b52:=F52.binds (ps:=["self","start","signs","name"]) fun _ _ _ _ _ _ us hl=>by obtain⟨_,_,_,_,rfl⟩:=ln4 hl;rfl
 have b53:=F53.binds (ps:=["self","start","signs","told"]) fun _ _ _ _ _ _ us hl=>by obtain⟨_,_,_,_,rfl⟩:=ln4 hl;rfl
 have b54:=F54.binds (ps:=["self"]) fun _ _ _ _ _ _ us hl=>by obtain⟨_,rfl⟩:=ln1 hl;rfl
 have b55:=F55.binds (ps:=["self"]) fun _ _ _ _ _ _ us hl=>by obtain⟨_,rfl⟩:=ln1 hl;rfl
 have b56:=F56.binds (ps:=["self"]) fun _ _ _ _ _ _ us hl=>by obtain⟨_,rfl⟩:=ln1 hl;rfl
 have b57:=F57.binds (ps:=["self","name"]) fun _ _ _ _ _ _ us hl=>by obtain⟨_,_,rfl⟩:=ln2 hl;rfl
 have b58:=F58.binds (ps:=["self"]) fun _ _ _ _ _ _ us hl=>by obtain⟨_,rfl⟩:=ln1 hl;rfl
 have b59:=F59.binds (ps:=["self","start","signs","rule"]) fun _ _ _ _ _ _ us hl=>by obtain⟨_,_,_,_,rfl⟩:=ln4 hl;rfl
 have b60:=F60.binds (ps:=["self","name","start","rule"]) fun _ _ _ _ _ _ us hl=>by obtain⟨_,_,_,_,rfl⟩:=ln4 hl;rfl
 have b61:=F61.binds (ps:=["self","kept","start","rule"]) fun _ _ _ _ _ _ us hl=>by obtain⟨_,_,_,_,rfl⟩:=ln4 hl;rfl
 have b62:=F62.binds (ps:=["self","start"]) fun _ _ _ _ _ _ us hl=>by obtain⟨_,_,rfl⟩:=ln2 hl;rfl
 have b63:=F63.binds (ps:=["self","start","signs","told"]) fun _ _ _ _ _ _ us hl=>by obtain⟨_,_,_,_,rfl⟩:=ln4 hl;rfl
 let t:Adr:={za:=⟨f0,d0⟩,zb:=⟨f1,d1⟩,zc:=⟨f2,d2⟩,zd:=⟨f3,d3⟩,ze:=⟨f4,d4⟩,zf:=⟨f5,d5⟩,zh:=⟨f6,d6⟩,zi:=⟨f7,d7⟩,zj:=⟨f8,d8⟩,zk:=⟨f9,d9⟩,zm:=⟨f10,d10⟩,zn:=⟨f11,d11⟩,zo:=⟨f12,d12⟩,zp:=⟨f13,d13⟩,zr:=⟨f14,d14⟩,zt:=⟨f15,d15⟩,zu:=⟨f16,d16⟩,zv:=⟨f17,d17⟩,zw:=⟨f18,d18⟩,zx:=⟨f19,d19⟩,zy:=⟨f20,d20⟩,zz:=⟨f21,d21⟩,ya:=⟨f22,d22⟩,yb:=⟨f23,d23⟩,yc:=⟨f24,d24⟩,yd:=⟨f25,d25⟩,ye:=⟨f26,d26⟩,yf:=⟨f27,d27⟩,yg:=⟨f28,d28⟩,yh:=⟨f29,d29⟩,yi:=⟨f30,d30⟩,yj:=⟨f31,d31⟩,yk:=⟨f32,d32⟩,yl:=⟨f33,d33⟩,ym:=⟨f34,d34⟩,yn:=⟨f35,d35⟩,yo:=⟨f36,d36⟩,yp:=⟨f37,d37⟩,yq:=⟨f38,d38⟩,yr:=⟨f39,d39⟩,yt:=⟨f40,d40⟩,yu:=⟨f41,d41⟩,yw:=⟨f42,d42⟩,yx:=⟨f43,d43⟩,yy:=⟨f44,d44⟩,yz:=⟨f45,PySem.W.fnOf "law" "law" (wq2 xq7) (wi8 xq7) (B1 xq7) .none kV dc pm an cd ct⟩,a_c_Branch_init:=f46,d_c_Branch_init:=d46,a_c_Reader_init:=f47,d_c_Reader_init:=d47,a_c_Reader_root:=f48,d_c_Reader_root:=d48,a_c_Reader_read:=f49,d_c_Reader_read:=d49,a_c_Reader_finish:=f50,d_c_Reader_finish:=d50,a_c_Reader_read_opening:=f51,d_c_Reader_read_opening:=d51,a_c_Reader_read_closing:=f52,d_c_Reader_read_closing:=d52,a_c_Reader_read_run:=f53,d_c_Reader_read_run:=d53,a_c_Reader_open_names:=f54,d_c_Reader_open_names:=d54,a_c_Reader_is_in_frame:=f55,d_c_Reader_is_in_frame:=d55,a_c_Reader_last_wall:=f56,d_c_Reader_last_wall:=d56,a_c_Reader_enter:=f57,d_c_Reader_enter:=d57,a_c_Reader_leave:=f58,d_c_Reader_leave:=d58,a_c_Reader_drop:=f59,d_c_Reader_drop:=d59,a_c_Reader_put_in:=f60,d_c_Reader_put_in:=d60,a_c_Reader_close_behind:=f61,d_c_Reader_close_behind:=d61,a_c_Reader_put_in_waiting:=f62,d_c_Reader_put_in_waiting:=d62,a_c_Reader_add_text:=f63,d_c_Reader_add_text:=d63,v_LONGEST_NAME:=.int 8 k_LONGEST_NAME,v_NAME:=.int 0 k_NAME,v_SORT:=.int 1 k_SORT,v_HOST:=.int 2 k_HOST,v_SHUTS:=.int 3 k_SHUTS,v_BARS:=.int 4 k_BARS,v_ROOT_NAME:=.str "" k_ROOT_NAME,v_MOST_OPEN:=.int 20 k_MOST_OPEN,v_START:=.int 1 k_START,v_STOP:=.int 2 k_STOP,v_BLANKS:=.str " \n" k_BLANKS,c_WALL_SORTS:=c_WALL_SORTS,c_TOLD_FOR:=c_TOLD_FOR,c_ESCAPED:=c_ESCAPED,k_Branch:=k_Branch,k_Reader:=k_Reader}
 have T:Txt K mg t:=⟨⟨F0,b0,PySem.W.mg_of X G a0⟩,⟨F1,b1,PySem.W.mg_of X G a1⟩,⟨F2,b2,PySem.W.mg_of X G a2⟩,⟨F3,b3,PySem.W.mg_of X G a3⟩,⟨F4,b4,PySem.W.mg_of X G a4⟩,⟨F5,b5,PySem.W.mg_of X G a5⟩,⟨F6,b6,PySem.W.mg_of X G a6⟩,⟨F7,b7,PySem.W.mg_of X G a7⟩,⟨F8,b8,PySem.W.mg_of X G a8⟩,⟨F9,b9,PySem.W.mg_of X G a9⟩,⟨F10,b10,PySem.W.mg_of X G a10⟩,⟨F11,b11,PySem.W.mg_of X G a11⟩,⟨F12,b12,PySem.W.mg_of X G a12⟩,⟨F13,b13,PySem.W.mg_of X G a13⟩,⟨F14,b14,PySem.W.mg_of X G a14⟩,⟨F15,b15,PySem.W.mg_of X G a15⟩,⟨F16,b16,PySem.W.mg_of X G a16⟩,⟨F17,b17,PySem.W.mg_of X G a17⟩,⟨F18,b18,PySem.W.mg_of X G a18⟩,⟨F19,b19,PySem.W.mg_of X G a19⟩,⟨F20,b20,PySem.W.mg_of X G a20⟩,⟨F21,b21,PySem.W.mg_of X G a21⟩,⟨F22,b22,PySem.W.mg_of X G a22⟩,⟨F23,b23,PySem.W.mg_of X G a23⟩,⟨F24,b24,PySem.W.mg_of X G a24⟩,⟨F25,b25,PySem.W.mg_of X G a25⟩,⟨F26,b26,PySem.W.mg_of X G a26⟩,⟨F27,b27,PySem.W.mg_of X G a27⟩,⟨F28,b28,PySem.W.mg_of X G a28⟩,⟨F29,b29,PySem.W.mg_of X G a29⟩,⟨F30,b30,PySem.W.mg_of X G a30⟩,⟨F31,b31,PySem.W.mg_of X G a31⟩,⟨F32,b32,PySem.W.mg_of X G a32⟩,⟨F33,b33,PySem.W.mg_of X G a33⟩,⟨F34,b34,PySem.W.mg_of X G a34⟩,⟨F35,b35,PySem.W.mg_of X G a35⟩,⟨F36,b36,PySem.W.mg_of X G a36⟩,⟨F37,b37,PySem.W.mg_of X G a37⟩,⟨F38,b38,PySem.W.mg_of X G a38⟩,⟨F39,b39,PySem.W.mg_of X G a39⟩,⟨F40,b40,PySem.W.mg_of X G a40⟩,⟨F41,b41,PySem.W.mg_of X G a41⟩,⟨F42,b42,PySem.W.mg_of X G a42⟩,⟨F43,b43,PySem.W.mg_of X G a43⟩,⟨F44,b44,PySem.W.mg_of X G a44⟩,⟨F45,b45,PySem.W.mg_of X G a45⟩,F46,b46,⟨mk0Branch,a46,fn46,kp0Branch⟩,F47,b47,⟨mk0Reader,a47,fn47,kp0Reader⟩,F48,b48,⟨a48,fn48,F48.kp⟩,F49,b49,⟨a49,fn49,F49.kp⟩,F50,b50,⟨a50,fn50,F50.kp⟩,F51,b51,⟨a51,fn51,F51.kp⟩,F52,b52,⟨a52,fn52,F52.kp⟩,F53,b53,⟨a53,fn53,F53.kp⟩,F54,b54,⟨a54,fn54,F54.kp⟩,F55,b55,⟨a55,fn55,F55.kp⟩,F56,b56,⟨a56,fn56,F56.kp⟩,F57,b57,⟨a57,fn57,F57.kp⟩,F58,b58,⟨a58,fn58,F58.kp⟩,F59,b59,⟨a59,fn59,F59.kp⟩,F60,b60,⟨a60,fn60,F60.kp⟩,F61,b61,⟨a61,fn61,F61.kp⟩,F62,b62,⟨a62,fn62,F62.kp⟩,F63,b63,⟨a63,fn63,F63.kp⟩,PySem.W.mg_of X G uWALL_SORTS,fun _=>.inr ⟨_,_,_,wWALL_SORTS,rfl,rfl,by rw[sizeLine_eq];show 2<=_;decide,(.cons ⟨_,rfl⟩ (.cons ⟨_,rfl⟩ .nil))⟩,⟨PySem.W.mg_of X G uLONGEST_NAME,⟨_,rfl⟩⟩,⟨PySem.W.mg_of X G uNAME,⟨_,rfl⟩⟩,⟨PySem.W.mg_of X G uSORT,⟨_,rfl⟩⟩,⟨PySem.W.mg_of X G uHOST,⟨_,rfl⟩⟩,⟨PySem.W.mg_of X G uSHUTS,⟨_,rfl⟩⟩,⟨PySem.W.mg_of X G uBARS,⟨_,rfl⟩⟩,⟨PySem.W.mg_of X G uROOT_NAME,⟨_,rfl⟩⟩,⟨PySem.W.mg_of X G uMOST_OPEN,⟨_,rfl⟩⟩,PySem.W.mg_of X G uTOLD_FOR,fun _=>.inr ⟨_,_,_,wTOLD_FOR,rfl,rfl,by rw[sizeLine_eq];show 2<=_;decide,(.cons ⟨_,rfl⟩ (.cons ⟨_,rfl⟩ .nil))⟩,PySem.W.mg_of X G uESCAPED,fun _=>.inr ⟨_,_,_,wESCAPED,rfl,rfl,by rw[sizeLine_eq];show 2<=_;decide,(.cons ⟨_,rfl⟩ (.cons ⟨_,rfl⟩ .nil))⟩,⟨PySem.W.mg_of X G uSTART,⟨_,rfl⟩⟩,⟨PySem.W.mg_of X G uSTOP,⟨_,rfl⟩⟩,⟨PySem.W.mg_of X G uBLANKS,⟨_,rfl⟩⟩,PySem.W.mg_none_of X G zall,PySem.W.mg_none_of X G zany,PySem.W.mg_none_of X G zenumerate,PySem.W.mg_none_of X G zint,PySem.W.mg_none_of X G zisinstance,PySem.W.mg_none_of X G zlen,PySem.W.mg_none_of X G zrange,PySem.W.mg_none_of X G zreversed,PySem.W.mg_none_of X G zstr,PySem.W.mg_none_of X G ztuple,PySem.W.mg_of X G eBranch,PySem.W.mg_of X G eReader,⟨pg0Branch,hd0Branch,po0Branch,sa0Branch,ns0Branch,na0Branch0name,na0Branch0place,na0Branch0parts,na0Branch0waiting,pg0Reader,hd0Reader,po0Reader,sa0Reader,ns0Reader,na0Reader0book,na0Reader0branches,na0Reader0mends,na0Reader0laid⟩⟩
 exact⟨_,fun s v=>.of_eq rfl,fun base _ _=>zx5 T⟩
theorem walk{l:PySem.W.OpenLaw}{q:Program}{loose:List Str}{XP:(Str->Option Value)->Heap->Prop}{as:List Addr}{z t:Nat}{d:DefRec}{K:Params->Fg}(hn:l.most=some 63)(hdf:d.params.defaults=[])(hk:∀ P,as=(K P).map (·.1))(h0:0<t) (F:∀ (w:World) (mg:Str->Option Value) (fa:Addr) (h:Heap),(K w.params).In h->h.Ns mainGlobals mg->mg d.name=some (.ref fa) ->
  ∃ fd:FuncData,(∀ (s:Shared) (u:Value),BindsTo s fd ⟨[u],[]⟩ [("_law_script",u)])/\∀ base:Heap,(K w.params).In base->base.Ns mainGlobals mg->L5 l.prog w (K w.params) mg base CX0 26 fa fd ["_law_script"] (wy6 (K w.params))) :
 PySem.W.WalkX q loose XP (PySem.W.X.obsZ as) (PySem.W.X.valZ K z t) l.row.toRowW d [] (fun f vs=>PySem.call f vs) :=
 L2.zj5 (n:=63) (k:=26) (x := "_law_script") (CX:=fun _=>CX0) (sp:=fun w=>wy6 (K w.params)) hn (by decide) hdf ⟨rfl,by decide,by decide,rfl⟩ hk h0 F (fun _ _ a ns hl _ hS=>⟨a,ns,rfl,hS,hl,fun _=>rfl⟩) fun _ _ _ _ _ z=>z
end
end My
open PySem PySem.W PyProof.Rows
local macro_rules | `(tactic| x_go) => `(tactic| (refine' L2.zs7 ?l ?c ?k; (case l => k_is); (case c => k_is); (case k => k_is)))
set_option maxRecDepth 100000 in
set_option maxHeartbeats 0 in
theorem PySem.Challenge.cw_tagmend_k41_signs_and_strange_tags_holds : PySem.Challenge.rw_tagmend_k41_signs_and_strange_tags.Holds := by
 w_on;o_law;z_head;(case hw=>w_witness2)
 k_fill
 refine My.walk (l:=PySem.Challenge.rw_tagmend_k41_signs_and_strange_tags) rfl rfl (fun _=>rfl) (by decide) ?F
 case F =>
  intro w mg fa h KX G hmg
  refine' My.all_mk KX G hmg ?eBranch ?eReader ?a0 ?F0 ?a1 ?F1 ?a2 ?F2 ?a3 ?F3 ?a4 ?F4 ?a5 ?F5 ?a6 ?F6 ?a7 ?F7 ?a8 ?F8 ?a9 ?F9 ?a10 ?F10 ?a11 ?F11 ?a12 ?F12 ?a13 ?F13 ?a14 ?F14 ?a15 ?F15 ?a16 ?F16 ?a17 ?F17 ?a18 ?F18 ?a19 ?F19 ?a20 ?F20 ?a21 ?F21 ?a22 ?F22 ?a23 ?F23 ?a24 ?F24 ?a25 ?F25 ?a26 ?F26 ?a27 ?F27 ?a28 ?F28 ?a29 ?F29 ?a30 ?F30 ?a31 ?F31 ?a32 ?F32 ?a33 ?F33 ?a34 ?F34 ?a35 ?F35 ?a36 ?F36 ?a37 ?F37 ?a38 ?F38 ?a39 ?F39 ?a40 ?F40 ?a41 ?F41 ?a42 ?F42 ?a43 ?F43 ?a44 ?F44 ?a45 ?F45 ?a46 ?F46 ?fn46 ?a47 ?F47 ?fn47 ?a48 ?F48 ?fn48 ?a49 ?F49 ?fn49 ?a50 ?F50 ?fn50 ?a51 ?F51 ?fn51 ?a52 ?F52 ?fn52 ?a53 ?F53 ?fn53 ?a54 ?F54 ?fn54 ?a55 ?F55 ?fn55 ?a56 ?F56 ?fn56 ?a57 ?F57 ?fn57 ?a58 ?F58 ?fn58 ?a59 ?F59 ?fn59 ?a60 ?F60 ?fn60 ?a61 ?F61 ?fn61 ?a62 ?F62 ?fn62 ?a63 ?F63 ?fn63 ?uWALL_SORTS ?wWALL_SORTS ?uLONGEST_NAME ?uNAME ?uSORT ?uHOST ?uSHUTS ?uBARS ?uROOT_NAME ?uMOST_OPEN ?uTOLD_FOR ?wTOLD_FOR ?uESCAPED ?wESCAPED ?uSTART ?uSTOP ?uBLANKS ?pg0Branch ?hd0Branch ?po0Branch ?sa0Branch ?ns0Branch ?na0Branch0name ?na0Branch0place ?na0Branch0parts ?na0Branch0waiting ?pg0Reader ?hd0Reader ?po0Reader ?sa0Reader ?ns0Reader ?na0Reader0book ?na0Reader0branches ?na0Reader0mends ?na0Reader0laid ?mk0Branch ?kp0Branch ?mk0Reader ?kp0Reader ?zall ?zany ?zenumerate ?zint ?zisinstance ?zlen ?zrange ?zreversed ?zstr ?ztuple
  (case eBranch=>k_is);(case eReader=>k_is);(case a0=>k_is);(case F0=>x_go)
  (case a1=>k_is);(case F1=>x_go);(case a2=>k_is);(case F2=>x_go)
  (case a3=>k_is);(case F3=>x_go);(case a4=>k_is);(case F4=>x_go)
  (case a5=>k_is);(case F5=>x_go);(case a6=>k_is);(case F6=>x_go)
  (case a7=>k_is);(case F7=>x_go);(case a8=>k_is);(case F8=>x_go)
  (case a9=>k_is);(case F9=>x_go);(case a10=>k_is);(case F10=>x_go)
  (case a11=>k_is);(case F11=>x_go);(case a12=>k_is);(case F12=>x_go)
  (case a13=>k_is);(case F13=>x_go);(case a14=>k_is);(case F14=>x_go)
  (case a15=>k_is);(case F15=>x_go);(case a16=>k_is);(case F16=>x_go)
  (case a17=>k_is);(case F17=>x_go);(case a18=>k_is);(case F18=>x_go)
  (case a19=>k_is);(case F19=>x_go);(case a20=>k_is);(case F20=>x_go)
  (case a21=>k_is);(case F21=>x_go);(case a22=>k_is);(case F22=>x_go)
  (case a23=>k_is);(case F23=>x_go);(case a24=>k_is);(case F24=>x_go)
  (case a25=>k_is);(case F25=>x_go);(case a26=>k_is);(case F26=>x_go)
  (case a27=>k_is);(case F27=>x_go);(case a28=>k_is);(case F28=>x_go)
  (case a29=>k_is);(case F29=>x_go);(case a30=>k_is);(case F30=>x_go)
  (case a31=>k_is);(case F31=>x_go);(case a32=>k_is);(case F32=>x_go)
  (case a33=>k_is);(case F33=>x_go);(case a34=>k_is);(case F34=>x_go)
  (case a35=>k_is);(case F35=>x_go);(case a36=>k_is);(case F36=>x_go)
  (case a37=>k_is);(case F37=>x_go);(case a38=>k_is);(case F38=>x_go)
  (case a39=>k_is);(case F39=>x_go);(case a40=>k_is);(case F40=>x_go)
  (case a41=>k_is);(case F41=>x_go);(case a42=>k_is);(case F42=>x_go)
  (case a43=>k_is);(case F43=>x_go);(case a44=>k_is);(case F44=>x_go)
  (case a45=>k_is);(case F45=>x_go);(case a46=>k_is);(case F46=>x_go)
  (case fn46=>k_is);(case a47=>k_is);(case F47=>x_go);(case fn47=>k_is)
  (case a48=>k_is);(case F48=>x_go);(case fn48=>k_is);(case a49=>k_is)
  (case F49=>x_go);(case fn49=>k_is);(case a50=>k_is);(case F50=>x_go)
  (case fn50=>k_is);(case a51=>k_is);(case F51=>x_go);(case fn51=>k_is)
  (case a52=>k_is);(case F52=>x_go);(case fn52=>k_is);(case a53=>k_is)
  (case F53=>x_go);(case fn53=>k_is);(case a54=>k_is);(case F54=>x_go)
  (case fn54=>k_is);(case a55=>k_is);(case F55=>x_go);(case fn55=>k_is)
  (case a56=>k_is);(case F56=>x_go);(case fn56=>k_is);(case a57=>k_is)
  (case F57=>x_go);(case fn57=>k_is);(case a58=>k_is);(case F58=>x_go)
  (case fn58=>k_is);(case a59=>k_is);(case F59=>x_go);(case fn59=>k_is)
  (case a60=>k_is);(case F60=>x_go);(case fn60=>k_is);(case a61=>k_is)
  (case F61=>x_go);(case fn61=>k_is);(case a62=>k_is);(case F62=>x_go)
  (case fn62=>k_is);(case a63=>k_is);(case F63=>x_go);(case fn63=>k_is)
  (case uWALL_SORTS=>k_is);(case wWALL_SORTS=>k_is);(case uLONGEST_NAME=>k_is);(case uNAME=>k_is)
  (case uSORT=>k_is);(case uHOST=>k_is);(case uSHUTS=>k_is);(case uBARS=>k_is)
  (case uROOT_NAME=>k_is);(case uMOST_OPEN=>k_is);(case uTOLD_FOR=>k_is);(case wTOLD_FOR=>k_is)
  (case uESCAPED=>k_is);(case wESCAPED=>k_is);(case uSTART=>k_is);(case uSTOP=>k_is)
  (case uBLANKS=>k_is);(case pg0Branch=>k_is);(case hd0Branch=>k_is);(case po0Branch=>k_is)
  (case sa0Branch=>k_is);(case ns0Branch=>k_is);(case na0Branch0name=>k_is);(case na0Branch0place=>k_is)
  (case na0Branch0parts=>k_is);(case na0Branch0waiting=>k_is);(case pg0Reader=>k_is);(case hd0Reader=>k_is)
  (case po0Reader=>k_is);(case sa0Reader=>k_is);(case ns0Reader=>k_is);(case na0Reader0book=>k_is)
  (case na0Reader0branches=>k_is);(case na0Reader0mends=>k_is);(case na0Reader0laid=>k_is);(case mk0Branch=>k_is)
  (case kp0Branch=>k_is);(case mk0Reader=>k_is);(case kp0Reader=>k_is);(case zall=>k_is)
  (case zany=>k_is);(case zenumerate=>k_is);(case zint=>k_is);(case zisinstance=>k_is)
  (case zlen=>k_is);(case zrange=>k_is);(case zreversed=>k_is);(case zstr=>k_is)
  (case ztuple=>k_is)
end
