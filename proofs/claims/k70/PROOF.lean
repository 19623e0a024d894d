import PyProof.Rows.All
import Wide.All
import OpenK.AllK
import Wide.FinOn
import Lean
import PyProof.EqAt
import PyProof.EqKinds
import PyProof.TupleCall
import PyProof.NeData
import PyProof.Rows.StrJoin2
import PyProof.Rows.SortStr
import PyProof.Rows.SortWalk
import KE.KRevIter
import PyProof.Rows.RuleN_isinstance
import PyProof.StrReplace2
import PyProof.StrWalks
import PyProof.Draws
import PyProof.EnumMake
import PyProof.Rows.StrNews2
import PyProof.StrLawsTight
import PyProof.StrLawsReplace
import PyProof.ConsumeWalk
import PyProof.StrLawsFrom
import PyProof.DictValues
import PyProof.Rows.SumAny
import PyProof.SeqI3
import PyProof.NoPylong
import PyProof.Rows.FStrParts
import PyProof.ListRange
import PyProof.ListStr
import PyProof.DictWalks
import PyProof.DictItemsLoops
import PyProof.FactsAll.dict_itemiterator_1
import PyProof.Rows.RegStrFacts
import KE.KDictList
import KE.KDictOf
import PyProof.AttrMissSeq
import PyProof.TupleIter
import PyProof.StrLawsFirst
import PyProof.ReprHeadsTuple
import PyProof.ReprLen
import PySem.Challenge.RW_tagmend_k70_set_in
set_option Elab.async false
set_option hygiene false
set_option linter.all false
set_option compiler.extract_closed false
set_option genSizeOf false
set_option bootstrap.genMatcherCode false
local macro_rules | `(tactic| omega) => `(tactic| lia)
local macro_rules | `(tactic| walk_at "tk") => `(tactic| first | exact Nat.succ_pos _ | assumption | exact L2.Inv.tk ‹_› | omega)
local macro_rules | `(tactic| z_go) => `(tactic| first | exact Nat.le_of_ble_eq_true rfl | simp)
local macro_rules | `(tactic| walk_at "or") => `(tactic| first | exact .inl rfl | exact .inr rfl)
local macro_rules | `(tactic| walk_at "le") => `(tactic| first | decide | omega)
local macro_rules | `(tactic| walk_at "k") => `(tactic| exact ⟨rfl, rfl, rfl, by decide +kernel, rfl, by decide +kernel, by decide +kernel⟩)
local macro_rules | `(tactic| walk_at "n") => `(tactic| (intro _ _ _ _ zh; repeat (first | (obtain ⟨rfl, _⟩ := zh; rfl) | obtain ⟨_, zh⟩ := zh)))
theorem zAu(a:True:=by rfl)(b:True:=by decide)(c:0<1:=by walk_at "tk")(d:True:=by intro _;rfl)(e:True:=by first|exact .inl rfl|exact .inr rfl|assumption):True:=a
def zAr:Lean.Syntax:=zAu._auto_1
def zAd:Lean.Syntax:=zAu._auto_2
def zAt:Lean.Syntax:=zAu._auto_3
def zAi:Lean.Syntax:=zAu._auto_4
def zAf:Lean.Syntax:=zAu._auto_5
theorem PySem.W.Fast.tw5285989535680512425 : True := ⟨⟩
theorem PySem.W.Fast.tw17792799046843379275 : True := ⟨⟩
theorem PySem.W.Fast.tw14560635434933988268 : True := ⟨⟩
theorem PySem.W.Fast.tw15654501333516752021 : True := ⟨⟩
theorem PySem.W.Fast.tw18084403918392648619 : True := ⟨⟩
theorem PySem.W.Fast.tw4247021970081419961 : True := ⟨⟩
theorem PySem.W.Fast.tw3685771315719248467 : True := ⟨⟩
theorem PySem.W.Fast.tw4339905905314759405 : True := ⟨⟩
theorem PySem.W.Fast.tw9228302087519766602 : True := ⟨⟩
theorem PySem.W.Fast.tw11136581950493115995 : True := ⟨⟩
theorem PySem.W.Fast.tw2145725818350399756 : True := ⟨⟩
theorem PySem.W.Fast.tw10573097594776101914 : True := ⟨⟩
theorem PySem.W.Fast.tw7370394211031822009 : True := ⟨⟩
theorem PySem.W.Fast.tw6139093716677278982 : True := ⟨⟩
theorem PySem.W.Fast.tw14795858468343807923 : True := ⟨⟩
theorem PySem.W.Fast.tw8411164100545215237 : True := ⟨⟩
theorem PySem.W.Fast.tw14307964896073426595 : True := ⟨⟩
theorem PySem.W.Fast.tw3469349752877825615 : True := ⟨⟩
theorem PySem.W.Fast.tw11588175081307263186 : True := ⟨⟩
noncomputable section
abbrev Fg:=PySem.W.Frag
set_option maxRecDepth 100000
namespace L2
open PySem PySem.Spec PyProof.Rows
abbrev Key:=Sum Int Str
def xp1:Key->Value->Bool
 | .inl k,v=>Value.isInt k v
 | .inr x,v=>Value.isStrOf x v
def Al4(w:World):Key->Int
 | .inl k=>hashInt k
 | .inr x=>hashStr w x
theorem R9:∀ {k:Key} {v:Value},xp1 k v=true->(∃ i t,k=Sum.inl i/\v=Value.int i t)\/(∃ x t,k=Sum.inr x/\v=Value.str x t)
 | .inl i,v,h=>by
   obtain⟨t,e⟩:=Value.isInt_shape (k:=i) (v:=v) h
   exact .inl ⟨i,t,rfl,e⟩
 | .inr x,v,h=>by
   obtain⟨t,e⟩:=Value.isStrOf_shape (x:=x) (v:=v) h
   exact .inr ⟨x,t,rfl,e⟩
theorem yt8(i:Int)(t:Tok):xp1 (.inl i) (.int i t)=true:=by simp[xp1,Value.isInt]
theorem yt9(x:Str)(t:Tok):xp1 (.inr x) (.str x t)=true:=by simp[xp1,Value.isStrOf]
theorem zv9(a b:Int):decide ((Sum.inl a:Key)=Sum.inl b)=(a == b):=by
 by_cases e:a=b
 ·subst e;simp
 ·have h:¬(Sum.inl a:Key)=Sum.inl b:=fun q=>e (Sum.inl.inj q)
  rw[decide_eq_false h]
  exact(beq_eq_false_iff_ne.mpr e).symm
theorem zw0(a b:Str):decide ((Sum.inr a:Key)=Sum.inr b)=decide (a=b):=by
 by_cases e:a=b
 ·subst e;simp
 ·have h:¬(Sum.inr a:Key)=Sum.inr b:=fun q=>e (Sum.inr.inj q)
  rw[decide_eq_false h,decide_eq_false e]
theorem zw1(a:Int)(b:Str):decide ((Sum.inl a:Key)=Sum.inr b)=false:=decide_eq_false (fun q=>nomatch q)
theorem zw2(a:Str)(b:Int):decide ((Sum.inr a:Key)=Sum.inl b)=false:=decide_eq_false (fun q=>nomatch q)
def R4(prog:Program)(w:World):PySem.KeyKind prog w Key where
 is:=xp1
 hash:=Al4 w
 inj:=fun v a b ha hb=>by
  rcases R9 ha with⟨i,t,rfl,rfl⟩|⟨x,t,rfl,rfl⟩
  ·rcases R9 hb with⟨j,u,rfl,e⟩|⟨y,u,rfl,e⟩
   ·injection e with e1 _;rw[e1]
   ·exact nomatch e
  ·rcases R9 hb with⟨j,u,rfl,e⟩|⟨y,u,rfl,e⟩
   ·exact nomatch e
   ·injection e with e1 _;rw[e1]
 byValue:=fun k v h=>by
  rcases R9 h with⟨i,t,rfl,rfl⟩|⟨x,t,rfl,rfl⟩ <;> rfl
 pyHash:=fun hv h=>by
  rcases R9 hv with⟨i,t,rfl,rfl⟩|⟨x,t,rfl,rfl⟩
  ·exact wpAny_pyHash_int h
  ·exact wpAny_pyHash_str h
 eqBool:=fun hu hv h=>by
  rcases R9 hu with⟨i,t,rfl,rfl⟩|⟨x,t,rfl,rfl⟩
  ·rcases R9 hv with⟨j,u,rfl,rfl⟩|⟨y,u,rfl,rfl⟩
   ·rw[zv9] at h;exact wpAny_eqBool_int h
   ·rw[zw1] at h;exact SeqAt.EqAt.int_str i t y u _ _ _ _ h
  ·rcases R9 hv with⟨j,u,rfl,rfl⟩|⟨y,u,rfl,rfl⟩
   ·rw[zw2] at h;exact SeqAt.EqAt.str_int x t j u _ _ _ _ h
   ·rw[zw0] at h;exact wpAny_eqBool_str h
 «strs»:=fun k x t v h=>by
  rcases R9 h with⟨i,u,rfl,e⟩|⟨y,u,rfl,e⟩
  ·exact nomatch e
  ·injection e with e1 _
   subst e1
   cases v <;> rfl
theorem xz7(prog:Program)(w:World)(i:Int)(t:Tok):(R4 prog w).is (.inl i) (.int i t)=true:=yt8 i t
theorem xz8(prog:Program)(w:World)(x:Str)(t:Tok):(R4 prog w).is (.inr x) (.str x t)=true:=yt9 x t
inductive V where
 | non|bl (b:Bool)|int (i:Int)|str (x:Str)|byt (b:Array UInt8)|flt (b:UInt64)|ref (a:Addr)|ty (n:String)
 deriving DecidableEq
def M4:V->Value->Prop
 | .non,u=>u=Value.none
 | .bl b,u=>u=Value.bool b
 | .int i,u=>∃ t,u=Value.int i t
 | .str x,u=>∃ t,u=Value.str x t
 | .byt b,u=>∃ t,u=Value.bytes b t
 | .flt b,u=>∃ t,u=Value.float b t
 | .ref a,u=>u=Value.ref a
 | .ty n,u=>u=Value.type n
abbrev J9:List V->List Value->Prop:=Paired M4
variable{us:List Value}{xs:List V}
theorem J9.length(r:J9 xs us):xs.length=us.length:=Paired.length r
theorem J9.get:∀ {xs:List V} {us:List Value} {i:Nat} {x:V},J9 xs us->xs[i]?=some x->∃ u,us[i]?=some u/\M4 x u
 | _,_,_,_,.nil,e=>by simp at e
 | _,_,0,_,.cons r _,e=>by simp at e;subst e;exact⟨_,rfl,r⟩
 | _,_,i+1,x,.cons _ t,e=>by
   obtain⟨u,h1,h2⟩:=J9.get (i:=i) (x:=x) t (by simpa using e)
   exact⟨u,by simpa using h1,h2⟩
theorem J9.set{x:V}{u:Value}(r:M4 x u):∀ {xs:List V} {us:List Value} (i:Nat),J9 xs us->J9 (xs.set i x) (us.set i u)
 | _,_,_,.nil=>.nil
 | _,_,0,.cons _ t=>.cons r t
 | _,_,i+1,.cons q t=>.cons q (J9.set r i t)
theorem J9.append:∀ {xs ys:List V} {us ws:List Value},J9 xs us->J9 ys ws->J9 (xs++ys) (us++ws)
 | _,_,_,_,.nil,s=>s
 | _,_,_,_,.cons r t,s=>.cons r (J9.append t s)
theorem J9.take:∀ {xs:List V} {us:List Value} (n:Nat),J9 xs us->J9 (xs.take n) (us.take n)
 | _,_,0,_=>.nil
 | _,_,_+1,.nil=>.nil
 | _,_,n+1,.cons r t=>.cons r (J9.take n t)
theorem J9.drop:∀ {xs:List V} {us:List Value} (n:Nat),J9 xs us->J9 (xs.drop n) (us.drop n)
 | _,_,0,r=>r
 | _,_,_+1,.nil=>.nil
 | _,_,n+1,.cons _ t=>J9.drop n t
def wa5:Option V->Option Value->Prop
 | some v,some u=>M4 v u
 | none,none=>True
 | _,_=>False
def KV{κ:Type}:List (κ×V)->List (κ×Value)->Prop:=Paired fun(p:κ×V) (q:κ×Value)=>p.1=q.1/\M4 p.2 q.2
def kV:Key->V
 | .inl i=>.int i
 | .inr x=>.str x
set_option genInjectivity false in
inductive HO where
 /-- a list -/
 | lst (xs:List V)
 /-- a tuple (never changes) -/
 | tup (xs:List V)
 /-- a dict whose keys are ints and texts;one whose keys are tuples of ints and texts (the empty one is both) -/
 | dK (kvs:List (Key×V))|dT (kvs:List (List Key×V))
 /-- a set of ints: its members,its size -/
 | set (S:Int->Bool) (n:Nat)
 /-- an instance of the class at C,its dict at dx,its attributes -/
 | ins (C dx:Addr) (fs:List (Str×V))
 /-- the dict of the instance at x -/
 | own (x:Addr)
 /-- the dict of an exception -/
 | xd (fs:List (Str×V))
 /-- a bound method,f of x -/
 | met (f x:Addr)
 /-- a range object lo,lo+1,.. below hi -/
 | rng (lo hi:Int)
 /-- a thing that is known to the object (the script;a dict while a loop walks it): read,never written while it is so -/
 | frz (o:Obj) (u:HO)
 /-- a code object's table -/
 | tbl (ps:Array Value)
 /-- any other thing,by what is true of its one object (a def of one's own: SetO a S n:=HO.ext fun h=>..) -/
 | ext (φ:Heap->Prop)
abbrev Hp:=Addr->Option HO
def upd(H:Hp)(a:Addr)(o:HO):Hp:=fun b=>if b=a then some o else H b
variable{H:Hp}{a:Addr}
theorem A7{o:HO}:upd H a o a=some o:=by unfold upd;rw[if_pos rfl]
variable{b:Addr}
theorem C6{o:HO}(h:b≠a):upd H a o b=H b:=by unfold upd;rw[if_neg h]
theorem Ae9{o u:HO}(h:H a=some o)(h':H b=some u)(d:o≠u):a≠b:=by
 intro e;subst e;rw[h] at h';exact d (Option.some.inj h')
theorem T6{o:HO}(h:H a=some o)(h':H b=none):a≠b:=by
 intro e;subst e;rw[h] at h';cases h'
section
variable(P:Program)(w:World)
def O8(H:Hp)(h:Heap)(a:Addr):HO->Prop
 | .lst xs=>xs.length<=sizeLine/\∃ (its:List Value) (n:Nat),J9 xs its/\h.get? a=some {cls:=.type "list",data:=.seq its.toArray n}
 | .tup xs=>xs.length<=sizeLine/\∃ its:List Value,J9 xs its/\IsTup h a its.toArray
 | .dK kvs=>kvs.length<=sizeLine/\(a == sysModules)=false/\∃ vs,KV kvs vs/\h.DictOf (R4 P w) a vs
 | .dT kvs=>kvs.length<=sizeLine/\(a == sysModules)=false/\∃ xs:List (List Key×Addr×Value),
  Paired (fun(p:List Key×V) (q:List Key×Addr×Value)=>p.1=q.1/\H q.2.1=some (.tup (p.1.map kV))/\M4 p.2 q.2.2) kvs xs /\
  ∃ o es ep,h.get? a=some o/\o.ExactDict/\o.data=.dict es ep/\es.toList=xs.map (entryOfKey (tupleKind (R4 P w)))/\(xs.map (·.1)).Nodup
 | .set S n=>h.SetOf (intKind P w) a S n
 | .ins C dx fs=>H dx=some (.own a)/\fs.length<=1000/\dx≠a/\h.get? a=some (PySem.W.instObj C dx) /\
  ∃ mA,h.Ns1 dx mA/\(∀ f,wa5 (fs.lookup f) (mA f))/\PySem.Within mA (fs.map (·.1))
 | .own _=>∃ o,h.get? a=some o
 | .xd fs=>∃ mA,h.Ns1 a mA/\∀ f,wa5 (fs.lookup f) (mA f)
 | .rng lo hi=>∃ t u v,h.get? a=some {cls:=.type "range",data:=.fields #[.int lo t,.int hi u,.int 1 v]}
 | .frz o u=>h.get? a=some o/\O8 H h a u
 | .tbl ps=>h.get? a=some {cls:=.none,data:=.fields ps}
 | .met f x=>h.get? a=some (PySem.W.methodObj (.ref f) (.ref x))
 | .ext φ=>φ h/\(∃ o,h.get? a=some o)/\∀ h1 h2:Heap,φ h1->(∀ o,h1.get? a=some o->h2.get? a=some o)->φ h2
def HOk(H:Hp)(h:Heap):Prop:=∀ a o,H a=some o->O8 P w H h a o
end
variable{H':Hp}{P:Program}{h h':Heap}{w:World}
section
variable{o:HO}
theorem O8.lt(x:O8 P w H h a o):a<h.objs.size:=by
 cases o with
 | lst xs=>obtain⟨_,_,_,_,e⟩:=x;exact Heap.lt_size e
 | tup xs=>obtain⟨_,_,_,p⟩:=x;exact p.lt
 | dK kvs=>obtain⟨_,_,_,_,o,_,_,e,_⟩:=x;exact Heap.lt_size e
 | dT kvs=>obtain⟨_,_,_,_,o,_,_,e,_⟩:=x;exact Heap.lt_size e
 | set S n=>obtain⟨o,_,_,_,e,_⟩:=x;exact Heap.lt_size e
 | ins C dx fs=>obtain⟨_,_,_,e,_⟩:=x;exact Heap.lt_size e
 | own y=>obtain⟨_,e⟩:=x;exact Heap.lt_size e
 | xd fs=>obtain⟨_,⟨_,_,_,e,_⟩,_⟩:=x;exact Heap.lt_size e
 | rng lo hi=>obtain⟨_,_,_,e⟩:=x;exact Heap.lt_size e
 | frz ob u=>obtain⟨e,_⟩:=x;exact Heap.lt_size e
 | tbl ps=>exact Heap.lt_size (show h.get? a=some _ from x)
 | met f y=>exact Heap.lt_size (show h.get? a=some _ from x)
 | ext φ=>obtain⟨_,⟨_,e⟩,_⟩:=x;exact Heap.lt_size e
theorem Paired.mapP{α β:Type}{F G:α->β->Prop}:∀ {l₁:List α} {l₂:List β},Paired F l₁ l₂->(∀ a b,F a b->G a b)->Paired G l₁ l₂
 | _,_,.nil,_=>.nil
 | _,_,.cons r t,f=>.cons (f _ _ r) (Paired.mapP t f)
theorem O8.stay(x:O8 P w H h a o)(k:∀ b u,(b=a\/H b=some (.own a))->h.get? b=some u->h'.get? b=some u)(ho:∀ b,H b=some (.own a)->H' b=some (.own a))(ht:∀ b xs,H b=some (.tup xs)->H' b=some (.tup xs)):O8 P w H' h' a o:=by
 induction o with
 | lst xs=>obtain⟨z,its,n,r,e⟩:=x;exact⟨z,its,n,r,k _ _ (.inl rfl) e⟩
 | tup xs=>obtain⟨z,its,r,ob,e,c⟩:=x;exact⟨z,its,r,ob,k _ _ (.inl rfl) e,c⟩
 | dK kvs=>obtain⟨z,y,vs,r,ob,es,ep,e,c⟩:=x;exact⟨z,y,vs,r,ob,es,ep,k _ _ (.inl rfl) e,c⟩
 | dT kvs =>
   obtain⟨z,y,xs,r,ob,es,ep,e,c⟩:=x
   exact⟨z,y,xs,Paired.mapP r fun p q z=>⟨z.1,ht _ _ z.2.1,z.2.2⟩,ob,es,ep,k _ _ (.inl rfl) e,c⟩
 | set S n=>obtain⟨ob,es,ep,t,e,c⟩:=x;exact⟨ob,es,ep,t,k _ _ (.inl rfl) e,c⟩
 | ins C dx fs =>
   obtain⟨d,z,ne,e,mA,⟨od,es,ep,e2,c⟩,r⟩:=x
   exact⟨ho _ d,z,ne,k _ _ (.inl rfl) e,mA,⟨od,es,ep,k _ _ (.inr d) e2,c⟩,r⟩
 | own y=>obtain⟨ob,e⟩:=x;exact⟨ob,k _ _ (.inl rfl) e⟩
 | xd fs=>obtain⟨mA,⟨od,es,ep,e,c⟩,r⟩:=x;exact⟨mA,⟨od,es,ep,k _ _ (.inl rfl) e,c⟩,r⟩
 | rng lo hi=>obtain⟨t,u,v,e⟩:=x;exact⟨t,u,v,k _ _ (.inl rfl) e⟩
 | frz ob u ih=>obtain⟨e,q⟩:=x;exact⟨k _ _ (.inl rfl) e,ih q⟩
 | tbl ps =>
   have e:h.get? a=some {cls:=.none,data:=.fields ps}:=x
   show h'.get? a=some {cls:=.none,data:=.fields ps}
   exact k a _ (.inl rfl) e
 | met f y =>
   have e:h.get? a=some (PySem.W.methodObj (.ref f) (.ref y)):=x
   show h'.get? a=some (PySem.W.methodObj (.ref f) (.ref y))
   exact k a _ (.inl rfl) e
 | ext φ=>obtain⟨p,⟨o,e⟩,st⟩:=x;exact⟨st _ _ p fun o q=>k _ _ (.inl rfl) q,⟨o,k _ _ (.inl rfl) e⟩,st⟩
theorem HOk.lt(x:HOk P w H h)(e:H a=some o):a<h.objs.size:=(x a o e).lt
theorem HOk.fresh(x:HOk P w H h)(e:h.objs.size<=a):H a=none:=by
 cases q:H a with
 | none=>rfl
 | some u=>exact absurd (Nat.lt_of_lt_of_le (x.lt q) e) (Nat.lt_irrefl _)
theorem HOk.kept(x:HOk P w H h)(k:∀ b u,h.get? b=some u->h'.get? b=some u):HOk P w H h':=fun a o e =>
 (x a o e).stay (fun b u _ q=>k b u q) (fun _ q=>q) fun _ _ q=>q
theorem HOk.laid(x:HOk P w H h)(k:∀ b u,h.get? b=some u->h'.get? b=some u)(hp:h.objs.size<=a)(new:O8 P w (upd H a o) h' a o):HOk P w (upd H a o) h':=fun b u e=>by
 have hn:=x.fresh hp
 by_cases hb:b=a
 ·subst hb;rw[A7] at e;cases e;exact new
 ·rw[C6 hb] at e
  exact(x b u e).stay (fun c v _ q=>k c v q) (fun c q=>by rw[C6 (T6 q hn)];exact q) fun c xs q=>by rw[C6 (T6 q hn)];exact q
end
def Rd(H:Hp)(a:Addr)(u:HO):Prop:=H a=some u\/∃ o,H a=some (.frz o u)
theorem Rd.ok{u:HO}(r:Rd H a u)(x:HOk P w H h):O8 P w H h a u:=by
 rcases r with r|⟨o,r⟩
 ·exact x a u r
 ·obtain⟨_,q⟩:=x a _ r
  exact q
def Mut:Option HO->Prop
 | some (.lst _)=>True
 | some (.dK _)=>True
 | some (.dT _)=>True
 | some (.set _ _)=>True
 | some (.ins _ _ _)=>True
 | some (.ext _)=>True
 | some (.xd _)=>True
 | _=>False
section
variable{x e:Addr}{o':HO}
theorem HOk.write(ok:HOk P w H h)(mu:Mut (H x))(he:e=x\/H e=some (.own x))(k:∀ b u,b≠e->h.get? b=some u->h'.get? b=some u)(heo:∃ u,h'.get? e=some u)(new:O8 P w (upd H x o') h' x o'):HOk P w (upd H x o') h':=fun b u q=>by
 have nown:∀ c y,H c=some (.own y)->c≠x:=fun c y r z=>by subst z;rw[r] at mu;exact mu
 have ntup:∀ c xs,H c=some (.tup xs)->c≠x:=fun c xs r z=>by subst z;rw[r] at mu;exact mu
 by_cases hb:b=x
 ·subst hb;rw[A7] at q;cases q;exact new
 ·rw[C6 hb] at q
  by_cases hbe:b=e
  ·have q':H b=some (.own x):=by
    rcases he with z|z
    ·exact absurd (hbe.trans z) hb
    ·rw[hbe];exact z
   rw[q] at q';cases q'
   obtain⟨v,hv⟩:=heo
   exact⟨v,by rw[hbe];exact hv⟩
  ·refine(ok b u q).stay (fun c v hc r=>k c v ?_ r) (fun c r=>by rw[C6 (nown c b r)];exact r) fun c xs r=>by rw[C6 (ntup c xs r)];exact r
   rcases hc with rfl|hc
   ·exact hbe
   ·rintro rfl
    rcases he with z|z
    ·exact nown c b hc z
    ·rw[hc] at z;cases z;exact hb rfl
end
structure Un(fs ex:List Addr)(H H':Hp)(h h':Heap):Prop where
 keep:∀ b o,h.get? b=some o->H b=none->b∉fs->b∉ex->h'.get? b=some o
 slot:∀ b o,h.get? b=some o->H b=none->b∈fs->b∉ex->∃ sl,h'.get? b=some {o with slots:=sl}
 free:∀ b o,h.get? b=some o->H b=none->b∉ex->H' b=none
 there:∀ b o,h.get? b=some o->b∉ex->∃ o',h'.get? b=some o'
 tups:∀ b xs,H b=some (.tup xs)->H' b=some (.tup xs)
 frzs:∀ b o u,H b=some (.frz o u)->H' b=some (.frz o u)
 tbls:∀ b ps,H b=some (.tbl ps)->∃ more,H' b=some (.tbl (ps++more))
variable{H1 H2:Hp}{h1 h2:Heap}
section
variable{fs fs' ex ex':List Addr}{x e:Addr}{o:HO}
theorem Un.any(u:Un fs ex H H1 h h1){ob:Obj}(q:h.get? b=some ob)(n:H b=none)(hx:b∉ex):∃ sl,h1.get? b=some {ob with slots:=sl}:=by
 by_cases hb:b∈fs
 ·exact u.slot b ob q n hb hx
 ·exact⟨ob.slots,u.keep b ob q n hb hx⟩
theorem Un.kept(k:∀ b u,h.get? b=some u->h'.get? b=some u):Un fs ex H H h h' :=
 ⟨fun b ob q _ _ _=>k b ob q,fun b ob q _ _ _=>⟨ob.slots,k b ob q⟩,fun _ _ _ n _=>n,fun b ob q _=>⟨ob,k b ob q⟩,fun _ _ q=>q,fun _ _ _ q=>q,fun _ ps q=>⟨#[],by rw[q];simp⟩⟩
theorem Un.refl:Un fs ex H H h h:=Un.kept fun _ _ q=>q
theorem Un.laid(k:∀ b u,h.get? b=some u->h'.get? b=some u)(hp:h.objs.size<=a)(hn:H a=none):Un fs ex H (upd H a o) h h' where
 keep:=fun b u q _ _ _=>k b u q
 slot:=fun b u q _ _ _=>⟨u.slots,k b u q⟩
 free:=fun b u q n _=>by rw[C6 (Nat.ne_of_lt (Nat.lt_of_lt_of_le (Heap.lt_size q) hp))];exact n
 there:=fun b u q _=>⟨u,k b u q⟩
 tups:=fun b xs q=>by rw[C6 (T6 q hn)];exact q
 frzs:=fun b u xs q=>by rw[C6 (T6 q hn)];exact q
 tbls:=fun b ps q=>⟨#[],by rw[C6 (T6 q hn),q];simp⟩
theorem Un.write(mu:Mut (H x))(he:e=x\/H e=some (.own x))(k:∀ b u,b≠e->h.get? b=some u->h'.get? b=some u)(heo:∃ u,h'.get? e=some u):Un fs ex H (upd H x o) h h':=by
 have hx:∀ b,H b=none->b≠x:=fun b n z=>by subst z;rw[n] at mu;exact mu
 have hb:∀ b,H b=none->b≠e:=fun b n z=>by
  subst z
  rcases he with r|r
  ·exact hx b n r
  ·rw[n] at r;cases r
 have hm:∀ b u,H b=some u->¬Mut (some u)->b≠x:=fun b u q nm z=>by subst z;rw[q] at mu;exact nm mu
 refine⟨fun b u q n _ _=>k b u (hb b n) q,fun b u q n _ _=>⟨u.slots,k b u (hb b n) q⟩,fun b u q n _=>by rw[C6 (hx b n)];exact n,fun b u q _=>?_,
  fun b xs q=>by rw[C6 (hm b _ q fun z=>z)];exact q,fun b u xs q=>by rw[C6 (hm b _ q fun z=>z)];exact q,fun b ps q=>⟨#[],by rw[C6 (hm b _ q fun z=>z),q];simp⟩⟩
 by_cases hbe:b=e
 ·subst hbe;exact heo
 ·exact⟨u,k b u hbe q⟩
end
def trk(h:Heap)(H:Hp):List Addr:=(List.range h.objs.size).filter fun a=>(H a).isSome
def xs4(h:Heap)(H:Hp):Heap:=PySem.W.hideAll h (trk h H)
theorem yu0(h:Heap)(H:Hp):(xs4 h H).objs.size=h.objs.size:=PySem.W.hideAll_size _ _
theorem yz4{o:Obj}(e:h.get? b=some o)(n:H b=none):(xs4 h H).get? b=some o :=
 PySem.W.hideAll_get _ e fun hm=>by
  have q:(H b).isSome=true:=(List.mem_filter.mp hm).2
  rw[n] at q;simp at q
theorem zl0{o:Obj}(e:(xs4 h H).get? b=some o):h.get? b=some o/\H b=none:=by
 have e':h.get? b=some o:=PySem.W.of_hideAll (trk h H) e
 refine⟨e',?_⟩
 cases q:H b with
 | none=>rfl
 | some x =>
   have hm:b∈trk h H:=List.mem_filter.mpr ⟨List.mem_range.mpr (Heap.lt_size e'),by simp[q]⟩
   have z:(xs4 h H).get? b=none:=PySem.W.hideAll_none (trk h H) hm
   rw[z] at e;cases e
structure Mod(K:Fg)(mg:Str->Option Value)(base:Heap):Prop where
 kin:K.In base
 glob:base.Ns mainGlobals mg
 blt:∃ mb,base.Ns builtinsNs mb/\∀ x:Str,x ≠ "__name__"->mb x=bootBuiltins x
 nolimit:base.NoLimit
set_option genInjectivity false in
structure Cx where
 prog:Program
 w:World
 K:Fg
 mg:Str->Option Value
 base:Heap
 A:Around
 N:List Str
 s₀:Shared
 H₀:Hp
 env:Env
 outer:List Env
 stack:List Env
 ex:List Addr
 fn:Str->Bool
 calm:Bool
 pn:List (Addr×Obj)
 xe:Value->Shared->Prop
def frs(l:List Env):List Addr:=l.filterMap (·.frame)
abbrev Cx.fs(X:Cx):List Addr:=frs X.outer
def Vis(sc:Scope)(x:Str):Prop:=sc.names.lookup x=some .local\/sc.names.lookup x=some .cell\/sc.names.lookup x=some .free
def Loc(sc:Scope)(x:Str):Prop:=sc.names.lookup x=some .local\/sc.names.lookup x=some .cell
def Al5(env:Env)(h:Heap)(m:Str->Option Value)(x:Str)(u:Value):Prop :=
 (env.kindOf x=some .local/\m x=some u)\/((env.kindOf x=some .cell\/env.kindOf x=some .free)/\∃ c,env.cells.lookup x=some c/\h.IsCell c (some u))
structure Cx.Ok(X:Cx):Prop where
 mod:Mod X.K X.mg X.base
 kind:X.env.scope.kind=.function
 glob:X.env.globals=mainGlobals
 blt:X.env.builtins=builtinsNs
 above:X.s₀.heap.objs.size<=X.env.locals
 inj:∀ x y c,X.env.cells.lookup x=some c->X.env.cells.lookup y=some c->x=y
 has:∀ x,(X.env.kindOf x=some .cell\/X.env.kindOf x=some .free)->∃ c,X.env.cells.lookup x=some c
 cab:∀ x c,X.fn x=true->X.env.cells.lookup x=some c->X.s₀.heap.objs.size<=c
 hd:X.calm=true->X.A.handled=none
 frames:X.A.frames=some X.stack
 stk:X.stack=X.outer\/(X.stack=X.env::X.outer/\X.env.frame=some X.env.locals)
 exf:∀ b∈X.ex,b≠X.env.locals/\∀ x c,X.env.cells.lookup x=some c->c≠b
 bs:∀ b o,X.base.get? b=some o->X.s₀.heap.get? b=some o/\X.H₀ b=none
 bsz:X.base.objs.size<=X.s₀.heap.objs.size
 noex:∀ b o,X.base.get? b=some o->b∉X.ex
 exfs:∀ b∈X.ex,b∉X.fs
 funs:X.s₀.heap.FunFrames X.base X.outer
 frf:∀ b∈X.fs,X.H₀ b=none
structure Inv(X:Cx)(pins:List (Addr×Obj))(σ:List (Option V))(H:Hp)(s:Shared):Prop where
 ok:X.Ok
 os:s.os=X.s₀.os
 bare:AllBare s.gens
 base:Un X.fs X.ex X.H₀ H X.s₀.heap s.heap
 loc:∃ m,s.heap.Ns X.env.locals m/\∀ (i:Nat) (x:Str) (v:V),X.N[i]?=some x->σ[i]?=some (some v)->Vis X.env.scope x->∃ u,M4 v u/\Al5 X.env s.heap m x u
 cell:∀ x c,X.env.cells.lookup x=some c->∃ v,s.heap.IsCell c v
 free:H X.env.locals=none
 freeC:∀ x c,X.env.cells.lookup x=some c->H c=none
 pin:∀ p∈X.pn++pins,s.heap.get? p.1=some p.2/\H p.1=none/\p.1≠X.env.locals/\p.1∉X.fs/\∀ v,p.2.data≠.cell v
 hok:HOk X.prog X.w H s.heap
 len:σ.length=X.N.length
 tk:0<s.toks
variable{X:Cx}{pins:List (Addr×Obj)}{s:Shared}{d':Drawn}{g':Array GenState}{t':Nat}{it:Addr}{N:List Str}{x:Str}{A:Around}{E:Value->Shared->Prop}{M:Model}{u:Value}{v:V}
section
variable{σ:List (Option V)}
theorem Cx.Ok.nofr(ok:X.Ok){o:Obj}(e:X.base.get? b=some o):b∉X.fs:=fun hb=>by
 have:=(ok.funs.mem hb).1
 rw[e] at this;cases this
theorem Inv.bs(I:Inv X pins σ H s):∀ b o,X.base.get? b=some o->s.heap.get? b=some o/\H b=none:=fun b o e =>
 ⟨I.base.keep b o (I.ok.bs b o e).1 (I.ok.bs b o e).2 (I.ok.nofr e) (I.ok.noex b o e),I.base.free b o (I.ok.bs b o e).1 (I.ok.bs b o e).2 (I.ok.noex b o e)⟩
theorem Inv.bk(I:Inv X pins σ H s):∀ b o,X.base.get? b=some o->s.heap.get? b=some o:=fun b o e=>(I.bs b o e).1
theorem Inv.mod(I:Inv X pins σ H s):Mod X.K X.mg X.base:=I.ok.mod
theorem Inv.kIn(I:Inv X pins σ H s):X.K.In s.heap:=I.ok.mod.kin.keeps I.bk
theorem Inv.lt(I:Inv X pins σ H s):X.env.locals<s.heap.objs.size:=let ⟨_,hn,_⟩:=I.loc;hn.lt
theorem Inv.sz(I:Inv X pins σ H s):X.s₀.heap.objs.size<=s.heap.objs.size:=Nat.le_trans I.ok.above (Nat.le_of_lt I.lt)
theorem Inv.nofs(I:Inv X pins σ H s)(h:s.heap.objs.size<=a):a∉X.fs:=fun hb=>by
 obtain⟨_,o,ho,_⟩:=I.ok.funs.mem hb
 exact absurd (Nat.lt_of_lt_of_le (Heap.lt_size ho) (Nat.le_trans I.sz h)) (Nat.lt_irrefl _)
theorem Inv.cne(I:Inv X pins σ H s):∀ x c,X.env.cells.lookup x=some c->c≠X.env.locals:=fun x c e z=>by
 obtain⟨v,o,ho,hd⟩:=I.cell x c e
 obtain⟨m,⟨o',es,ep,ho',hd',_⟩,_⟩:=I.loc
 rw[z,ho'] at ho;cases ho;rw[hd'] at hd;cases hd
theorem Inv.funs(I:Inv X pins σ H s):s.heap.FunFrames X.base X.outer:=by
 have all:∀ (l:List Env),(∀ b∈frs l,b∈X.fs)->X.s₀.heap.FunFrames X.base l->s.heap.FunFrames X.base l:=by
  intro l
  induction l with
  | nil=>intro _ _;trivial
  | cons env r ih =>
    intro hs hl
    obtain⟨hk,⟨L,o,hf,hn,ho,hd⟩,hr⟩:=hl
    have hL:L∈X.fs:=hs L (by unfold frs;rw[List.filterMap_cons,hf];exact List.mem_cons_self)
    obtain⟨sl,e⟩:=I.base.slot L o ho (I.ok.frf L hL) hL fun z=>I.ok.exfs L z hL
    exact⟨hk,⟨L,_,hf,hn,e,hd⟩,ih (fun b hb=>hs b (by unfold frs;rw[List.filterMap_cons,hf];exact List.mem_cons_of_mem _ hb)) hr⟩
 exact all X.outer (fun _ hb=>hb) I.ok.funs
theorem Inv.stack(I:Inv X pins σ H s):s.heap.FunFrames X.base X.stack:=by
 rcases I.ok.stk with e|⟨e,hf⟩
 ·rw[e];exact I.funs
 ·rw[e]
  obtain⟨m,hn,_⟩:=I.loc
  refine .cons (by rw[I.ok.kind];decide) hf hn ?_ I.funs
  exact Heap.get?_none_of_le (Nat.le_trans I.ok.bsz I.ok.above)
theorem Inv.stkSub(I:Inv X pins σ H s):∀ b∈frs X.stack,b∈X.env.locals::X.fs:=fun b hb=>by
 rcases I.ok.stk with e|⟨e,hf⟩
 ·rw[e] at hb;exact List.mem_cons_of_mem _ hb
 ·rw[e] at hb
  unfold frs at hb
  rw[List.filterMap_cons,hf] at hb
  exact hb
theorem Inv.stkFree(I:Inv X pins σ H s):∀ b∈frs X.stack,H b=none:=fun b hb=>by
 rcases List.mem_cons.mp (I.stkSub b hb) with e|hb
 ·rw[e];exact I.free
 ·obtain⟨_,o,ho,_⟩:=I.ok.funs.mem hb
  exact I.base.free b o ho (I.ok.frf b hb) fun z=>I.ok.exfs b z hb
theorem Inv.step{ch:List Addr}(I:Inv X pins σ H s)(hch:∀ b∈ch,(b∈X.ex\/X.s₀.heap.objs.size<=b)/\b≠X.env.locals/\(∀ x c,X.env.cells.lookup x=some c->c≠b)/\∀ p∈X.pn++pins,p.1≠b)(keep:∀ b o,b≠X.env.locals->b∉X.fs->b∉ch->s.heap.get? b=some o->H b=none->h'.get? b=some o)(slot:∀ b o,b≠X.env.locals->b∈X.fs->b∉ch->s.heap.get? b=some o->H b=none->∃ sl,h'.get? b=some {o with slots:=sl})(free:∀ b o,b∉ch->s.heap.get? b=some o->H b=none->H' b=none)(there:∀ b o,b∉ch->s.heap.get? b=some o->∃ o',h'.get? b=some o')(tups:∀ b xs,H b=some (.tup xs)->H' b=some (.tup xs))(frzs:∀ b o u,H b=some (.frz o u)->H' b=some (.frz o u))(tbls:∀ b ps,H b=some (.tbl ps)->∃ more,H' b=some (.tbl (ps++more)))(ns:∀ m,s.heap.Ns X.env.locals m->h'.Ns X.env.locals m)(hok:HOk X.prog X.w H' h')(hg:AllBare g')(ht:autoParam (0<t') zAt) :
 Inv X pins σ H' {s with heap:=h',gens:=g',drawn:=d',toks:=t'}:=by
 have neL:∀ b o,X.s₀.heap.get? b=some o->b≠X.env.locals:=fun b o e=>Nat.ne_of_lt (Nat.lt_of_lt_of_le (Heap.lt_size e) I.ok.above)
 have neC:∀ b o,X.s₀.heap.get? b=some o->b∉X.ex->b∉ch:=fun b o e hx hb=>by
  rcases(hch b hb).1 with z|z
  ·exact hx z
  ·exact absurd (Nat.lt_of_lt_of_le (Heap.lt_size e) z) (Nat.lt_irrefl _)
 have cellK:∀ x c,X.env.cells.lookup x=some c->∀ v,s.heap.IsCell c v->h'.IsCell c v:=fun x c e v ⟨o,ho,hd⟩=>by
  have nch:c∉ch:=fun z=>(hch c z).2.2.1 x c e rfl
  by_cases hc:c∈X.fs
  ·obtain⟨sl,q⟩:=slot c o (I.cne x c e) hc nch ho (I.freeC x c e)
   exact⟨_,q,hd⟩
  ·exact⟨o,keep c o (I.cne x c e) hc nch ho (I.freeC x c e),hd⟩
 refine⟨I.ok,I.os,hg,⟨fun b o e n hb hx=>?_,fun b o e n hb hx=>?_,fun b o e n hx=>?_,fun b o e hx=>?_,fun b xs e=>tups b xs (I.base.tups b xs e),fun b o xs e=>frzs b o xs (I.base.frzs b o xs e),fun b ps e=>?_⟩,?_,fun x c e=>?_,?_,fun x c e=>?_,fun p hp=>?_,hok,I.len,ht⟩
 ·exact keep b o (neL b o e) hb (neC b o e hx) (I.base.keep b o e n hb hx) (I.base.free b o e n hx)
 ·obtain⟨sl,e1⟩:=I.base.slot b o e n hb hx
  obtain⟨sl',e2⟩:=slot b _ (neL b o e) hb (neC b o e hx) e1 (I.base.free b o e n hx)
  exact⟨sl',e2⟩
 ·obtain⟨o',e1⟩:=I.base.there b o e hx
  exact free b o' (neC b o e hx) e1 (I.base.free b o e n hx)
 ·obtain⟨o',e1⟩:=I.base.there b o e hx
  exact there b o' (neC b o e hx) e1
 ·obtain⟨m1,e1⟩:=I.base.tbls b ps e
  obtain⟨m2,e2⟩:=tbls b _ e1
  exact⟨m1++m2,by rw[e2,Array.append_assoc]⟩
 ·obtain⟨m,hn,hl⟩:=I.loc
  refine⟨m,ns m hn,fun i x v e1 e2 e3=>?_⟩
  obtain⟨u,r,l⟩:=hl i x v e1 e2 e3
  refine⟨u,r,?_⟩
  rcases l with l|⟨k,c,e,z⟩
  ·exact .inl l
  ·exact .inr ⟨k,c,e,cellK x c e _ z⟩
 ·obtain⟨v,z⟩:=I.cell x c e
  exact⟨v,cellK x c e v z⟩
 ·obtain⟨m,⟨o,_,_,ho,_⟩,_⟩:=I.loc
  exact free _ o (fun z=>(hch _ z).2.1 rfl) ho I.free
 ·obtain⟨v,o,ho,hd⟩:=I.cell x c e
  exact free c o (fun z=>(hch c z).2.2.1 x c e rfl) ho (I.freeC x c e)
 ·obtain⟨e,n,ne,nf,d⟩:=I.pin p hp
  have nch:p.1∉ch:=fun z=>(hch p.1 z).2.2.2 p hp rfl
  exact⟨keep p.1 p.2 ne nf nch e n,free p.1 p.2 nch e n,ne,nf,d⟩
theorem Inv.un(I:Inv X pins σ H s)(u:Un X.fs [] H H' s.heap h')(hok:HOk X.prog X.w H' h')(ht:autoParam (0<t') zAt):Inv X pins σ H' {s with heap:=h',toks:=t'}:=by
 obtain⟨m,⟨o,es,ep,ho,r⟩,_⟩:=id I.loc
 obtain⟨sl,hL⟩:=u.any ho I.free (by simp)
 exact I.step (g':=s.gens) (d':=s.drawn) (ch:=[]) (fun _ z=>nomatch z) (fun b o _ hb _ e n=>u.keep b o e n hb (by simp)) (fun b o _ hb _ e n=>u.slot b o e n hb (by simp)) (fun b o _ e n=>u.free b o e n (by simp)) (fun b o _ e=>u.there b o e (by simp)) u.tups u.frzs u.tbls (fun m' hm=>by
  obtain⟨o',es',ep',ho',r'⟩:=hm
  rw[ho] at ho';cases ho'
  exact⟨_,es',ep',hL,r'⟩) hok I.bare
theorem Inv.call{ch:List Addr}(I:Inv X pins σ H s)(u:Un (frs X.stack) ch H H' s.heap h')(hok:HOk X.prog X.w H' h')(hg:AllBare g')(hch:∀ b∈ch,(b∈X.ex\/X.s₀.heap.objs.size<=b)/\b≠X.env.locals/\(∀ x c,X.env.cells.lookup x=some c->c≠b)/\∀ p∈X.pn++pins,p.1≠b)(ht:autoParam (0<t') zAt) :
 Inv X pins σ H' {s with heap:=h',gens:=g',drawn:=d',toks:=t'}:=by
 obtain⟨m,⟨o,es,ep,ho,r⟩,_⟩:=id I.loc
 obtain⟨sl,hL⟩:=u.any ho I.free fun z=>(hch _ z).2.1 rfl
 exact I.step (ch:=ch) hch (fun b o hL hb hc e n=>u.keep b o e n (fun z=>(List.mem_cons.mp (I.stkSub b z)).elim hL hb) hc) (fun b o _ _ hc e n=>u.any e n hc) (fun b o hc e n=>u.free b o e n hc) (fun b o hc e=>u.there b o e hc) u.tups u.frzs u.tbls (fun m' hm=>by
  obtain⟨o',es',ep',ho',r'⟩:=hm
  rw[ho] at ho';cases ho'
  exact⟨_,es',ep',hL,r'⟩) hok hg
theorem Inv.turned(I:Inv X pins σ H s)(k:∀ b o,b≠it->s.heap.get? b=some o->h'.get? b=some o)(hn:H it=none)(hL:it≠X.env.locals)(h1:it∈X.ex\/X.s₀.heap.objs.size<=it)(h2:∀ x c,X.env.cells.lookup x=some c->c≠it)(h3:∀ p∈X.pn++pins,p.1≠it)(ht:autoParam (0<t') zAt):Inv X pins σ H {s with heap:=h',toks:=t'}:=by
 have nit:∀ b u,H b=some u->b≠it:=fun b u e z=>by rw[z,hn] at e;cases e
 refine I.step (g':=s.gens) (d':=s.drawn) (ch:=[it]) (fun b hb=>?_) (fun b o _ _ hc e _=>k b o (fun z=>hc (by simp[z])) e) (fun b o _ _ hc e _=>⟨o.slots,k b o (fun z=>hc (by simp[z])) e⟩) (fun _ _ _ _ n=>n)
  (fun b o hc e=>⟨o,k b o (fun z=>hc (by simp[z])) e⟩) (fun _ _ e=>e) (fun _ _ _ e=>e) (fun b ps e=>⟨#[],by rw[e];simp⟩) (fun m hm=>?_) (fun b u e=>?_) I.bare
 ·have e:b=it:=by simpa using hb
  subst e
  exact⟨h1,hL,h2,h3⟩
 ·obtain⟨o,es,ep,ho,r⟩:=hm
  exact⟨o,es,ep,k _ o (Ne.symm hL) ho,r⟩
 ·refine(I.hok b u e).stay (fun c v hc q=>k c v ?_ q) (fun _ q=>q) fun _ _ q=>q
  rcases hc with z|z
  ·rw[z];exact nit b u e
  ·exact nit c _ z
theorem Inv.tok(I:Inv X pins σ H s)(t':Nat)(ht:autoParam (0<t') zAt):Inv X pins σ H {s with toks:=t'}:=I.un (h':=s.heap) (t':=t') Un.refl I.hok
theorem Inv.kept(I:Inv X pins σ H s)(k:∀ b u,s.heap.get? b=some u->h'.get? b=some u)(ht:autoParam (0<t') zAt):Inv X pins σ H {s with heap:=h',toks:=t'}:=I.un (Un.kept k) (I.hok.kept k)
theorem Inv.laid{o:HO}(I:Inv X pins σ H s)(k:∀ b u,s.heap.get? b=some u->h'.get? b=some u)(hp:s.heap.objs.size<=a)(new:O8 X.prog X.w (upd H a o) h' a o)(ht:autoParam (0<t') zAt) :
 Inv X pins σ (upd H a o) {s with heap:=h',toks:=t'}:=I.un (Un.laid k hp (I.hok.fresh hp)) (I.hok.laid k hp new)
theorem Inv.write{x e:Addr}{o:HO}(I:Inv X pins σ H s)(mu:Mut (H x))(he:e=x\/H e=some (.own x))(k:∀ b u,b≠e->s.heap.get? b=some u->h'.get? b=some u)(heo:∃ u,h'.get? e=some u)(new:O8 X.prog X.w (upd H x o) h' x o)(ht:autoParam (0<t') zAt):Inv X pins σ (upd H x o) {s with heap:=h',toks:=t'}:=I.un (Un.write mu he k heo) (I.hok.write mu he k heo new)
theorem Inv.weak{σ':List (Option V)}(I:Inv X pins σ H s)(hl:σ'.length=σ.length)(w:∀ (i:Nat) v,σ'[i]?=some (some v)->σ[i]?=some (some v)):Inv X pins σ' H s :=
 ⟨I.ok,I.os,I.bare,I.base,let ⟨m,hn,hl'⟩:=I.loc;⟨m,hn,fun i x v e1 e2 e3=>hl' i x v e1 (w i v e2) e3⟩,I.cell,I.free,I.freeC,I.pin,I.hok,hl.trans I.len,I.tk⟩
theorem Inv.pins_of{pins':List (Addr×Obj)}(I:Inv X pins σ H s)(h:∀ p∈pins',s.heap.get? p.1=some p.2/\H p.1=none/\p.1≠X.env.locals/\p.1∉X.fs/\∀ v,p.2.data≠.cell v):Inv X pins' σ H s :=
 ⟨I.ok,I.os,I.bare,I.base,I.loc,I.cell,I.free,I.freeC,fun p hp=>(List.mem_append.mp hp).elim (fun z=>I.pin p (List.mem_append_left _ z)) (h p),I.hok,I.len,I.tk⟩
theorem wv3(hN:N.Nodup){i j:Nat}(a:N[i]?=some x)(b:N[j]?=some x):i=j:=by
 obtain⟨h1,e1⟩:=List.getElem?_eq_some_iff.mp a
 obtain⟨h2,e2⟩:=List.getElem?_eq_some_iff.mp b
 exact(List.getElem_inj hN).mp (e1.trans e2.symm)
theorem xp2{i:Nat}{Q:Unit->Shared->Prop}(I:Inv X pins σ H s)(hN:X.N.Nodup)(hi:X.N[i]?=some x)(hx:Loc X.env.scope x)(r:M4 v u)(h:∀ s',Inv X pins (σ.set i (some v)) H s'->(∃ a,Heap.SameBut a s.heap s'.heap/\(a=X.env.locals\/X.env.cells.lookup x=some a))->Q () s')(hf:autoParam (X.fn x=true\/X.env.scope.names.lookup x=some .local) zAf):wpAny M A (storeName X.env x u) Q E s:=by
 obtain⟨m,hn,hl⟩:=id I.loc
 have hcls:(X.env.scope.kind == .class || (X.env.scope.kind == .module && X.env.locals != X.env.globals))=false:=by rw[I.ok.kind];rfl
 have hiσ:i<σ.length:=by rw[I.len];exact(List.getElem?_eq_some_iff.mp hi).1
 have cne:=I.cne
 have tracked:∀ {a:Addr} {h':Heap},(∃ o,s.heap.get? a=some o/\H a=none)->Heap.SameBut a s.heap h'->HOk X.prog X.w H h':=fun{a h'} ha hs b ob e=>by
  obtain⟨_,_,hfree⟩:=ha
  refine(I.hok b ob e).stay (fun c w' hc q=>(hs.2 c ?_).trans q) (fun _ q=>q) fun _ _ q=>q
  rintro rfl
  rcases hc with rfl|hc
  ·rw[hfree] at e;cases e
  ·rw[hfree] at hc;cases hc
 rcases hx with hk|hk
 ·refine wpAny_storeName_local hk hn (fun h' hn' hs=>?_) hcls
  obtain⟨oL,_,_,hoL,_⟩:=id hn
  refine h _ ⟨I.ok,I.os,I.bare,⟨fun b o e n hb hx=>?_,fun b o e n hb hx=>?_,I.base.free,fun b o e hx=>?_,I.base.tups,I.base.frzs,I.base.tbls⟩,⟨_,hn',fun j y v' e1 e2 e3=>?_⟩,fun y c e=>?_,I.free,I.freeC,fun p hp=>?_,tracked ⟨oL,hoL,I.free⟩ hs,by simpa using I.len,by first|exact I.tk|exact Nat.succ_pos _⟩ ⟨_,hs,.inl rfl⟩
  ·exact(hs.2 b (Nat.ne_of_lt (Nat.lt_of_lt_of_le (Heap.lt_size e) I.ok.above))).trans (I.base.keep b o e n hb hx)
  ·obtain⟨sl,e1⟩:=I.base.slot b o e n hb hx
   exact⟨sl,(hs.2 b (Nat.ne_of_lt (Nat.lt_of_lt_of_le (Heap.lt_size e) I.ok.above))).trans e1⟩
  ·obtain⟨o',e1⟩:=I.base.there b o e hx
   exact⟨o',(hs.2 b (Nat.ne_of_lt (Nat.lt_of_lt_of_le (Heap.lt_size e) I.ok.above))).trans e1⟩
  ·by_cases hj:j=i
   ·subst hj
    rw[hi] at e1;cases e1
    rw[List.getElem?_set_self hiσ] at e2
    cases e2
    exact⟨u,r,.inl ⟨hk,by simp⟩⟩
   ·rw[List.getElem?_set_ne (Ne.symm hj)] at e2
    obtain⟨u',r',q⟩:=hl j y v' e1 e2 e3
    refine⟨u',r',?_⟩
    rcases q with⟨k,e⟩|⟨k,c,e,z⟩
    ·refine .inl ⟨k,?_⟩
     have:y≠x:=fun e=>hj (wv3 hN e1 (e▸hi))
     simp[this,e]
    ·exact .inr ⟨k,c,e,z.sameBut hs (cne y c e)⟩
  ·obtain⟨w',z⟩:=I.cell y c e
   exact⟨w',z.sameBut hs (cne y c e)⟩
  ·obtain⟨e,n,ne,nf,d⟩:=I.pin p hp
   exact⟨(hs.2 p.1 ne).trans e,n,ne,nf,d⟩
 ·have hfn:X.fn x=true:=by
   rcases hf with z|z
   ·exact z
   ·rw[z] at hk;cases hk
  obtain⟨c,hc⟩:=I.ok.has x (.inl hk)
  obtain⟨w',z⟩:=I.cell x c hc
  refine wpAny_storeName_cell I.ok.kind hk hc z (fun h' hc' hs=>?_)
  obtain⟨oc,hoc,hocd⟩:=id z
  refine h {s with heap:=h'} ⟨I.ok,I.os,I.bare,⟨fun b o e n hb hx=>?_,fun b o e n hb hx=>?_,I.base.free,fun b o e hx=>?_,I.base.tups,I.base.frzs,I.base.tbls⟩,⟨m,hn.sameBut hs (Ne.symm (cne x c hc)),fun j y v' e1 e2 e3=>?_⟩,fun y c' e=>?_,I.free,I.freeC,fun p hp=>?_,tracked ⟨oc,hoc,I.freeC x c hc⟩ hs,by simpa using I.len,by first|exact I.tk|exact Nat.succ_pos _⟩ ⟨c,hs,.inr hc⟩
  ·exact(hs.2 b (Nat.ne_of_lt (Nat.lt_of_lt_of_le (Heap.lt_size e) (I.ok.cab x c hfn hc)))).trans (I.base.keep b o e n hb hx)
  ·obtain⟨sl,e1⟩:=I.base.slot b o e n hb hx
   exact⟨sl,(hs.2 b (Nat.ne_of_lt (Nat.lt_of_lt_of_le (Heap.lt_size e) (I.ok.cab x c hfn hc)))).trans e1⟩
  ·obtain⟨o',e1⟩:=I.base.there b o e hx
   exact⟨o',(hs.2 b (Nat.ne_of_lt (Nat.lt_of_lt_of_le (Heap.lt_size e) (I.ok.cab x c hfn hc)))).trans e1⟩
  ·by_cases hj:j=i
   ·subst hj
    rw[hi] at e1;cases e1
    rw[List.getElem?_set_self hiσ] at e2
    cases e2
    exact⟨u,r,.inr ⟨.inl hk,c,hc,hc'⟩⟩
   ·rw[List.getElem?_set_ne (Ne.symm hj)] at e2
    obtain⟨u',r',q⟩:=hl j y v' e1 e2 e3
    refine⟨u',r',?_⟩
    rcases q with q|⟨k,c',e,z'⟩
    ·exact .inl q
    ·refine .inr ⟨k,c',e,z'.sameBut hs ?_⟩
     rintro rfl
     exact hj (wv3 hN e1 (I.ok.inj _ _ _ e hc▸hi))
  ·by_cases hcc:c'=c
   ·subst hcc;exact⟨_,hc'⟩
   ·obtain⟨w2,z2⟩:=I.cell y c' e
    exact⟨w2,z2.sameBut hs hcc⟩
  ·obtain⟨e,n,ne,nf,d⟩:=I.pin p hp
   refine⟨(hs.2 p.1 ?_).trans e,n,ne,nf,d⟩
   intro q
   rw[q,hoc] at e
   have q':oc=p.2:=Option.some.inj e
   exact d w' (by rw[<-q'];exact hocd)
theorem we8{i:Nat}{Q:Unit->Shared->Prop}(I:Inv X pins σ H s)(hN:X.N.Nodup)(hi:X.N[i]?=some x)(hx:Loc X.env.scope x)(r:M4 v u)(h:∀ s',Inv X pins (σ.set i (some v)) H s'->Q () s')(hf:autoParam (X.fn x=true\/X.env.scope.names.lookup x=some .local) zAf):wpAny M A (storeName X.env x u) Q E s :=
 xp2 I hN hi hx r (fun s' I' _=>h s' I') hf
end
abbrev XK:=Value->Option Addr->Hp->Prop
abbrev St:=List (Option V)
abbrev VK:=V->Hp->Prop
abbrev TE:=St->Hp->VK->Prop
abbrev TT:=St->Hp->(Bool->Hp->Prop)->Prop
abbrev TA:=St->Hp->(List V->Hp->Prop)->Prop
set_option genInjectivity false in
structure V0 where
 nx:St->Hp->Prop
 rt:VK
 bk:St->Hp->Prop:=fun _ _=>False
 ct:St->Hp->Prop:=fun _ _=>False
abbrev TS:=V0->St->Hp->Prop
def EP(X:Cx)(pins:List (Addr×Obj))(σ:St)(Q:VK)(u:Value)(s':Shared):Prop:=∃ v H',Inv X pins σ H' s'/\M4 v u/\Q v H'
def TP(X:Cx)(pins:List (Addr×Obj))(σ:St)(Q:Bool->Hp->Prop)(b:Bool)(s':Shared):Prop:=∃ H',Inv X pins σ H' s'/\Q b H'
def AP(X:Cx)(pins:List (Addr×Obj))(σ:St)(Q:List V->Hp->Prop)(us:List Value)(s':Shared):Prop:=∃ vs H',Inv X pins σ H' s'/\J9 vs us/\Q vs H'
def SP(X:Cx)(pins:List (Addr×Obj))(D:V0)(f:Flow)(s':Shared):Prop :=
 match f with
 | .next=>∃ σ' H',Inv X pins σ' H' s'/\D.nx σ' H'
 | .brk=>∃ σ' H',Inv X pins σ' H' s'/\D.bk σ' H'
 | .cont=>∃ σ' H',Inv X pins σ' H' s'/\D.ct σ' H'
 | .ret u=>∃ v σ' H',Inv X pins σ' H' s'/\M4 v u/\D.rt v H'
def PE(X:Cx)(e:Expr)(t:TE):Prop :=
 ∀ (pins:List (Addr×Obj)) (s:Shared) (σ:St) (H:Hp) (Q:VK),Inv X pins σ H s->t σ H Q->wpAny (model X.prog X.w) X.A (eval e X.env) (EP X pins σ Q) X.xe s
def PT(X:Cx)(e:Expr)(t:TT):Prop :=
 ∀ (pins:List (Addr×Obj)) (s:Shared) (σ:St) (H:Hp) (Q:Bool->Hp->Prop),Inv X pins σ H s->t σ H Q->wpAny (model X.prog X.w) X.A (isTrue e X.env (eval e X.env)) (TP X pins σ Q) X.xe s
def PW(X:Cx)(e:Expr)(t:TT):Prop :=
 ∀ (whole:Sem Value) (pins:List (Addr×Obj)) (s:Shared) (σ:St) (H:Hp) (Q:Bool->Hp->Prop),Inv X pins σ H s->t σ H Q->wpAny (model X.prog X.w) X.A (isTrue e X.env whole) (TP X pins σ Q) X.xe s
variable{e:Expr}
theorem PW.pt{t:TT}(h:PW X e t):PT X e t:=h _
def PA(X:Cx)(es:List Expr)(t:TA):Prop :=
 ∀ (pos:Pos) (pins:List (Addr×Obj)) (s:Shared) (σ:St) (H:Hp) (Q:List V->Hp->Prop),Inv X pins σ H s->t σ H Q->wpAny (model X.prog X.w) X.A (spliced (backTo pos (starEach es X.env))) (AP X pins σ Q) X.xe s
def PS(X:Cx)(st:Stmt)(t:TS):Prop :=
 ∀ (pins:List (Addr×Obj)) (s:Shared) (σ:St) (H:Hp) (D:V0),Inv X pins σ H s->t D σ H->wpAny (model X.prog X.w) X.A (exec st X.env) (SP X pins D) X.xe s
def PSs(X:Cx)(st:List Stmt)(t:TS):Prop :=
 ∀ (pins:List (Addr×Obj)) (s:Shared) (σ:St) (H:Hp) (D:V0),Inv X pins σ H s->t D σ H->wpAny (model X.prog X.w) X.A (execs st X.env) (SP X pins D) X.xe s
variable{α:Type}
theorem thn{t:Sem α}{Q Q':α->Shared->Prop}(h:wpAny M A t Q E s)(hQ:∀ a s,Q a s->Q' a s):wpAny M A t Q' E s:=wpAny_mono h hQ fun _ _ x=>x
variable{pos:Pos}{Q:Value->Shared->Prop}{σ:St}{ta:TE}{c:Expr}
section
def A4(i:Nat):TE:=fun σ H Q=>∃ v,σ[i]?=some (some v)/\Q v H
def tC(v:V):TE:=fun _ H Q=>Q v H
theorem zw3{i:Nat}(hN:X.N[i]?=some x)(hv:Vis X.env.scope x)(hd:autoParam ((x == ("__debug__":Str))=false) zAd)(hcd:autoParam ((x == ("__classdict__":Str))=false) zAd):PE X (.Name x pos) (A4 i):=by
 intro pins s σ H Q I h
 obtain⟨v,e,h⟩:=h
 obtain⟨m,hn,hl⟩:=I.loc
 obtain⟨u,r,l⟩:=hl i x v hN e hv
 have fin:EP X pins σ Q u s:=⟨v,H,I,r,h⟩
 rcases l with⟨hk,hm⟩|⟨hk,c,hc,hcell⟩
 ·exact wpAny_Name (wpAny_loadName_local I.ok.kind hk hn hm fin) hd
 ·rcases hk with hk|hk
  ·exact wpAny_Name (wpAny_loadName_cell I.ok.kind hk hc hcell fin) hd
  ·exact wpAny_Name (wpAny_loadName_free I.ok.kind hk hc hcell fin hcd) hd
theorem A8{i j pos}:PE X (.Constant (.int i) j pos) (tC (.int i)):=fun _ _ _ H _ I h=>wpAny_Constant_int ⟨.int i,H,I.tok _,⟨_,rfl⟩,h⟩
theorem wb2{b j pos}:PE X (.Constant (.bool b) j pos) (tC (.bl b)):=fun _ _ _ H _ I h=>Constant_bool ⟨.bl b,H,I,rfl,h⟩
theorem N9{j pos}:PE X (.Constant .none j pos) (tC .non):=fun _ _ _ H _ I h=>Constant_none ⟨.non,H,I,rfl,h⟩
theorem E3{x j pos}:PE X (.Constant (.str x) j pos) (tC (.str x)):=fun _ _ _ H _ I h=>Calls.Constant_str ⟨.str x,H,I.tok _,⟨_,rfl⟩,h⟩
def Gl(X:Cx)(x:Str):Prop:=X.env.kindOf x=some .globalImplicit
theorem qq4(I:Inv X pins σ H s)(hg:Gl X x)(hm:X.mg x=some u)(h:Q u s)(hd:autoParam ((x == ("__debug__":Str))=false) zAd):wpAny (model X.prog X.w) X.A (eval (.Name x pos) X.env) Q E s :=
 Calls.Name_function_global I.ok.kind hg (Calls.loadGlobal_global (by rw[I.ok.glob];exact I.mod.glob.keeps I.bk) hm h) hd
theorem qv3(I:Inv X pins σ H s)(hg:Gl X x)(hm:X.mg x=none)(hv:bootBuiltins x=some u)(h:Q u s)(hn:autoParam (x ≠ "__name__") zAd)(hd:autoParam ((x == ("__debug__":Str))=false) zAd):wpAny (model X.prog X.w) X.A (eval (.Name x pos) X.env) Q E s:=by
 obtain⟨mb,h1,h2⟩:=I.mod.blt
 exact Calls.Name_function_global I.ok.kind hg (Calls.loadGlobal_builtin (by rw[I.ok.glob];exact I.mod.glob.keeps I.bk) hm (by rw[I.ok.blt];exact h1.keeps I.bk) ((h2 x hn).trans hv) h) hd
theorem O9(hg:Gl X x)(hm:X.mg x=some u)(r:M4 v u)(hd:autoParam ((x == ("__debug__":Str))=false) zAd):PE X (.Name x pos) (tC v) :=
 fun _ _ _ H _ I h=>qq4 I hg hm ⟨v,H,I,r,h⟩ hd
theorem S8(hg:Gl X x)(hm:X.mg x=none)(hv:bootBuiltins x=some u)(r:M4 v u)(hn:autoParam (x ≠ "__name__") zAd)(hd:autoParam ((x == ("__debug__":Str))=false) zAd):PE X (.Name x pos) (tC v) :=
 fun _ _ _ H _ I h=>qv3 I hg hm hv ⟨v,H,I,r,h⟩ hn hd
variable{a b:Expr}{tb:TE}
def tB(t:TE):TT:=fun σ H Q=>t σ H fun x H1=>∃ c,x=.bl c/\Q c H1
theorem Q8{t:TE}(h:PE X e t)(he:autoParam (∀ whole,isTrue e X.env whole=(do let v<-whole;standAt e.pos;holding [v] (truthy v))) zAi):PT X e (tB t):=by
 intro pins s σ H Q I hw
 refine isTrue_plain (thn (h pins s σ H _ I hw) fun v s1 zq=>?_) (he _)
 obtain⟨x,H1,I1,r1,q1⟩:=zq
 obtain⟨d,rfl,q⟩:=q1
 cases r1
 exact wpAny_truthy_bool ⟨H1,I1,q⟩
variable{tA tB':TT}{rest:List Expr}
def wa6(t u:TT):TT:=fun σ H Q=>t σ H fun c H1=>if c=true then u σ H1 Q else Q false H1
def tOr(t u:TT):TT:=fun σ H Q=>t σ H fun c H1=>if c=true then Q true H1 else u σ H1 Q
def wj3(t:TT):TT:=fun σ H Q=>t σ H fun c H1=>Q (!c) H1
theorem T7(ha:PT X a tA):PW X (.BoolOp .And [a] pos) tA:=by
 intro wh pins s σ H Q I h
 refine isTrue_and (thn (ha pins s σ H Q I h) fun c s1 e=>?_)
 cases c with
 | true=>exact isTrue_and_nil e
 | false=>exact e
theorem wj4(ha:PT X a tA):PW X (.BoolOp .Or [a] pos) tA:=by
 intro wh pins s σ H Q I h
 refine isTrue_or (thn (ha pins s σ H Q I h) fun c s1 e=>?_)
 cases c with
 | false=>exact isTrue_or_nil e
 | true=>exact e
theorem Y7(ha:PT X a tA)(hb:PW X (.BoolOp .And (b::rest) pos) tB'):PW X (.BoolOp .And (a::b::rest) pos) (wa6 tA tB'):=by
 intro wh pins s σ H Q I h
 refine isTrue_and (thn (ha pins s σ H _ I h) fun c s1 zq=>?_)
 obtain⟨H1,I1,q1⟩:=zq
 cases c with
 | true=>exact hb wh pins s1 σ H1 Q I1 q1
 | false=>exact⟨H1,I1,q1⟩
theorem wp1(ha:PT X a tA)(hb:PW X (.BoolOp .Or (b::rest) pos) tB'):PW X (.BoolOp .Or (a::b::rest) pos) (tOr tA tB'):=by
 intro wh pins s σ H Q I h
 refine isTrue_or (thn (ha pins s σ H _ I h) fun c s1 zq=>?_)
 obtain⟨H1,I1,q1⟩:=zq
 cases c with
 | true=>exact⟨H1,I1,q1⟩
 | false=>exact hb wh pins s1 σ H1 Q I1 q1
theorem qd8(ha:PT X a tA):PT X (.UnaryOp .Not a pos) (wj3 tA):=by
 intro pins s σ H Q I h
 exact isTrue_not (ha pins s σ H (fun c H1=>Q (!c) H1) I h)
def xp3(ta tb:TE):TE:=fun σ H Q=>ta σ H fun x H1=>∃ c,x=.bl c/\if c=true then tb σ H1 Q else Q (.bl false) H1
theorem wv4{op}{t:TE}(h:PE X a t):PE X (.BoolOp op [a] pos) t:=fun pins s σ H Q I hw=>BoolOp_one (h pins s σ H Q I hw)
theorem wv5(ha:PE X a ta)(hb:PE X (.BoolOp .And (b::rest) pos) tb):PE X (.BoolOp .And (a::b::rest) pos) (xp3 ta tb):=by
 intro pins s σ H Q I h
 refine BoolOp_and (thn (ha pins s σ H _ I h) fun v s1 zq=>?_)
 obtain⟨x,H1,I1,r1,q1⟩:=zq
 obtain⟨c,rfl,q1⟩:=q1
 cases r1
 refine wpAny_truthy_bool ?_
 cases c with
 | true=>exact hb pins s1 σ H1 Q I1 q1
 | false=>exact⟨.bl false,H1,I1,rfl,q1⟩
def tIf(t:TT)(ta tb:TE):TE:=fun σ H Q=>t σ H fun c H1=>if c=true then ta σ H1 Q else tb σ H1 Q
theorem qo9(hc:PT X c tA)(ha:PE X a ta)(hb:PE X b tb):PE X (.IfExp c a b pos) (tIf tA ta tb):=by
 intro pins s σ H Q I h
 refine wpAny_IfExp (thn (hc pins s σ H _ I h) fun d s1 zq=>?_)
 obtain⟨H1,I1,q1⟩:=zq
 cases d with
 | true=>exact ha pins s1 σ H1 Q I1 q1
 | false=>exact hb pins s1 σ H1 Q I1 q1
end
def SqL(K:Fg)(H:Hp)(a:Addr)(xs:List V):Prop :=
 Rd H a (.lst xs) \/
  ∃ (o:Obj) (its:Array Value) (n:Nat),K.lookup a=some o/\o.cls=.type "list"/\o.dict=none/\o.data=.seq its n/\its.size<=sizeLine/\J9 xs its.toList
def SqT(K:Fg)(H:Hp)(a:Addr)(xs:List V):Prop :=
 Rd H a (.tup xs) \/
  ∃ (o:Obj) (its:Array Value) (n:Nat),K.lookup a=some o/\o.cls=.type "tuple"/\o.data=.seq its n/\its.size<=sizeLine/\J9 xs its.toList
def Al6:Value->Option V
 | .none=>some .non
 | .bool b=>some (.bl b)
 | .int i _=>some (.int i)
 | .str x _=>some (.str x)
 | .bytes b _=>some (.byt b)
 | .float b _=>some (.flt b)
 | .ref a=>some (.ref a)
 | .type n=>some (.ty n)
 | _=>none
theorem M4.abs{x:V}(r:M4 x u):Al6 u=some x:=by
 cases x with
 | non=>cases r;rfl
 | bl _=>cases r;rfl
 | int _=>obtain⟨t,rfl⟩:=r;rfl
 | str _=>obtain⟨t,rfl⟩:=r;rfl
 | byt _=>obtain⟨t,rfl⟩:=r;rfl
 | flt _=>obtain⟨t,rfl⟩:=r;rfl
 | ref _=>cases r;rfl
 | ty _=>cases r;rfl
variable{y:V}
theorem M4.inj{x:V}(r:M4 x u)(q:M4 y u):x=y:=Option.some.inj (r.abs.symm.trans q.abs)
variable{ys:List V}
theorem J9.inj(h:J9 xs us):J9 ys us->xs=ys:=by
 induction h generalizing ys with
 | nil=>intro k;cases k;rfl
 | cons r t ih=>intro k;cases k with|cons r' t'=>rw[r.inj r',ih t']
variable{K:Fg}
theorem SqL.of(h:H a=some (.lst xs)):SqL K H a xs:=.inl (.inl h)
theorem SqT.of(h:H a=some (.tup xs)):SqT K H a xs:=.inl (.inl h)
theorem Inv.list(I:Inv X pins σ H s)(h:SqL X.K H a xs):∃ its:List Value,J9 xs its/\PlainL s.heap a its.toArray/\xs.length<=sizeLine:=by
 rcases h with h|⟨o,its,n,hk,hc,hd,hs,hz,r⟩
 ·obtain⟨z,its,n,r,e⟩:=h.ok I.hok
  exact⟨its,r,⟨_,n,e,rfl,rfl,rfl⟩,z⟩
 ·refine⟨its.toList,r,⟨o,n,I.kIn a o hk,hc,hd,by simpa using hs⟩,?_⟩
  have e:=r.length
  simp only[Array.length_toList] at e
  omega
theorem Inv.tuple(I:Inv X pins σ H s)(h:SqT X.K H a xs):∃ its:List Value,J9 xs its/\IsTup s.heap a its.toArray/\xs.length<=sizeLine:=by
 rcases h with h|⟨o,its,n,hk,hc,hs,hz,r⟩
 ·obtain⟨z,its,r,p⟩:=h.ok I.hok
  exact⟨its,r,p,z⟩
 ·refine⟨its.toList,r,⟨o,I.kIn a o hk,hc,n,by simpa using hs⟩,?_⟩
  have e:=r.length
  simp only[Array.length_toList] at e
  omega
theorem Inv.list_inj(I:Inv X pins σ H s)(h:SqL X.K H a xs)(h':SqL X.K H a ys):xs=ys:=by
 obtain⟨its,r,⟨o,n,e,_,_,d⟩,_⟩:=I.list h
 obtain⟨its',r',⟨o',n',e',_,_,d'⟩,_⟩:=I.list h'
 rw[e] at e';cases e'
 rw[d] at d'
 injection d' with d1 _
 have:its=its':=by simpa using congrArg Array.toList d1
 subst this
 exact r.inj r'
theorem Inv.tuple_inj(I:Inv X pins σ H s)(h:SqT X.K H a xs)(h':SqT X.K H a ys):xs=ys:=by
 obtain⟨its,r,⟨o,e,_,n,d⟩,_⟩:=I.tuple h
 obtain⟨its',r',⟨o',e',_,n',d'⟩,_⟩:=I.tuple h'
 rw[e] at e';cases e'
 rw[d] at d'
 injection d' with d1 _
 have:its=its':=by simpa using congrArg Array.toList d1
 subst this
 exact r.inj r'
abbrev Cx.wish(X:Cx)(E:Value->Shared->Prop):Cx:={X with xe:=E}
abbrev Cx.nox(X:Cx):Cx:=X.wish fun _ _=>False
theorem Cx.Ok.wish(ok:X.Ok)(E:Value->Shared->Prop):(X.wish E).Ok :=
 ⟨ok.mod,ok.kind,ok.glob,ok.blt,ok.above,ok.inj,ok.has,ok.cab,ok.hd,ok.frames,ok.stk,ok.exf,ok.bs,ok.bsz,ok.noex,ok.exfs,ok.funs,ok.frf⟩
theorem Cx.Ok.unwish(ok:(X.wish E).Ok):X.Ok :=
 ⟨ok.mod,ok.kind,ok.glob,ok.blt,ok.above,ok.inj,ok.has,ok.cab,ok.hd,ok.frames,ok.stk,ok.exf,ok.bs,ok.bsz,ok.noex,ok.exfs,ok.funs,ok.frf⟩
theorem Inv.wish(I:Inv X pins σ H s)(E:Value->Shared->Prop):Inv (X.wish E) pins σ H s:=⟨I.ok.wish E,I.os,I.bare,I.base,I.loc,I.cell,I.free,I.freeC,I.pin,I.hok,I.len,I.tk⟩
theorem Inv.unwish(I:Inv (X.wish E) pins σ H s):Inv X pins σ H s:=⟨I.ok.unwish,I.os,I.bare,I.base,I.loc,I.cell,I.free,I.freeC,I.pin,I.hok,I.len,I.tk⟩
variable{D:V0}{s':Shared}
theorem SP.unwish{f:Flow}(h:SP (X.wish E) pins D f s'):SP X pins D f s':=by
 cases f with
 | next=>obtain⟨σ',H',I,q⟩:=h;exact⟨σ',H',I.unwish,q⟩
 | brk=>obtain⟨σ',H',I,q⟩:=h;exact⟨σ',H',I.unwish,q⟩
 | cont=>obtain⟨σ',H',I,q⟩:=h;exact⟨σ',H',I.unwish,q⟩
 | ret u=>obtain⟨v,σ',H',I,r,q⟩:=h;exact⟨v,σ',H',I.unwish,r,q⟩
theorem PSs.nox{st:List Stmt}{t:TS}(h:PSs X.nox st t):PSs X st t:=fun pins s σ H D I hw =>
 wpAny_mono (h pins s σ H D (I.wish _) hw) (fun _ _ q=>q.unwish) fun _ _ z=>False.elim z
variable{st:Stmt}{te:TE}
section
variable{rest:List Stmt}{t u:TS}
def E8:TS:=fun D σ H=>D.nx σ H
def C1(t u:TS):TS:=fun D σ H=>t {D with nx:=u D} σ H
theorem B8:PSs X [] E8:=fun _ _ σ H _ I h=>wpAny_execs_nil ⟨σ,H,I,h⟩
theorem A5(h1:PS X st t)(h2:PSs X rest u):PSs X (st::rest) (C1 t u):=by
 intro pins s σ H D I h
 refine wpAny_execs_cons (thn (h1 pins s σ H {D with nx:=u D} I h) fun f s1 q=>?_)
 cases f with
 | next =>
   obtain⟨σ',H',I',q⟩:=q
   exact h2 pins s1 σ' H' D I' q
 | ret v=>exact q
 | brk=>exact q
 | cont=>exact q
theorem A9(h1:PS X st t):PSs X [st] t:=by
 intro pins s σ H D I h
 refine wpAny_execs_cons (thn (h1 pins s σ H D I h) fun f s1 q=>?_)
 cases f with
 | next=>exact wpAny_execs_nil q
 | ret v=>exact q
 | brk=>exact q
 | cont=>exact q
theorem Inv.quiet(I:Inv X pins σ H s):interactive X.env=false:=by simp[interactive,I.ok.kind]
def qh6(te:TE):TS:=fun D σ H=>te σ H fun _ H1=>D.nx σ H1
theorem S0(he:PE X e te)(hs:autoParam (swapsWith e none pos.line X.env=pure false) zAr):PS X (.Expr e pos) (qh6 te):=by
 intro pins s σ H D I h
 exact wpAny_Expr_any (thn (he pins s σ H _ I h) fun v s1 ⟨x,H1,I1,r1,q1⟩=>⟨σ,H1,I1,q1⟩) I.quiet hs
def G9(te:TE):TS:=fun D σ H=>te σ H D.rt
theorem B6(he:PE X e te):PS X (.Return (some e) pos) (G9 te):=by
 intro pins s σ H D I h
 exact wpAny_Return_some (thn (he pins s σ H _ I h) fun v s1 ⟨x,H1,I1,r1,q1⟩=>⟨x,σ,H1,I1,r1,q1⟩)
def M3(c:TT)(t u:TS):TS:=fun D σ H=>c σ H fun b H1=>if b=true then t D σ H1 else u D σ H1
theorem E5{a b:List Stmt}{tc:TT}(hc:PT X c tc)(ha:PSs X a t)(hb:PSs X b u):PS X (.If c a b pos) (M3 tc t u):=by
 intro pins s σ H D I h
 refine wpAny_If (thn (hc pins s σ H _ I h) fun d s1 zq=>?_)
 obtain⟨H1,I1,q1⟩:=zq
 cases d with
 | true=>exact ha pins s1 σ H1 D I1 q1
 | false=>exact hb pins s1 σ H1 D I1 q1
def yz5:TS:=fun _ _ _=>False
theorem yz6:PS X st yz5:=fun _ _ _ _ _ _ h=>h.elim
end
abbrev TG:=V->St->Hp->(St->Hp->Prop)->Prop
abbrev TGs:=List V->St->Hp->(St->Hp->Prop)->Prop
def PG(X:Cx)(target:Expr)(t:TG):Prop :=
 ∀ (pins:List (Addr×Obj)) (s:Shared) (σ:St) (H:Hp) (v:V) (u:Value) (Q:St->Hp->Prop),Inv X pins σ H s->M4 v u->t v σ H Q ->
  wpAny (model X.prog X.w) X.A (assign target X.env u) (fun _ s'=>∃ σ' H',Inv X pins σ' H' s'/\Q σ' H') X.xe s
def PGs(X:Cx)(ts:List Expr)(t:TGs):Prop :=
 ∀ (pins:List (Addr×Obj)) (s:Shared) (σ:St) (H:Hp) (vs:List V) (us:List Value) (Q:St->Hp->Prop),Inv X pins σ H s->J9 vs us->t vs σ H Q ->
  wpAny (model X.prog X.w) X.A (assignInOrder ((assignEach ts X.env).map (·.2)) us) (fun _ s'=>∃ σ' H',Inv X pins σ' H' s'/\Q σ' H') X.xe s
abbrev yz7:=V->V->V->Hp->(Hp->Prop)->Prop
def zw4(X:Cx)(t:yz7):Prop :=
 ∀ (pins:List (Addr×Obj)) (s:Shared) (σ:St) (H:Hp) (o i v:V) (ov iv u:Value) (Q:Hp->Prop),Inv X pins σ H s->M4 o ov->M4 i iv->M4 v u->t o i v H Q ->
  wpAny (model X.prog X.w) X.A (setItem ov iv u) (fun _ s'=>∃ H',Inv X pins σ H' s'/\Q H') X.xe s
def B3(i:Nat):TG:=fun v σ H Q=>Q (σ.set i (some v)) H
theorem C8{i:Nat}(hN:X.N.Nodup)(hi:X.N[i]?=some x)(hx:Loc X.env.scope x)(hf:autoParam (X.fn x=true\/X.env.scope.names.lookup x=some .local) zAf):PG X (.Name x pos) (B3 i):=by
 intro pins s σ H v u Q I r h
 exact wpAny_assign_Name (we8 I hN hi hx r (fun s' I'=>⟨_,H,I',h⟩) hf)
def wj5:TGs:=fun vs σ H Q=>vs=[]/\Q σ H
def R7(t:TG)(u:TGs):TGs:=fun vs σ H Q=>∃ v r,vs=v::r/\t v σ H fun σ' H'=>u r σ' H' Q
theorem qb3:PGs X [] wj5:=by
 intro pins s σ H vs us Q I r h
 obtain⟨e,h⟩:=h
 subst e
 cases r
 exact assignInOrder_nil ⟨σ,H,I,h⟩
variable{es:List Expr}
theorem L8{t:TG}{u:TGs}(h1:PG X e t)(h2:PGs X es u)(hs:autoParam ((assignEach (e::es) X.env).map (·.2)=assign e X.env::(assignEach es X.env).map (·.2)) zAr):PGs X (e::es) (R7 t u):=by
 intro pins s σ H vs us Q I r h
 obtain⟨v,vr,e1,h⟩:=h
 subst e1
 cases r with
 | cons r rr =>
   rw[hs]
   refine assignInOrder_cons (thn (h1 pins s σ H _ _ _ I r h) fun _ s1 zq=>?_)
   obtain⟨σ1,H1,I1,q1⟩:=zq
   exact h2 pins s1 σ1 H1 _ _ Q I1 rr q1
def wj6(K:Fg)(n:Nat)(t:TGs):TG:=fun v σ H Q=>∃ a xs,v=.ref a/\SqT K H a xs/\xs.length=n/\t xs σ H Q
variable{n:Nat}
theorem qk0{k:Nat}{t:TGs}(hc:X.calm=true)(h:PGs X es t)(hn:autoParam ((assignEach es X.env).length=n) zAr)(hst:autoParam ((assignEach es X.env).findIdx? (·.1)=none) zAr):PG X (.Tuple es k pos) (wj6 X.K n t):=by
 intro pins s σ H v u Q I r hw
 obtain⟨a,xs,e1,hq,hl,hw⟩:=hw
 subst e1
 cases r
 obtain⟨its,rv,ht,hz⟩:=I.tuple hq
 refine assign_Tuple_tuple (I.ok.hd hc) ht (by simp[hn,<-hl,rv.length]) hst fun h' hx=>?_
 have I1:Inv X pins σ H {s with heap:=h'}:=I.kept (t':=s.toks) fun b o e=>hx b o (Nat.ne_of_lt (Heap.lt_size e)) e
 exact h pins _ σ H xs _ Q I1 (by simpa using rv) hw
def yu1(to ti:TE)(t:yz7):TG:=fun v σ H Q=>to σ H fun o H1=>ti σ H1 fun i H2=>t o i v H2 fun H3=>Q σ H3
variable{o:Expr}{ti to:TE}
theorem xs5{i:Expr}{t:yz7}(ho:PE X o to)(hi:PE X i ti)(hs:zw4 X t) (ha:∀ v,assign (.Subscript o i pos) X.env v=(do
  let ov<-holding [v] (eval o X.env)
  let iv<-holding [v,ov] (eval i X.env)
  standAt pos
  holding [v,ov,iv] (setItem ov iv v)
  release [v,ov,iv] []):=by intro _;rfl):PG X (.Subscript o i pos) (yu1 to ti t):=by
 intro pins s σ H v u Q I r h
 rw[ha]
 refine wpAny_bind (wpAny_holding (thn (ho pins s σ H _ I h) fun ov s1 zq=>?_))
 obtain⟨x,H1,I1,r1,q1⟩:=zq
 refine wpAny_bind (wpAny_holding (thn (hi pins s1 σ H1 _ I1 q1) fun iv s2 zq=>?_))
 obtain⟨y,H2,I2,r2,q2⟩:=zq
 refine wpAny_bind (wpAny_standAt (wpAny_bind (wpAny_holding (thn (hs pins s2 σ H2 x y v ov iv u _ I2 r1 r2 r q2) fun _ s3 zq=>?_))))
 obtain⟨H3,I3,q3⟩:=zq
 exact wpAny_release ⟨σ,H3,I3,q3⟩
def E4(te:TE)(g:TG):TS:=fun D σ H=>te σ H fun x H1=>g x σ H1 D.nx
variable{g:TG}{tg:Expr}
theorem qk1(he:PE X e te)(hg:PG X tg g)(hs:autoParam (swapsWithSole [tg] e pos.line X.env=pure false) zAr)(hw:autoParam (swappedStores [tg] e X.env=pure none) zAr)(h1:autoParam ((assignEach [tg] X.env).map (·.2)=[assign tg X.env]) zAr):PS X (.Assign [tg] e pos) (E4 te g):=by
 intro pins s σ H D I h
 refine wpAny_Assign_stores (thn (he pins s σ H _ I h) fun v s1 zq=>?_) hs hw
 obtain⟨x,H1,I1,r1,q1⟩:=zq
 rw[h1]
 exact thn (hg pins s1 σ H1 x v _ I1 r1 q1) fun _ s2 q=>q
variable{pos':Pos}
theorem O0{i:Nat}(hN:X.N.Nodup)(hi:X.N[i]?=some x)(hx:Loc X.env.scope x)(he:PE X e te)(hs:autoParam (swapsWith e (some (.Name x pos')) pos.line X.env=pure false) zAr)(hf:autoParam (X.fn x=true\/X.env.scope.names.lookup x=some .local) zAf) :
 PS X (.Assign [.Name x pos'] e pos) (E4 te (B3 i)):=by
 intro pins s σ H D I h
 refine wpAny_Assign_Name (thn (he pins s σ H _ I h) fun v s1 zq=>?_) hs
 obtain⟨y,H1,I1,r1,q1⟩:=zq
 exact we8 I1 hN hi hx r1 (fun s2 I2=>⟨_,H1,I2,q1⟩) hf
def wv6(c:TT)(tb:TS):TS:=fun D σ H=>∃ W:Nat->St->Hp->Prop,(∃ m,W m σ H)/\∀ m σ H,W m σ H ->
 c σ H fun b H1=>if b=true then ∃ N:St->Hp->Prop,(∀ σ' H',N σ' H'->∃ m',m'<m/\W m' σ' H')/\tb {D with nx:=N,ct:=N,bk:=D.nx} σ H1 else D.nx σ H1
variable{body:List Stmt}{tb:TS}
theorem wv7{tc:TT}(hp:PassesOwn (model X.prog X.w) X.A X.env X.xe)(hc:PT X c tc)(hb:PSs X body tb):PS X (.While c body [] pos) (wv6 tc tb):=by
 intro pins s σ H D I h
 obtain⟨W,⟨m0,w0⟩,turn⟩:=h
 refine wpAny_While (codeAny_whileLoop (fun n s'=>∃ σ' H',Inv X pins σ' H' s'/\W n σ' H') ?_ m0 ⟨σ,H,I,w0⟩)
 rintro n s1 ⟨σ1,H1,I1,w1⟩
 refine wpAny_passesOwn hp (thn (hc pins s1 σ1 H1 _ I1 (turn n σ1 H1 w1)) fun b s2 zq=>?_)
 obtain⟨H2,I2,q2⟩:=zq
 cases b with
 | true =>
   obtain⟨N,hN,q2⟩:=q2
   rw[if_pos rfl]
   refine wpAny_passesOwn hp (thn (hb pins s2 σ1 H2 _ I2 q2) fun f s3 q3=>?_)
   cases f with
   | next =>
     obtain⟨σ3,H3,I3,n3⟩:=q3
     obtain⟨m',hm,w3⟩:=hN σ3 H3 n3
     exact⟨m',hm,σ3,H3,I3,w3⟩
   | cont =>
     obtain⟨σ3,H3,I3,n3⟩:=q3
     obtain⟨m',hm,w3⟩:=hN σ3 H3 n3
     exact⟨m',hm,σ3,H3,I3,w3⟩
   | brk=>exact q3
   | ret v=>exact q3
 | false =>
   rw[if_neg Bool.false_ne_true]
   exact wpAny_execs_nil ⟨σ1,H2,I2,q2⟩
set_option genInjectivity false in
structure It where
 go:Nat->Hp->Prop
 yld:Nat->Hp->V->Hp->Prop
 stop:Nat->Hp->Prop
def xh5(X:Cx)(pins:List (Addr×Obj))(H:Hp)(b:Addr):Prop :=
 H b=none/\b≠X.env.locals/\b∉X.fs/\(b∈X.ex\/X.s₀.heap.objs.size<=b)/\(∀ x c,X.env.cells.lookup x=some c->c≠b)/\∀ p∈X.pn++pins,p.1≠b
theorem Inv.fpOk(I:Inv X pins σ H s)(hb:s.heap.objs.size<=b)(hn:H' b=none):xh5 X pins H' b:=by
 refine⟨hn,Nat.ne_of_gt (Nat.lt_of_lt_of_le I.lt hb),I.nofs hb,.inr (Nat.le_trans I.sz hb),fun x c e z=>?_,fun p hp z=>?_⟩
 ·obtain⟨v,q⟩:=I.cell x c e
  exact absurd (Nat.lt_of_lt_of_le q.lt (by rw[z];exact hb)) (Nat.lt_irrefl _)
 ·exact absurd (Nat.lt_of_lt_of_le (Heap.lt_size (I.pin p hp).1) (by rw[z];exact hb)) (Nat.lt_irrefl _)
structure xz9(P:Program)(w:World)(K:Fg)(tg:Expr)(J:It)(fp:List Addr)(it:Addr)(tn:Nat->Heap->Prop):Prop where
 mem:it∈fp
 obj:∀ i h,tn i h->∀ b∈fp,∃ o,h.get? b=some o/\∀ v,o.data≠.cell v
 keep:∀ i h h',tn i h->(∀ b∈fp,∀ o,h.get? b=some o->h'.get? b=some o)->tn i h'
 item:∀ (X:Cx),X.prog=P->X.w=w->X.K=K->X.calm=true->∀ (i:Nat) (pins:List (Addr×Obj)) (s:Shared) (σ:St) (H:Hp) (E:Value->Shared->Prop),Inv X pins σ H s->(∀ b∈fp,xh5 X pins H b)->tn i s.heap->J.go i H ->
  wpAny (model P w) X.A (pyNext (.ref it)) (fun r s1=>∃ u,r=some u /\
   wpAny (model P w) X.A (letOwnedTupleGo tg (.ref it) u) (fun _ s2=>∃ x H',Inv X pins σ H' s2/\M4 x u/\J.yld i H x H'/\tn (i+1) s2.heap/\∀ b∈fp,H' b=none) E s1) E s
 done:∀ (X:Cx),X.prog=P->X.w=w->X.K=K->X.calm=true->∀ (i:Nat) (pins:List (Addr×Obj)) (s:Shared) (σ:St) (H:Hp) (E:Value->Shared->Prop),Inv X pins σ H s->(∀ b∈fp,xh5 X pins H b)->tn i s.heap->J.stop i H ->
  wpAny (model P w) X.A (pyNext (.ref it)) (fun r s1=>r=none/\Inv X pins σ H s1) E s
 self:∀ (A:Around) (i:Nat) (s:Shared) (Q:Value->Shared->Prop) (E:Value->Shared->Prop),tn i s.heap->Q (.ref it) s->wpAny (model P w) A (pyIter (.ref it)) Q E s
abbrev TI:=St->Hp->(It->Hp->Prop)->Prop
def PIE(X:Cx)(pins:List (Addr×Obj))(σ:St)(tg:Expr)(R:It->Hp->Prop)(itv:Value)(s2:Shared):Prop :=
 ∃ (it:Addr) (fp:List Addr) (tn:Nat->Heap->Prop) (J:It) (H':Hp),itv=.ref it/\Inv X pins σ H' s2/\xz9 X.prog X.w X.K tg J fp it tn/\tn 0 s2.heap/\(∀ b∈fp,xh5 X pins H' b)/\R J H'
def PI(X:Cx)(tg iter:Expr)(wi:TI):Prop :=
 ∀ (pins:List (Addr×Obj)) (s:Shared) (σ:St) (H:Hp) (R:It->Hp->Prop),Inv X pins σ H s->wi σ H R ->
  wpAny (model X.prog X.w) X.A (eval iter X.env) (fun v s1=>wpAny (model X.prog X.w) X.A (pyIter v) (PIE X pins σ tg R) X.xe s1) X.xe s
theorem ya0{o:Obj}{n:String}{vs:Array Value}{Q:Unit->Shared->Prop}(ho:s.heap.get? it=some o)(hc:o.cls=.type n)(hd:o.data=.fields vs)(hn:["enumerate","zip","dict_itemiterator","dict_reverseitemiterator","odict_iterator","itertools.zip_longest","itertools.pairwise"].contains n=false)(hQ:Q () s):wpAny M A (letOwnedTupleGo tg (.ref it) u) Q E s:=by
 unfold letOwnedTupleGo
 cases tg <;> first
  | exact wpAny_pure hQ
  | (cases u <;> first
   | exact wpAny_pure hQ
   | (refine wpAny_bind (wpAny_load ho ?_)
      rw[hc,hd]
      show wpAny M A (if(["enumerate","zip","dict_itemiterator","dict_reverseitemiterator","odict_iterator","itertools.zip_longest","itertools.pairwise"].contains n && vs[0]? == some (rawInt _))=true then _ else _) Q E s
      rw[if_neg (by intro h;rw[hn,Bool.false_and] at h;cases h)]
      exact wpAny_pure hQ))
def Itl(K:Fg)(a:Addr):It :=
 ⟨fun i H=>∃ xs x,SqL K H a xs/\xs[i]?=some x,fun i H x H'=>H'=H/\∀ xs,SqL K H a xs->xs[i]?=some x,fun i H=>∃ xs,SqL K H a xs/\xs.length<=i⟩
def Itt(K:Fg)(a:Addr):It :=
 ⟨fun i H=>∃ xs x,SqT K H a xs/\xs[i]?=some x,fun i H x H'=>H'=H/\∀ xs,SqT K H a xs->xs[i]?=some x,fun i H=>∃ xs,SqT K H a xs/\xs.length<=i⟩
def Itr(lo:Int)(n:Nat):It:=⟨fun i _=>i<n,fun i H x H'=>H'=H/\x=.int (lo+i),fun i _=>n<=i⟩
theorem yu2(a it:Addr):xz9 P w K tg (Itl K a) [it] it (fun i h=>h.IsListIter it a i) where
 mem:=by simp
 obj:=fun i h st b hb=>by
  have e:b=it:=by simpa using hb
  subst e
  obtain⟨o,e,c,d⟩:=st
  exact⟨o,e,fun v z=>by rw[d] at z;cases z⟩
 keep:=fun i h h' st k=>st.at fun o e=>k it (by simp) o e
 item:=by
  intro X hP hw hK hc i pins s σ H E I hf st hg
  subst hP hw hK
  obtain⟨xs,x,hq,hx⟩:=hg
  obtain⟨its,rv,p,hz⟩:=I.list hq
  obtain⟨u,hu,ru⟩:=rv.get hx
  obtain⟨f0,f1,f2,f3,f4,f5⟩:=hf it (by simp)
  refine wpAny_pyNext_list_item st p.isList (x:=u) (by simpa using hu) fun h' st' sb=>?_
  have I1:Inv X pins σ H {s with heap:=h'}:=I.turned (t':=s.toks) (fun b o hb e=>(sb.2 b hb).trans e) f0 f1 f3 f4 f5
  obtain⟨o,e,c,d⟩:=id st'
  exact⟨u,rfl,ya0 (s:={s with heap:=h'}) e c d (by decide) ⟨x,H,I1,ru,⟨rfl,fun ys hy=>by rw[I.list_inj hy hq];exact hx⟩,st',fun b hb=>(hf b hb).1⟩⟩
 done:=by
  intro X hP hw hK hc i pins s σ H E I hf st hg
  subst hP hw hK
  obtain⟨xs,hq,hx⟩:=hg
  obtain⟨its,rv,p,hz⟩:=I.list hq
  obtain⟨f0,f1,f2,f3,f4,f5⟩:=hf it (by simp)
  have hl:=rv.length
  exact wpAny_pyNext_list_end (I.ok.hd hc) st p.isList (by simp;omega) fun h' eb=>⟨rfl,I.turned (t':=s.toks) (fun b o hb e=>eb b o hb e) f0 f1 f3 f4 f5⟩
 self:=fun _ _ _ _ _ st h=>wpAny_pyIter_listiter st h
theorem yh6(a it:Addr):xz9 P w K tg (Itt K a) [it] it (fun i h=>h.IsTupleIter it a i) where
 mem:=by simp
 obj:=fun i h st b hb=>by
  have e:b=it:=by simpa using hb
  subst e
  obtain⟨o,e,c,d⟩:=st
  exact⟨o,e,fun v z=>by rw[d] at z;cases z⟩
 keep:=fun i h h' st k=>st.at fun o e=>k it (by simp) o e
 item:=by
  intro X hP hw hK hc i pins s σ H E I hf st hg
  subst hP hw hK
  obtain⟨xs,x,hq,hx⟩:=hg
  obtain⟨its,rv,p,hz⟩:=I.tuple hq
  obtain⟨u,hu,ru⟩:=rv.get hx
  obtain⟨f0,f1,f2,f3,f4,f5⟩:=hf it (by simp)
  refine wpAny_pyNext_tuple_item st (show s.heap.IsTuple a its.toArray from p) (x:=u) (by simpa using hu) fun h' st' sb=>?_
  have I1:Inv X pins σ H {s with heap:=h'}:=I.turned (t':=s.toks) (fun b o hb e=>(sb.2 b hb).trans e) f0 f1 f3 f4 f5
  obtain⟨o,e,c,d⟩:=id st'
  exact⟨u,rfl,ya0 (s:={s with heap:=h'}) e c d (by decide) ⟨x,H,I1,ru,⟨rfl,fun ys hy=>by rw[I.tuple_inj hy hq];exact hx⟩,st',fun b hb=>(hf b hb).1⟩⟩
 done:=by
  intro X hP hw hK hc i pins s σ H E I hf st hg
  subst hP hw hK
  obtain⟨xs,hq,hx⟩:=hg
  obtain⟨its,rv,p,hz⟩:=I.tuple hq
  obtain⟨f0,f1,f2,f3,f4,f5⟩:=hf it (by simp)
  have hl:=rv.length
  exact wpAny_pyNext_tuple_end (I.ok.hd hc) st (show s.heap.IsTuple a its.toArray from p) (by simp;omega) fun h' eb=>⟨rfl,I.turned (t':=s.toks) (fun b o hb e=>eb b o hb e) f0 f1 f3 f4 f5⟩
 self:=fun _ _ _ _ _ st h=>wpAny_pyIter_tupleiter st h
theorem yh7(it:Addr)(lo:Int)(n:Nat):xz9 P w K tg (Itr lo n) [it] it (fun i h=>IsRangeIter h it (lo+(i:Nat)*1) ((n:Int)-(i:Nat)) 1) where
 mem:=by simp
 obj:=fun i h st b hb=>by
  have e:b=it:=by simpa using hb
  subst e
  exact⟨_,st,fun v z=>by
   have z':Data.fields _=Data.cell v:=z
   cases z'⟩
 keep:=fun i h h' st k=>k it (by simp) _ st
 item:=by
  intro X hP hw hK hc i pins s σ H E I hf st hg
  subst hP hw hK
  obtain⟨f0,f1,f2,f3,f4,f5⟩:=hf it (by simp)
  have W:=Walks.range (prog:=X.prog) (w:=X.w) (I.ok.hd hc) it lo 1 n
  refine wpAny_with_toks (n:=1) I.tk (W.item i s _ _ hg st fun v h' tk hv st' kk ht=>?_)
  have ht:0<tk:=ht
  obtain⟨t,rfl⟩:=hv
  have I1:Inv X pins σ H {s with heap:=h',toks:=tk}:=I.turned (fun b o hb e=>kk b o (by simpa using hb) e) f0 f1 f3 f4 f5
  refine⟨_,rfl,ya0 (s:={s with heap:=h',toks:=tk}) (n := "range_iterator") st' rfl rfl (by decide) ⟨.int (lo+i),H,I1,⟨t,?_⟩,⟨rfl,rfl⟩,st',fun b hb=>(hf b hb).1⟩⟩
  rw[Int.mul_one]
 done:=by
  intro X hP hw hK hc i pins s σ H E I hf st hg
  subst hP hw hK
  obtain⟨f0,f1,f2,f3,f4,f5⟩:=hf it (by simp)
  exact wpAny_pyNext_range_end (I.ok.hd hc) st (by have:n<=i:=hg;omega) fun h' eb=>⟨rfl,I.turned (t':=s.toks) (fun b o hb e=>eb b o hb e) f0 f1 f3 f4 f5⟩
 self:=fun _ _ _ _ _ st h=>wpAny_pyIter_rangeiter st h
variable{R:It->Hp->Prop}
theorem ya1{lo hi:Int}{t u v:Tok}{tk:Nat}(I:Inv X pins σ H s)(h1:-(2 ^ 62)<=lo)(h2:lo<2 ^ 62)(h3:-(2 ^ 62)<=hi)(h4:hi<2 ^ 62)(q:R (Itr lo (hi-lo).toNat) H)(ht:autoParam (0<tk) zAt):wpAny (model X.prog X.w) X.A (pyIter (.ref s.heap.objs.size)) (PIE X pins σ tg R) E {s with heap:=s.heap.push {cls:=.type "range",data:=.fields #[.int lo t,.int hi u,.int 1 v]},toks:=tk}:=by
 refine wpAny_pyIter_range (IsRange.new ..) (small_one h1 h2 h3 h4) ?_
 have I1:Inv X pins σ H {s with heap:=s.heap.push {cls:=.type "range",data:=.fields #[.int lo t,.int hi u,.int 1 v]},toks:=tk}:=I.kept fun b o e=>Heap.get?_push_of_some _ e
 refine⟨(s.heap.push {cls:=.type "range",data:=.fields #[.int lo t,.int hi u,.int 1 v]}).objs.size,[(s.heap.push {cls:=.type "range",data:=.fields #[.int lo t,.int hi u,.int 1 v]}).objs.size],_,_,H,rfl,
  I1.kept (t':=tk) fun b o e=>Heap.get?_push_of_some _ e,yh7 _ lo (hi-lo).toNat,?_,fun b hb=>?_,q⟩
 ·have e1:lo+((0:Nat):Int)*1=lo:=by simp
  have e2:(((hi-lo).toNat:Nat):Int)-((0:Nat):Int)=Builtin.Range.rangeSize lo hi 1:=by rw[rangeSize_one];split <;> omega
  show IsRangeIter _ _ (lo+((0:Nat):Int)*1) ((((hi-lo).toNat:Nat):Int)-((0:Nat):Int)) 1
  rw[e1,e2]
  exact Heap.get?_push_size _ rfl
 ·have e:b=(s.heap.push {cls:=.type "range",data:=.fields #[.int lo t,.int hi u,.int 1 v]}).objs.size:=by simpa using hb
  subst e
  exact I1.fpOk (Nat.le_refl _) (I1.hok.fresh (Nat.le_refl _))
def qh7(ta:TA):TI:=fun σ H R=>ta σ H fun vs H1=>∃ j:Int,vs=[.int j]/\-(2 ^ 62)<=j/\j<2 ^ 62/\R (Itr 0 j.toNat) H1
def yz8(ta:TA):TI:=fun σ H R=>ta σ H fun vs H1=>∃ i j:Int,vs=[.int i,.int j]/\(-(2 ^ 62)<=i/\i<2 ^ 62/\-(2 ^ 62)<=j/\j<2 ^ 62)/\R (Itr i (j-i).toNat) H1
theorem O6{a:Expr}{ta:TA}{p:Pos}(hg:Gl X "range")(hm:X.mg "range"=none)(ha:PA X [a] ta)(hs:autoParam (starEach [a] X.env=[(false,eval a X.env)]) zAr):PI X tg (.Call (.Name "range" p) [a] [] pos) (qh7 ta):=by
 intro pins s σ H R I h
 refine Call_ (qv3 I hg hm boot_range (PyProof.Rows.callWith_type1 (thn (ha pos pins s σ H _ I h) fun us s1 zq=>?_) hs rfl))
 obtain⟨vs,H1,I1,r1,q1⟩:=zq
 obtain⟨j,e,q1,q2,q⟩:=q1
 subst e
 cases r1 with
 | cons r rr =>
   cases rr
   obtain⟨t,rfl⟩:=r
   exact call_range_1 (ya1 I1 (by omega) (by omega) q1 q2 (by simpa using q))
theorem yu3{a b:Expr}{ta:TA}{p:Pos}(hg:Gl X "range")(hm:X.mg "range"=none)(ha:PA X [a,b] ta)(hs:autoParam (starEach [a,b] X.env=[(false,eval a X.env),(false,eval b X.env)]) zAr)(hs2:autoParam (starEach [b] X.env=[(false,eval b X.env)]) zAr) :
 PI X tg (.Call (.Name "range" p) [a,b] [] pos) (yz8 ta):=by
 intro pins s σ H R I h
 refine Call_ (qv3 I hg hm boot_range (PyProof.Rows.callWith_type1 (thn (ha pos pins s σ H _ I h) fun us s1 zq=>?_) (by rw[hs,hs2]) (by rw[hs2];rfl)))
 obtain⟨vs,H1,I1,r1,q1⟩:=zq
 obtain⟨i,j,e,⟨q1,q2,q3,q4⟩,q⟩:=q1
 subst e
 cases r1 with
 | cons r rr =>
   cases rr with
   | cons r' rr =>
     cases rr
     obtain⟨t,rfl⟩:=r
     obtain⟨t',rfl⟩:=r'
     exact call_range_2 (ya1 I1 q1 q2 q3 q4 q)
def qh9(wi:TI)(g:TG)(tb:TS):TS:=fun D σ H=>wi σ H fun J H1=>∃ W:Nat->Nat->St->Hp->Prop,(∃ m,W 0 m σ H1)/\∀ i m σ H,W i m σ H ->
 (J.stop i H/\D.nx σ H)\/(J.go i H/\∃ N:St->Hp->Prop,(∀ σ' H',N σ' H'->∃ m',m'<m/\W (i+1) m' σ' H')/\∀ x H',J.yld i H x H'->g x σ H' fun σ2 H2=>tb {D with nx:=N,ct:=N,bk:=D.nx} σ2 H2)
def wv8(fp:List Addr)(h:Heap):List (Addr×Obj):=fp.filterMap fun b=>(h.get? b).map fun o=>(b,o)
variable{fp:List Addr}
theorem qq5{o:Obj}(hb:b∈fp)(e:h.get? b=some o):(b,o)∈wv8 fp h:=List.mem_filterMap.mpr ⟨b,hb,by rw[e];rfl⟩
theorem yu4{p:Addr×Obj}(hp:p∈wv8 fp h):p.1∈fp/\h.get? p.1=some p.2:=by
 obtain⟨b,hb,e⟩:=List.mem_filterMap.mp hp
 cases q:h.get? b with
 | none=>rw[q] at e;cases e
 | some o =>
   rw[q] at e
   have e':(b,o)=p:=Option.some.inj e
   subst e'
   exact⟨hb,q⟩
theorem Inv.pinned(I:Inv X pins σ H s)(hf:∀ b∈fp,xh5 X pins H b)(ho:∀ b∈fp,∃ o,s.heap.get? b=some o/\∀ v,o.data≠.cell v):Inv X (pins++wv8 fp s.heap) σ H s :=
 I.pins_of fun p hp=>(List.mem_append.mp hp).elim (fun z=>I.pin p (List.mem_append_right _ z)) fun z=>by
  obtain⟨hb,e⟩:=yu4 z
  obtain⟨f0,f1,f2,_⟩:=hf p.1 hb
  obtain⟨o,e',d⟩:=ho p.1 hb
  rw[e] at e';cases e'
  exact⟨e,f0,f1,f2,d⟩
theorem Inv.unpinned{pl:List (Addr×Obj)}(I:Inv X (pins++pl) σ H s):Inv X pins σ H s:=I.pins_of fun p hp=>I.pin p (List.mem_append_right _ (List.mem_append_left _ hp))
variable{iter:Expr}{wi:TI}
theorem Q9(hp:PassesOwn (model X.prog X.w) X.A X.env X.xe)(hc:X.calm=true)(hi:PI X tg iter wi)(hg:PG X tg g)(hb:PSs X body tb)(hs:autoParam (∀ x,foldedSetIterable iter X.env x=pure x) zAi):PS X (.For tg iter body [] pos) (qh9 wi g tb):=by
 intro pins s σ H D I h
 refine wpAny_For (thn (hi pins s σ H _ I h) fun v s1 h1=>thn h1 fun itv s2 h2=>?_) hs
 obtain⟨it,fp,tn,J,H2,e,I2,T,st2,f2,W,⟨m0,w0⟩,turn⟩:=h2
 subst e
 have stat:∀ {H':Hp},(∀ b∈fp,H' b=none)->∀ b∈fp,xh5 X pins H' b:=fun hn b hb=>⟨hn b hb,(f2 b hb).2⟩
 refine codeAny_forLoop_any (fun n s'=>∃ i σ' H',Inv X pins σ' H' s'/\tn i s'.heap/\(∀ b∈fp,H' b=none)/\W i n σ' H') ?_ m0 ⟨0,σ,H2,I2,st2,fun b hb=>(f2 b hb).1,w0⟩
 rintro n s3 ⟨i,σ3,H3,I3,st3,fr3,w3⟩
 rcases turn i n σ3 H3 w3 with⟨stop,qn⟩|⟨go,N,hN,step⟩
 ·refine wpAny_passesOwn hp (thn (T.done X rfl rfl rfl hc i pins s3 σ3 H3 X.xe I3 (stat fr3) st3 stop) fun r s4 zq=>?_)
  obtain⟨hr,I4⟩:=zq
  subst hr
  exact wpAny_execs_nil ⟨σ3,H3,I4,qn⟩
 ·refine wpAny_passesOwn hp (thn (T.item X rfl rfl rfl hc i pins s3 σ3 H3 X.xe I3 (stat fr3) st3 go) fun r s4 zq=>?_)
  obtain⟨u,hr,h4⟩:=zq
  subst hr
  refine wpAny_passesOwn hp (thn h4 fun _ s5 zq=>?_)
  obtain⟨x,H5,I5,r5,y5,st5,fr5⟩:=zq
  have I5':=I5.pinned (stat fr5) (T.obj _ _ st5)
  refine wpAny_passesOwn hp (thn (hg _ s5 σ3 H5 x u _ I5' r5 (step x H5 y5)) fun _ s6 zq=>?_)
  obtain⟨σ6,H6,I6,q6⟩:=zq
  refine wpAny_passesOwn hp (thn (hb _ s6 σ6 H6 _ I6 q6) fun f s7 q7=>?_)
  have again:∀ {σ7:St} {H7:Hp},Inv X (pins++wv8 fp s5.heap) σ7 H7 s7->N σ7 H7->∃ m,m<n/\∃ i σ' H',Inv X pins σ' H' s7/\tn i s7.heap/\(∀ b∈fp,H' b=none)/\W i m σ' H':=fun{σ7 H7} I7 n7=>by
   obtain⟨m',hm,w7⟩:=hN σ7 H7 n7
   refine⟨m',hm,i+1,σ7,H7,I7.unpinned,T.keep _ _ _ st5 fun b hb o e=>(I7.pin (b,o) (List.mem_append_right _ (List.mem_append_right _ (qq5 hb e)))).1,fun b hb=>?_,w7⟩
   obtain⟨o,e,d⟩:=T.obj _ _ st5 b hb
   exact(I7.pin (b,o) (List.mem_append_right _ (List.mem_append_right _ (qq5 hb e)))).2.1
  cases f with
  | next=>obtain⟨σ7,H7,I7,n7⟩:=q7;exact again I7 n7
  | cont=>obtain⟨σ7,H7,I7,n7⟩:=q7;exact again I7 n7
  | brk=>obtain⟨σ7,H7,I7,q7⟩:=q7;exact⟨σ7,H7,I7.unpinned,q7⟩
  | ret v=>obtain⟨x7,σ7,H7,I7,r7,q7⟩:=q7;exact⟨x7,σ7,H7,I7.unpinned,r7,q7⟩
abbrev PAt{α:Type}(P:Nat->α->Hp->Prop)(i:Nat):α->Hp->Prop:=P i
theorem we9(Pv:Nat->St->Hp->Prop)(h0:Pv 0 σ H)(hl:∀ i σ H,i<=xs.length->Pv i σ H->SqL K H a xs)(hs:∀ i x σ H,xs[i]?=some x->Pv i σ H->g x σ H fun σ2 H2=>tb {D with nx:=PAt Pv (i+1),ct:=PAt Pv (i+1),bk:=D.nx} σ2 H2)(hd:∀ σ H,Pv xs.length σ H->D.nx σ H) :
 ∃ W:Nat->Nat->St->Hp->Prop,(∃ m,W 0 m σ H)/\∀ i m σ H,W i m σ H ->
  ((Itl K a).stop i H/\D.nx σ H)\/((Itl K a).go i H/\∃ N:St->Hp->Prop,(∀ σ' H',N σ' H'->∃ m',m'<m/\W (i+1) m' σ' H')/\∀ x H',(Itl K a).yld i H x H'->g x σ H' fun σ2 H2=>tb {D with nx:=N,ct:=N,bk:=D.nx} σ2 H2):=by
 refine⟨fun i m σ H=>m=xs.length-i/\i<=xs.length/\Pv i σ H,⟨xs.length,by simp,Nat.zero_le _,h0⟩,?_⟩
 rintro i m σ H ⟨rfl,hi,p⟩
 have q:=hl i σ H hi p
 by_cases hlt:i<xs.length
 ·refine .inr ⟨⟨xs,xs[i],q,by simp[hlt]⟩,Pv (i+1),fun σ' H' p'=>⟨xs.length-(i+1),by omega,rfl,hlt,p'⟩,fun x H' y=>?_⟩
  obtain⟨e,y⟩:=y
  subst e
  exact hs i x σ _ (y xs q) p
 ·have e:i=xs.length:=by omega
  subst e
  exact .inl ⟨⟨xs,q,Nat.le_refl _⟩,hd σ H p⟩
theorem yo5(Pv:Nat->St->Hp->Prop)(h0:Pv 0 σ H)(hl:∀ i σ H,i<=xs.length->Pv i σ H->SqT K H a xs)(hs:∀ i x σ H,xs[i]?=some x->Pv i σ H->g x σ H fun σ2 H2=>tb {D with nx:=PAt Pv (i+1),ct:=PAt Pv (i+1),bk:=D.nx} σ2 H2)(hd:∀ σ H,Pv xs.length σ H->D.nx σ H) :
 ∃ W:Nat->Nat->St->Hp->Prop,(∃ m,W 0 m σ H)/\∀ i m σ H,W i m σ H ->
  ((Itt K a).stop i H/\D.nx σ H)\/((Itt K a).go i H/\∃ N:St->Hp->Prop,(∀ σ' H',N σ' H'->∃ m',m'<m/\W (i+1) m' σ' H')/\∀ x H',(Itt K a).yld i H x H'->g x σ H' fun σ2 H2=>tb {D with nx:=N,ct:=N,bk:=D.nx} σ2 H2):=by
 refine⟨fun i m σ H=>m=xs.length-i/\i<=xs.length/\Pv i σ H,⟨xs.length,by simp,Nat.zero_le _,h0⟩,?_⟩
 rintro i m σ H ⟨rfl,hi,p⟩
 have q:=hl i σ H hi p
 by_cases hlt:i<xs.length
 ·refine .inr ⟨⟨xs,xs[i],q,by simp[hlt]⟩,Pv (i+1),fun σ' H' p'=>⟨xs.length-(i+1),by omega,rfl,hlt,p'⟩,fun x H' y=>?_⟩
  obtain⟨e,y⟩:=y
  subst e
  exact hs i x σ _ (y xs q) p
 ·have e:i=xs.length:=by omega
  subst e
  exact .inl ⟨⟨xs,q,Nat.le_refl _⟩,hd σ H p⟩
theorem yu5{lo:Int}(Pv:Nat->St->Hp->Prop)(h0:Pv 0 σ H)(hs:∀ i σ H,i<n->Pv i σ H->g (.int (lo+i)) σ H fun σ2 H2=>tb {D with nx:=PAt Pv (i+1),ct:=PAt Pv (i+1),bk:=D.nx} σ2 H2)(hd:∀ σ H,Pv n σ H->D.nx σ H) :
 ∃ W:Nat->Nat->St->Hp->Prop,(∃ m,W 0 m σ H)/\∀ i m σ H,W i m σ H ->
  ((Itr lo n).stop i H/\D.nx σ H)\/((Itr lo n).go i H/\∃ N:St->Hp->Prop,(∀ σ' H',N σ' H'->∃ m',m'<m/\W (i+1) m' σ' H')/\∀ x H',(Itr lo n).yld i H x H'->g x σ H' fun σ2 H2=>tb {D with nx:=N,ct:=N,bk:=D.nx} σ2 H2):=by
 refine⟨fun i m σ H=>m=n-i/\i<=n/\Pv i σ H,⟨n,by simp,Nat.zero_le _,h0⟩,?_⟩
 rintro i m σ H ⟨rfl,hi,p⟩
 by_cases hlt:i<n
 ·refine .inr ⟨hlt,Pv (i+1),fun σ' H' p'=>⟨n-(i+1),by omega,rfl,hlt,p'⟩,fun x H' y=>?_⟩
  obtain⟨e,y⟩:=y
  subst e y
  exact hs i σ _ hlt p
 ·have e:i=n:=by omega
  subst e
  exact .inl ⟨Nat.le_refl _,hd σ H p⟩
abbrev R2:=V->V->Hp->VK->Prop
def OpR(X:Cx)(f:Value->Value->Sem Value)(r:R2):Prop :=
 ∀ (pins:List (Addr×Obj)) (s:Shared) (σ:St) (H:Hp) (x y:V) (v u:Value) (Q:VK),Inv X pins σ H s->M4 x v->M4 y u->r x y H Q ->
  wpAny (model X.prog X.w) X.A (f v u) (EP X pins σ Q) X.xe s
def UnR(X:Cx)(f:Value->Sem Value)(r:V->Hp->VK->Prop):Prop :=
 ∀ (pins:List (Addr×Obj)) (s:Shared) (σ:St) (H:Hp) (x:V) (v:Value) (Q:VK),Inv X pins σ H s->M4 x v->r x H Q ->
  wpAny (model X.prog X.w) X.A (f v) (EP X pins σ Q) X.xe s
def V3(X:Cx)(f:Value)(r:List V->Hp->VK->Prop):Prop :=
 ∀ (pins:List (Addr×Obj)) (s:Shared) (σ:St) (H:Hp) (xs:List V) (us:List Value) (Q:VK),Inv X pins σ H s->J9 xs us->r xs H Q ->
  wpAny (model X.prog X.w) X.A (call f us) (EP X pins σ Q) X.xe s
def Al7(X:Cx)(r:V->Hp->(Bool->Hp->Prop)->Prop):Prop :=
 ∀ (pins:List (Addr×Obj)) (s:Shared) (σ:St) (H:Hp) (x:V) (v:Value) (Q:Bool->Hp->Prop),Inv X pins σ H s->M4 x v->r x H Q ->
  wpAny (model X.prog X.w) X.A (truthy v) (TP X pins σ Q) X.xe s
def tOp(r:R2)(ta tb:TE):TE:=fun σ H Q=>ta σ H fun x H1=>tb σ H1 fun y H2=>r x y H2 Q
def tUn(r:V->Hp->VK->Prop)(ta:TE):TE:=fun σ H Q=>ta σ H fun x H1=>r x H1 Q
def rI(C:Int->Int->Prop)(g:Int->Int->V):R2:=fun x y H Q=>∃ i j,x=.int i/\y=.int j/\C i j/\Q (g i j) H
def rI0(g:Int->Int->V):R2:=fun x y H Q=>∃ i j,x=.int i/\y=.int j/\Q (g i j) H
def rU(g:Int->V):V->Hp->VK->Prop:=fun x H Q=>∃ i,x=.int i/\Q (g i) H
variable{tc:TE}{f:Value->Value->Sem Value}{i j:Int}
section
variable{a b:Expr}{tb:TE}
theorem zw5(ha:PE X a ta)(hb:PE X b tb){R:V->V->Hp->Prop}(I:Inv X pins σ H s)(h:ta σ H fun x H1=>tb σ H1 fun y H2=>R x y H2)(hf:∀ v u s2 x y H2,Inv X pins σ H2 s2->M4 x v->M4 y u->R x y H2->wpAny (model X.prog X.w) X.A (f v u) Q X.xe s2) :
 wpAny (model X.prog X.w) X.A (eval a X.env) (fun v s₁=>wpAny (model X.prog X.w) X.A (eval b X.env) (fun u s₂=>wpAny (model X.prog X.w) X.A (f v u) Q X.xe s₂) X.xe s₁) X.xe s:=by
 refine thn (ha pins s σ H _ I h) fun v s1 zq=>?_
 obtain⟨x,H1,I1,r1,q1⟩:=zq
 refine thn (hb pins s1 σ H1 _ I1 q1) fun u s2 zq=>?_
 obtain⟨y,H2,I2,r2,q2⟩:=zq
 exact hf v u s2 x y H2 I2 r1 r2 q2
theorem D9{op:Operator}{r:R2}(ho:OpR X (binaryOp op) r)(ha:PE X a ta)(hb:PE X b tb):PE X (.BinOp a op b pos) (tOp r ta tb):=by
 intro pins s σ H Q I h
 exact wpAny_BinOp (zw5 ha hb I h fun v u s2 x y H2 I2 rx ry q=>ho pins s2 σ H2 x y v u Q I2 rx ry q)
theorem V4{op:UnaryOp}{r:V->Hp->VK->Prop}(ho:UnR X (unaryOp op) r)(ha:PE X a ta):PE X (.UnaryOp op a pos) (tUn r ta):=by
 intro pins s σ H Q I h
 exact UnaryOp_ (thn (ha pins s σ H _ I h) fun v s1 ⟨x,H1,I1,r1,q1⟩=>ho pins s1 σ H1 x v Q I1 r1 q1)
theorem opI{C:Int->Int->Prop}{g:Int->Int->Int}(rule:∀ (i j:Int) (t u:Tok) (s:Shared) (Q:Value->Shared->Prop) (E:Value->Shared->Prop),C i j->Q (.int (g i j) s.toks) {s with toks:=s.toks+1}->wpAny (model X.prog X.w) X.A (f (.int i t) (.int j u)) Q E s) :
 OpR X f (rI C fun i j=>.int (g i j)):=by
 intro pins s σ H x y v u Q I rx ry h
 obtain⟨i,j,rfl,rfl,hc,q⟩:=h
 obtain⟨t,rfl⟩:=rx
 obtain⟨t',rfl⟩:=ry
 exact rule i j t t' s _ _ hc ⟨.int (g i j),H,I.tok _,⟨_,rfl⟩,q⟩
theorem Af0{g:Int->Int->Int}(rule:∀ (i j:Int) (t u:Tok) (s:Shared) (Q:Value->Shared->Prop) (E:Value->Shared->Prop),Q (.int (g i j) s.toks) {s with toks:=s.toks+1}->wpAny (model X.prog X.w) X.A (f (.int i t) (.int j u)) Q E s) :
 OpR X f (rI0 fun i j=>.int (g i j)):=by
 intro pins s σ H x y v u Q I rx ry h
 obtain⟨i,j,rfl,rfl,q⟩:=h
 obtain⟨t,rfl⟩:=rx
 obtain⟨t',rfl⟩:=ry
 exact rule i j t t' s _ _ ⟨.int (g i j),H,I.tok _,⟨_,rfl⟩,q⟩
theorem zl1{g:Int->Int->Bool}(rule:∀ (i j:Int) (t u:Tok) (s:Shared) (Q:Value->Shared->Prop) (E:Value->Shared->Prop),Q (.bool (g i j)) s->wpAny (model X.prog X.w) X.A (f (.int i t) (.int j u)) Q E s) :
 OpR X f (rI0 fun i j=>.bl (g i j)):=by
 intro pins s σ H x y v u Q I rx ry h
 obtain⟨i,j,rfl,rfl,q⟩:=h
 obtain⟨t,rfl⟩:=rx
 obtain⟨t',rfl⟩:=ry
 exact rule i j t t' s _ _ ⟨.bl (g i j),H,I,rfl,q⟩
def xs6(i j:Int):Prop:=0<j/\j<1073741824
def Af1(i j:Int):Prop:=0<=j/\j<=1000000/\i.natAbs<2 ^ 64
def yz9(i j:Int):Prop:=(-(2 ^ 64)<i/\i<2 ^ 64)\/(-(2 ^ 64)<j/\j<2 ^ 64)
theorem yz9.ok(h:yz9 i j):IntMulOk i j:=by
 rcases h with⟨h1,h2⟩|⟨h1,h2⟩
 ·exact .of_left (intBits_le_64 h1 h2)
 ·exact .of_right (intBits_le_64 h1 h2)
theorem zw6:OpR X (binaryOp .Add) (rI0 fun i j=>.int (i+j)):=Af0 fun _ _ _ _ _ _ _ q=>add_int q
theorem qh3:OpR X (binaryOp .Sub) (rI0 fun i j=>.int (i-j)):=Af0 fun _ _ _ _ _ _ _ q=>sub_int q
theorem zw7:OpR X (binaryOp .Mult) (rI yz9 fun i j=>.int (i*j)):=opI fun _ _ _ _ _ _ _ hc q=>mul_int q hc.ok
theorem qz2:OpR X (binaryOp .FloorDiv) (rI xs6 fun i j=>.int (i / j)):=opI fun i j _ _ _ _ _ hc q=>by
 have h1:(0:Int)<j:=hc.1
 have h2:j<1073741824:=hc.2
 exact floordiv_int (by omega) (by rw[Int.fdiv_eq_ediv_of_nonneg i (by omega)];exact q) (.inl (PyProof.noPylong_small (by omega)))
theorem qd9:OpR X (binaryOp .Mod) (rI (fun _ j=>0<j) fun i j=>.int (i % j)):=opI fun i j _ _ _ _ _ hc q=>by
 have h1:(0:Int)<j:=hc
 exact mod_int' (by omega) (by rw[Int.fmod_eq_emod_of_nonneg i (by omega)];exact q)
theorem zw8:OpR X (binaryOp .Pow) (rI Af1 fun i j=>.int (i ^ j.toNat)):=opI fun _ _ _ _ _ _ _ hc q=>pow_int_small hc.1 hc.2.1 hc.2.2 q
theorem unI{f:Value->Sem Value}{g:Int->Int}(rule:∀ (i:Int) (t:Tok) (s:Shared) (Q:Value->Shared->Prop) (E:Value->Shared->Prop),Q (.int (g i) s.toks) {s with toks:=s.toks+1}->wpAny (model X.prog X.w) X.A (f (.int i t)) Q E s) :
 UnR X f (rU fun i=>.int (g i)):=by
 intro pins s σ H x v Q I rx h
 obtain⟨i,rfl,q⟩:=h
 obtain⟨t,rfl⟩:=rx
 exact rule i t s _ _ ⟨.int (g i),H,I.tok _,⟨_,rfl⟩,q⟩
theorem Q0:UnR X (unaryOp .USub) (rU fun i=>.int (-i)):=unI fun _ _ _ _ _ q=>neg_int q
end
def zl2:V->V->Bool
 | .non,.non=>true | .non,.int _=>true | .int _,.non=>true | .non,.bl _=>true | .bl _,.non=>true | .non,.str _=>true | .str _,.non=>true
 | .int _,.int _=>true | .bl _,.bl _=>true | .str _,.str _=>true | .byt _,.byt _=>true
 | .int _,.str _=>true | .str _,.int _=>true | .bl _,.str _=>true | .str _,.bl _=>true
 | _,_=>false
def rEq:R2:=fun x y H Q=>zl2 x y=true/\Q (.bl (decide (x=y))) H
def rNe:R2:=fun x y H Q=>zl2 x y=true/\Q (.bl (!decide (x=y))) H
theorem yo6:decide (V.int i=V.int j)=(i == j):=by
 rw[Bool.eq_iff_iff]
 simp
theorem za0{i j:Bool}:decide (V.bl i=V.bl j)=(i == j):=by
 rw[Bool.eq_iff_iff]
 simp
theorem yo7{i j:Str}:decide (V.str i=V.str j)=(i == j):=by
 rw[Bool.eq_iff_iff]
 simp
theorem yo8{i j:Array UInt8}:decide (V.byt i=V.byt j)=(i.toList == j.toList):=by
 rw[Bool.eq_iff_iff]
 cases i
 cases j
 simp
variable{op:CmpOp}{κ:Type}{its:List Value}
section
variable{a b:Expr}{tb:TE}
theorem M9{Q:VK}{k k':Bool}(I:Inv X pins σ H s)(q:Q (.bl k) H)(e:k=k'):EP X pins σ Q (.bool k') s:=by
 subst e
 exact⟨.bl k,H,I,rfl,q⟩
theorem Af2:OpR X (compareOp .Eq) rEq:=by
 intro pins s σ H x y v u Q I rx ry h
 obtain⟨hs,q⟩:=h
 cases x with
 | non =>
   cases rx
   cases y with
   | non=>cases ry;exact PySem.EqNone.eq_none_none (M9 I q (by simp))
   | bl j=>cases ry;exact PySem.EqNone.eq_none_bool (M9 I q (by simp))
   | int j=>obtain⟨t',rfl⟩:=ry;exact PySem.EqNone.eq_none_int (M9 I q (by simp))
   | str j=>obtain⟨t',rfl⟩:=ry;exact PySem.EqNone.eq_none_str (M9 I q (by simp))
   | _=>exact absurd (show false=true from hs) Bool.false_ne_true
 | bl i =>
   cases rx
   cases y with
   | non=>cases ry;exact PySem.EqNone.eq_bool_none (M9 I q (by simp))
   | bl j=>cases ry;exact eq_bool (M9 I q za0)
   | str j=>obtain⟨t',rfl⟩:=ry;exact PySem.EqMixed.eq_bool_str (M9 I q (by simp))
   | _=>exact absurd (show false=true from hs) Bool.false_ne_true
 | int i =>
   obtain⟨t,rfl⟩:=rx
   cases y with
   | non=>cases ry;exact PySem.EqNone.eq_int_none (M9 I q (by simp))
   | int j=>obtain⟨t',rfl⟩:=ry;exact eq_int (M9 I q yo6)
   | str j=>obtain⟨t',rfl⟩:=ry;exact PySem.EqMixed.eq_int_str (M9 I q (by simp))
   | _=>exact absurd (show false=true from hs) Bool.false_ne_true
 | str i =>
   obtain⟨t,rfl⟩:=rx
   cases y with
   | non=>cases ry;exact PySem.EqNone.eq_str_none (M9 I q (by simp))
   | bl j=>cases ry;exact PySem.EqMixed.eq_str_bool (M9 I q (by simp))
   | int j=>obtain⟨t',rfl⟩:=ry;exact PySem.EqMixed.eq_str_int (M9 I q (by simp))
   | str j=>obtain⟨t',rfl⟩:=ry;exact eq_str (M9 I q yo7)
   | _=>exact absurd (show false=true from hs) Bool.false_ne_true
 | byt i =>
   obtain⟨t,rfl⟩:=rx
   cases y with
   | byt j=>obtain⟨t',rfl⟩:=ry;exact PySem.W.eq_bytes (M9 I q yo8)
   | _=>exact absurd (show false=true from hs) Bool.false_ne_true
 | _=>cases y <;> exact absurd (show false=true from hs) Bool.false_ne_true
theorem Af3:OpR X (compareOp .NotEq) rNe:=by
 intro pins s σ H x y v u Q I rx ry h
 obtain⟨hs,q⟩:=h
 cases x with
 | non =>
   cases rx
   cases y with
   | non=>cases ry;exact PySem.EqNone.ne_none_none (M9 I q (by simp))
   | bl j=>cases ry;exact PySem.EqNone.ne_none_bool (M9 I q (by simp))
   | int j=>obtain⟨t',rfl⟩:=ry;exact PySem.EqNone.ne_none_int (M9 I q (by simp))
   | str j=>obtain⟨t',rfl⟩:=ry;exact PySem.EqNone.ne_none_str (M9 I q (by simp))
   | _=>exact absurd (show false=true from hs) Bool.false_ne_true
 | bl i =>
   cases rx
   cases y with
   | non=>cases ry;exact PySem.EqNone.ne_bool_none (M9 I q (by simp))
   | bl j=>cases ry;exact ne_bool (M9 I q (congrArg not za0))
   | str j=>obtain⟨t',rfl⟩:=ry;exact PySem.EqMixed.ne_bool_str (M9 I q (by simp))
   | _=>exact absurd (show false=true from hs) Bool.false_ne_true
 | int i =>
   obtain⟨t,rfl⟩:=rx
   cases y with
   | non=>cases ry;exact PySem.EqNone.ne_int_none (M9 I q (by simp))
   | int j=>obtain⟨t',rfl⟩:=ry;exact ne_int (M9 I q (congrArg not yo6))
   | str j=>obtain⟨t',rfl⟩:=ry;exact PySem.EqMixed.ne_int_str (M9 I q (by simp))
   | _=>exact absurd (show false=true from hs) Bool.false_ne_true
 | str i =>
   obtain⟨t,rfl⟩:=rx
   cases y with
   | non=>cases ry;exact PySem.EqNone.ne_str_none (M9 I q (by simp))
   | bl j=>cases ry;exact PySem.EqMixed.ne_str_bool (M9 I q (by simp))
   | int j=>obtain⟨t',rfl⟩:=ry;exact PySem.EqMixed.ne_str_int (M9 I q (by simp))
   | str j=>obtain⟨t',rfl⟩:=ry;exact ne_str (M9 I q (congrArg not yo7))
   | _=>exact absurd (show false=true from hs) Bool.false_ne_true
 | byt i =>
   obtain⟨t,rfl⟩:=rx
   cases y with
   | byt j=>obtain⟨t',rfl⟩:=ry;exact PySem.W.ne_bytes (M9 I q (congrArg not yo8))
   | _=>exact absurd (show false=true from hs) Bool.false_ne_true
 | _=>cases y <;> exact absurd (show false=true from hs) Bool.false_ne_true
theorem Af4:OpR X (compareOp .Lt) (rI0 fun i j=>.bl (decide (i<j))):=zl1 fun _ _ _ _ _ _ _ q=>lt_int q
theorem Af5:OpR X (compareOp .LtE) (rI0 fun i j=>.bl (decide (i<=j))):=zl1 fun _ _ _ _ _ _ _ q=>le_int q
theorem Af6:OpR X (compareOp .Gt) (rI0 fun i j=>.bl (decide (j<i))):=zl1 fun _ _ _ _ _ _ _ q=>gt_int q
theorem Af7:OpR X (compareOp .GtE) (rI0 fun i j=>.bl (decide (j<=i))):=zl1 fun _ _ _ _ _ _ _ q=>ge_int q
theorem yu6:OpR X (compareOp .Lt) (fun x y H Q=>∃ i j,x=.str i/\y=.str j/\Q (.bl (decide (i.cps.toList<j.cps.toList))) H):=by
 intro pins s σ H x y v u Q I rx ry h
 obtain⟨i,j,rfl,rfl,q⟩:=h
 obtain⟨t,rfl⟩:=rx
 obtain⟨t',rfl⟩:=ry
 exact lt_str (M9 I q rfl)
theorem yu7:OpR X (compareOp .In) (fun x y H Q=>∃ i j,x=.str i/\y=.str j/\Q (.bl (!(Builtin.Str.occurrences j i 0 j.length 1).isEmpty)) H):=by
 intro pins s σ H x y v u Q I rx ry h
 obtain⟨i,j,rfl,rfl,q⟩:=h
 obtain⟨t,rfl⟩:=rx
 obtain⟨t',rfl⟩:=ry
 exact in_str (M9 I q rfl)
theorem zw9:OpR X (compareOp .Is) (fun x y H Q=>y=.non/\Q (.bl (decide (x=.non))) H):=by
 intro pins s σ H x y v u Q I rx ry h
 obtain⟨rfl,q⟩:=h
 cases ry
 refine is_none_gen (M9 I q ?_)
 cases x <;> first
  | (cases rx;rfl)
  | (obtain⟨t,rfl⟩:=rx;rfl)
theorem zl3:OpR X (compareOp .IsNot) (fun x y H Q=>y=.non/\Q (.bl (!decide (x=.non))) H):=by
 intro pins s σ H x y v u Q I rx ry h
 obtain⟨rfl,q⟩:=h
 cases ry
 refine isnot_none_gen (M9 I q ?_)
 cases x <;> first
  | (cases rx;rfl)
  | (obtain⟨t,rfl⟩:=rx;rfl)
theorem OpR.or{r r':R2}(h:OpR X f r)(h':OpR X f r'):OpR X f (fun x y H Q=>r x y H Q\/r' x y H Q):=by
 intro pins s σ H x y v u Q I rx ry q
 rcases q with q|q
 ·exact h pins s σ H x y v u Q I rx ry q
 ·exact h' pins s σ H x y v u Q I rx ry q
theorem C0(b:Expr)(h:autoParam (op≠.In) zAd)(h2:autoParam (op≠.NotIn) zAd):behindInMarks op b=false:=by
 have e1:(op == CmpOp.In)=false:=by cases op <;> first|rfl|exact absurd rfl h
 have e2:(op == CmpOp.NotIn)=false:=by cases op <;> first|rfl|exact absurd rfl h2
 cases b <;> simp[behindInMarks,e1,e2]
theorem T8{r:R2}(ho:OpR X (compareOp op) r)(ha:PE X a ta)(hb:PE X b tb)(hm:behindInMarks op b=false):PE X (.Compare a [op] [b] pos) (tOp r ta tb):=by
 intro pins s σ H Q I h
 exact wpAny_Compare1 (zw5 ha hb I h fun v u s2 x y H2 I2 rx ry q=>ho pins s2 σ H2 x y v u Q I2 rx ry q) hm
def D6(t:TE):TT:=fun σ H Q=>t σ H fun x H'=>∃ k,x=.bl k/\Q k H'
theorem B5{r:R2}(ho:OpR X (compareOp op) r)(ha:PE X a ta)(hb:PE X b tb)(hm:behindInMarks op b=false):PT X (.Compare a [op] [b] pos) (D6 (tOp r ta tb)):=by
 intro pins s σ H Q I h
 refine wpAny_isTrue_Compare1 (thn (ha pins s σ H _ I h) fun v s1 ⟨x,H1,I1,r1,q1⟩=>thn (hb pins s1 σ H1 _ I1 q1) fun u s2 ⟨y,H2,I2,r2,q2⟩ =>
  thn (ho pins s2 σ H2 x y v u _ I2 r1 r2 q2) fun c s3 ⟨z,H3,I3,r3,k,e,q3⟩=>?_) hm
 subst e
 cases r3
 exact wpAny_truthy_bool ⟨H3,I3,q3⟩
def wv9(r r':R2)(ta tb tc:TE):TE:=fun σ H Q=>ta σ H fun x H1=>tb σ H1 fun y H2=>r x y H2 fun z H3=>∃ k,z=.bl k /\
 (if k=true then tc σ H3 fun w' H4=>r' y w' H4 Q else Q (.bl false) H3)
theorem ww0{op':CmpOp}{r r':R2}(ho:OpR X (compareOp op) r)(ho':OpR X (compareOp op') r')(ha:PE X a ta)(hb:PE X b tb)(hc:PE X c tc)(hm:lastMarks [op,op'] [b,c]=false:=by with_unfolding_all rfl):PT X (.Compare a [op,op'] [b,c] pos) (D6 (wv9 r r' ta tb tc)):=by
 intro pins s σ H Q I h
 refine isTrue_chain (thn (ha pins s σ H _ I h) fun v s1 ⟨x,H1,I1,r1,q1⟩=>test_link (thn (hb pins s1 σ H1 _ I1 q1) fun u s2 ⟨y,H2,I2,r2,q2⟩ =>
  thn (ho pins s2 σ H2 x y v u _ I2 r1 r2 q2) fun d s3 ⟨z,H3,I3,r3,k,e,q3⟩=>?_)) hm
 subst e
 cases r3
 refine wpAny_truthy_bool ?_
 cases k with
 | false =>
   obtain⟨k',e',q'⟩:=q3
   cases e'
   exact ite_ff ⟨H3,I3,q'⟩
 | true =>
   refine ite_tt (test_last (thn (hc pins s3 σ H3 _ I3 q3) fun w' s4 ⟨z',H4,I4,r4,q4⟩=>thn (ho' pins s4 σ H4 y z' u w' _ I4 r2 r4 q4) fun d' s5 zq=>?_))
   obtain⟨z2,H5,I5,r5,k2,e2,q5⟩:=zq
   subst e2
   cases r5
   exact wpAny_truthy_bool ⟨H5,I5,q5⟩
def zx0(K:Fg)(x:V)(H:Hp)(k:Bool):Prop :=
 match x with
 | .non=>k=false
 | .bl b=>k=b
 | .int i=>k=(i != 0)
 | .str y=>y.length<=sizeLine/\k=((y.length:Int) != 0)
 | .byt y=>y.size<=sizeLine/\k=((y.size:Int) != 0)
 | .ref p=>(∃ xs,SqL K H p xs/\k=!xs.isEmpty)\/(∃ xs,SqT K H p xs/\k=!xs.isEmpty)\/∃ kvs,H p=some (.dK kvs)/\k=!kvs.isEmpty
 | _=>False
theorem yh8{kvs:List (κ×V)}{vs:List (κ×Value)}(r:KV kvs vs):(!vs.isEmpty)=!kvs.isEmpty:=by
 cases r <;> rfl
theorem ww1(r:J9 xs its):(!its.toArray.isEmpty)=!xs.isEmpty:=by
 cases r <;> simp
theorem wd1:(sizeLine:Nat)<2 ^ 63:=by rw[sizeLine_eq];decide
theorem zx1:Al7 X (fun x H Q=>∃ k,zx0 X.K x H k/\Q k H):=by
 intro pins s σ H x v Q I rx h
 obtain⟨k,e,q⟩:=h
 have hl:=wd1
 have hs:sizeLine=16777216:=sizeLine_eq
 cases x with
 | non =>
   cases rx
   have e':k=false:=e
   subst e'
   exact truthy_none ⟨H,I,q⟩
 | bl b =>
   cases rx
   have e':k=b:=e
   subst e'
   exact wpAny_truthy_bool ⟨H,I,q⟩
 | int i =>
   obtain⟨t,rfl⟩:=rx
   have e':k=(i != 0):=e
   subst e'
   exact PySem.P.truthy_int ⟨H,I,q⟩
 | str y =>
   obtain⟨t,rfl⟩:=rx
   obtain⟨hy,e'⟩:y.length<=sizeLine/\k=((y.length:Int) != 0):=e
   subst e'
   exact PySem.P.truthy_str (by omega) ⟨H,I.tok _,q⟩
 | byt y =>
   obtain⟨t,rfl⟩:=rx
   obtain⟨hy,e'⟩:y.size<=sizeLine/\k=((y.size:Int) != 0):=e
   subst e'
   exact PySem.W.truthy_bytes (by omega) ⟨H,I.tok _,q⟩
 | ref p =>
   cases rx
   have e':(∃ xs,SqL X.K H p xs/\k=!xs.isEmpty)\/(∃ xs,SqT X.K H p xs/\k=!xs.isEmpty)\/∃ kvs,H p=some (.dK kvs)/\k=!kvs.isEmpty:=e
   rcases e' with⟨xs,hx,e'⟩|⟨xs,hx,e'⟩|⟨kvs,hx,e'⟩
   ·subst e'
    obtain⟨its,r,pl,hz⟩:=I.list hx
    have hlen:=r.length
    exact wpAny_truthy_list pl.isList (by simp only[List.size_toArray];omega) ⟨H,I.tok _,by rw[ww1 r];exact q⟩
   ·subst e'
    obtain⟨its,r,pl,hz⟩:=I.tuple hx
    have hlen:=r.length
    exact truthy_tuple pl (by simp only[List.size_toArray];omega) ⟨H,I.tok _,by rw[ww1 r];exact q⟩
   ·subst e'
    obtain⟨hz,hS,vs,r,m⟩:kvs.length<=sizeLine/\(p == sysModules)=false/\∃ vs,KV kvs vs/\s.heap.DictOf (R4 X.prog X.w) p vs:=I.hok p _ hx
    have hlen:kvs.length=vs.length:=Paired.length r
    exact wpAny_truthy_dict hS m (by omega) ⟨H,I.tok _,by rw[yh8 r];exact q⟩
 | _=>exact(show False from e).elim
theorem yh9:OpR X (binaryOp .Add) (fun x y H Q=>∃ i j,x=.str i/\y=.str j/\i.length+j.length<=sizeLine/\Q (.str (i++j)) H):=by
 intro pins s σ H x y v u Q I rx ry h
 obtain⟨i,j,rfl,rfl,hz,q⟩:=h
 obtain⟨t,rfl⟩:=rx
 obtain⟨t',rfl⟩:=ry
 exact wpAny_with_toks (n:=1) I.tk (add_str (fun t' tk ht=>⟨.str (i++j),H,I.tok _ ht,⟨_,rfl⟩,q⟩) hz)
theorem qp0{x:V}(r:J9 [x] us):∃ u,us=[u]/\M4 x u:=by
 cases r with
 | cons r1 r2=>cases r2;exact⟨_,rfl,r1⟩
theorem xp4{x:V}(r:J9 [x,y] us):∃ u w',us=[u,w']/\M4 x u/\M4 y w':=by
 cases r with
 | cons r1 r2 =>
   cases r2 with
   | cons r3 r4=>cases r4;exact⟨_,_,rfl,r1,r3⟩
theorem yu8(hc:X.calm=true):V3 X (.builtin "max") (fun xs H Q=>∃ i j,xs=[.int i,.int j]/\Q (.int (if j > i then j else i)) H):=by
 intro pins s σ H xs us Q I r h
 obtain⟨i,j,rfl,q⟩:=h
 obtain⟨u,w',rfl,⟨t,rfl⟩,⟨t',rfl⟩⟩:=xp4 r
 refine wpAny_with_toks (n:=1) I.tk (max_two_ints (I.ok.hd hc) fun h' tk k ht=>⟨_,H,I.kept k ht,?_,q⟩)
 by_cases hj:j > i
 ·rw[if_pos hj,if_pos hj];exact⟨_,rfl⟩
 ·rw[if_neg hj,if_neg hj];exact⟨_,rfl⟩
theorem yu9:V3 X (.type "int") (fun xs H Q=>(∃ i,xs=[.int i]/\Q (.int i) H)\/∃ k,xs=[.bl k]/\Q (.int (if k then 1 else 0)) H):=by
 intro pins s σ H xs us Q I r h
 rcases h with⟨i,rfl,q⟩|⟨k,rfl,q⟩
 ·obtain⟨u,rfl,t,rfl⟩:=qp0 r
  exact call_int_int ⟨.int i,H,I,⟨_,rfl⟩,q⟩
 ·obtain⟨u,rfl,r1⟩:=qp0 r
  cases r1
  exact call_int_bool ⟨.int (if k then 1 else 0),H,I.tok _,⟨_,rfl⟩,q⟩
end
structure zx2(h:Heap)(x dx C:Addr)(mA:Str->Option Value):Prop where
 obj:h.get? x=some (PySem.W.instObj C dx)
 ns:h.Ns1 dx mA
 ne:dx≠x
variable{dx:Addr}{mA:Str->Option Value}
theorem yv0(n:h.Ns1 dx mA):∃ od,h.get? dx=some od/\∀ name,PySem.W.lookIn name od=some (mA name):=by
 obtain⟨o,es,ep,ho,hd,hk,_,hm⟩:=n
 refine⟨o,ho,fun name=>?_⟩
 have e:=hm name
 unfold nsFind findBy at e
 rw[<-Array.find?_toList] at e
 unfold PySem.W.lookIn
 rw[hd]
 dsimp only
 split
 ·rename_i y q
  rw[q] at e
  exact congrArg some e
 ·rename_i q
  rw[q] at e
  have a:es.toList.any (·.refKey)=false:=by
   rw[List.any_eq_false]
   intro y hy
   obtain⟨z,t,hkey⟩:=hk y (Array.mem_toList_iff.mp hy)
   simp[DictEntry.refKey,hkey]
  have a':¬es.toList.any (·.refKey)=true:=by rw[a];exact Bool.false_ne_true
  rw[if_neg a']
  exact congrArg some e
variable{C:Addr}
theorem zx2.look{x:Addr}(I:zx2 h x dx C mA):∃ od,PySem.W.InstAt h x (PySem.W.instObj C dx) C (some od)/\∀ name,PySem.W.lookIn name od=some (mA name) :=
 let ⟨od,ho,hl⟩:=yv0 I.ns
 ⟨od,⟨I.obj,rfl,rfl,ho⟩,hl⟩
theorem wa5.some_of{o:Option Value}(r:wa5 (some v) o):∃ u,o=some u/\M4 v u:=by
 cases o with
 | none=>exact(show False from r).elim
 | some u=>exact⟨u,rfl,r⟩
theorem yv1(r:M4 v u):PySem.W.handedIn u=true:=by
 cases v with
 | non=>cases (show u=Value.none from r);rfl
 | bl b=>cases (show u=Value.bool b from r);rfl
 | int i=>obtain⟨t,e⟩:=(show ∃ t,u=Value.int i t from r);cases e;rfl
 | str x=>obtain⟨t,e⟩:=(show ∃ t,u=Value.str x t from r);cases e;rfl
 | byt b=>obtain⟨t,e⟩:=(show ∃ t,u=Value.bytes b t from r);cases e;rfl
 | flt b=>obtain⟨t,e⟩:=(show ∃ t,u=Value.float b t from r);cases e;rfl
 | ref a=>cases (show u=Value.ref a from r);rfl
 | ty n=>cases (show u=Value.type n from r);rfl
section
variable{fs fs':List (Str×V)}
theorem zl4(hok:HOk P w H h)(e:H a=some (.ins C dx fs)):∃ mA,zx2 h a dx C mA/\(∀ f,wa5 (fs.lookup f) (mA f))/\PySem.Within mA (fs.map (·.1))/\fs.length<=1000/\H dx=some (.own a):=by
 obtain⟨d,z,ne,ob,mA,n,r,q⟩:=(show O8 P w H h a (.ins C dx fs) from hok a _ e)
 exact⟨mA,⟨ob,n,ne⟩,r,q,z,d⟩
end
structure Cls(K:Fg)(C:Addr):Prop where
 pg:PySem.W.plainGet K C Str.empty=true
 hd:PySem.W.hasDictIn K C=true
 po:PySem.W.plainOver K C=true
 sa:PySem.W.findIn K (.ref C) "__setattr__"=some (some (.builtin "object.__setattr__"))
theorem Cls.get(c:Cls K C)(f:Str):PySem.W.plainGet K C f=true:=c.pg
variable{env:Env}{prog:Program}
section
variable{fs:List (Str×V)}{f:Str}
theorem zl5{f:Str}(hb:attributeBase e f env (eval e env)=eval e env)(h:wpAny (model prog w) A (eval e env) (fun o s₁=>wpAny (model prog w) A (getAttr o f true) Q E s₁) E s):wpAny (model prog w) A (eval (.Attribute e f pos) env) Q E s :=
 Attribute_any_ h (by rw[arm_eval_Attribute,hb])
end
section
variable{c:Value}{b:Bool}
inductive wf0(K:Fg)(H:Hp):V->Value->Prop where
 | non:wf0 K H .non (.type "NoneType")
 | bl (x:Bool):wf0 K H (.bl x) (.type "bool")
 | int (i:Int):wf0 K H (.int i) (.type "int")
 | str (x:Str):wf0 K H (.str x) (.type "str")
 | flt (x:UInt64):wf0 K H (.flt x) (.type "float")
 | lst {a:Addr} {xs:List V} (e:H a=some (.lst xs)):wf0 K H (.ref a) (.type "list")
 | frz {a:Addr} {o:Obj} {xs:List V} (e:H a=some (.frz o (.lst xs))):wf0 K H (.ref a) (.type "list")
 | tup {a:Addr} {xs:List V} (e:H a=some (.tup xs)):wf0 K H (.ref a) (.type "tuple")
 | dK {a:Addr} {kvs:List (Key×V)} (e:H a=some (.dK kvs)):wf0 K H (.ref a) (.type "dict")
 | dT {a:Addr} {kvs:List (List Key×V)} (e:H a=some (.dT kvs)):wf0 K H (.ref a) (.type "dict")
 | ins {a C dx:Addr} {fs:List (Str×V)} (e:H a=some (.ins C dx fs)) (cl:Cls K C) (ha:PySem.W.findIn K (.ref C) "__class__"=some (some (.builtin "object.__class__")))
  (hn:PySem.W.specialIn K (.builtin "object.__class__") "__get__"=some (some (.builtin "getset_descriptor.__get__"))) (htk:PySem.W.takesIn K (.builtin "object.__class__")=some true)
  (hm:PySem.W.mroIn K C (.type "object")=some true):wf0 K H (.ref a) (.ref C)
theorem yv2{x:V}{t:Value}(I:Inv X pins σ H s)(rx:M4 x u)(ty:wf0 X.K H x t)(e:PySem.W.kitOne X.K t c=some b)(h:∀ tk,Q (.bool b) {s with toks:=tk}) :
 wpAny (model X.prog X.w) A (call (.builtin "isinstance") [u,c]) Q E s:=by
 cases ty with
 | non=>cases (show u=Value.none from rx);exact PySem.W.kia_one PySem.W.kitx_none I.kIn True.intro e (fun z=>nomatch z) h
 | bl y=>cases (show u=Value.bool y from rx);exact PySem.W.kia_one PySem.W.kitx_bool I.kIn True.intro e (fun z=>nomatch z) h
 | int i=>obtain⟨t,q⟩:=(show ∃ t,u=Value.int i t from rx);cases q;exact PySem.W.kia_one PySem.W.kitx_int I.kIn True.intro e (fun z=>nomatch z) h
 | str y=>obtain⟨t,q⟩:=(show ∃ t,u=Value.str y t from rx);cases q;exact PySem.W.kia_one PySem.W.kitx_str I.kIn True.intro e (fun z=>nomatch z) h
 | flt y=>obtain⟨t,q⟩:=(show ∃ t,u=Value.float y t from rx);cases q;exact PySem.W.kia_one PySem.W.kitx_float I.kIn True.intro e (fun z=>nomatch z) h
 | @lst a xs ea =>
   cases (show u=Value.ref a from rx)
   obtain⟨_,_,n,_,h1⟩:=(show O8 X.prog X.w H s.heap a (.lst xs) from I.hok a _ ea)
   exact PySem.W.kia_one PySem.W.kitx_list I.kIn ⟨_,h1,rfl⟩ e (fun z=>nomatch z) h
 | @frz a ob xs ea =>
   cases (show u=Value.ref a from rx)
   obtain⟨_,_,_,n,_,h1⟩:=(show O8 X.prog X.w H s.heap a (.frz ob (.lst xs)) from I.hok a _ ea)
   exact PySem.W.kia_one PySem.W.kitx_list I.kIn ⟨_,h1,rfl⟩ e (fun z=>nomatch z) h
 | @tup a xs ea =>
   cases (show u=Value.ref a from rx)
   obtain⟨_,_,_,p⟩:=(show O8 X.prog X.w H s.heap a (.tup xs) from I.hok a _ ea)
   obtain⟨o,h1,h2,_⟩:=p
   exact PySem.W.kia_one PySem.W.kitx_tuple I.kIn ⟨o,h1,h2⟩ e (fun z=>nomatch z) h
 | @dK a kvs ea =>
   cases (show u=Value.ref a from rx)
   obtain⟨_,_,vs,_,p⟩:=(show O8 X.prog X.w H s.heap a (.dK kvs) from I.hok a _ ea)
   obtain⟨o,es,ep,h1,h2,_⟩:=p
   exact PySem.W.kia_one PySem.W.kitx_dict I.kIn ⟨o,h1,h2.1⟩ e (fun z=>nomatch z) h
 | @dT a kvs ea =>
   cases (show u=Value.ref a from rx)
   obtain⟨_,_,xs,_,o,es,ep,h1,h2,_⟩:=(show O8 X.prog X.w H s.heap a (.dT kvs) from I.hok a _ ea)
   exact PySem.W.kia_one PySem.W.kitx_dict I.kIn ⟨o,h1,h2.1⟩ e (fun z=>nomatch z) h
 | @ins a C dx fs ea cl ha hn htk hm =>
   cases (show u=Value.ref a from rx)
   obtain⟨mA,O,_⟩:=zl4 I.hok ea
   obtain⟨od,J,_⟩:=O.look
   exact PySem.W.kia_one (PySem.W.kitx_own (cl.get _) cl.hd ha hn htk hm) I.kIn J e (fun z=>nomatch z) h
end
structure qd6(k:Nat)(A:Around):Prop where
 hd:A.handled=none
 dp:A.depth+3*k+5<recursionLimit
 un:A.units+16*k+200<cLine
 gd:A.guards=some []
theorem qd6.mono{j k:Nat}(r:qd6 k A)(h:j<=k):qd6 j A:=⟨r.hd,by have:=r.dp;omega,by have:=r.un;omega,r.gd⟩
theorem qd6.deeper{k:Nat}(r:qd6 (k+1) A)(env:Env):qd6 k (A.deeper env) :=
 ⟨r.hd,by have:=r.dp;show A.depth+1+3*k+5<_;omega,by have:=r.un;show A.units+3+16*k+200<_;omega,r.gd⟩
variable{kw:List (Str×Value)}
theorem yi0:(A.under (.builtin "type.__call__" ⟨.ref C::us,kw⟩)).depth=A.depth+1:=by
 first|rfl|simp[Around.under,Code.weight,Code.isCreation,Code.isGuard,Code.isCaller,Code.frames,Code.isFrame,guardIds]
theorem yi1:(A.under (.builtin "type.__call__" ⟨.ref C::us,kw⟩)).units=A.units+1:=by
 first|rfl|simp[Around.under,Code.cUnits,Code.frames,Code.isFrame]
theorem ya2:(A.under (.builtin "type.__call__" ⟨.ref C::us,kw⟩)).guards=pushGuards [] A.guards:=by
 first|rfl|simp[Around.under,Code.guards,Code.isGuard,guardIds]
theorem qd6.make{k:Nat}(r:qd6 (k+1) A)(C:Addr)(us:List Value)(kw:List (Str×Value)):qd6 k (A.under (.builtin "type.__call__" ⟨.ref C::us,kw⟩)) :=
 ⟨r.hd,by have:=r.dp;rw[yi0];omega,by have:=r.un;rw[yi1];omega,by rw[ya2,r.gd];rfl⟩
theorem qd6.depth{k:Nat}(r:qd6 k A):A.depth<recursionLimit:=by have:=r.dp;omega
theorem qd6.units{k:Nat}(r:qd6 k A):A.units+64<cLine:=by have:=r.un;omega
theorem qd6.units0{k:Nat}(r:qd6 k A):A.units<cLine:=by have:=r.un;omega
def B0:TA:=fun _ H Q=>Q [] H
def A2(ta:TE)(tr:TA):TA:=fun σ H Q=>ta σ H fun x H1=>tr σ H1 fun xs H2=>Q (x::xs) H2
section
variable{t:TA}
theorem A3:PA X [] B0:=fun _ _ _ _ H Q I h=>Calls.spliced_nil ⟨[],H,I,.nil,h⟩
theorem A0(ha:PE X e te)(hr:PA X es t)(hs:autoParam (starEach (e::es) X.env=(false,eval e X.env)::starEach es X.env) zAr):PA X (e::es) (A2 te t):=by
 intro pos pins s σ H Q I h
 rw[hs]
 show wpAny _ _ (spliced ((false,eval e X.env)::backTo pos (starEach es X.env))) _ _ s
 refine Calls.spliced_cons (thn (ha pins s σ H _ I h) fun u s1 zq=>?_)
 obtain⟨x,H1,I1,r1,q1⟩:=zq
 exact thn (hr pos pins s1 σ H1 _ I1 q1) fun us s2 ⟨xs,H2,I2,r2,q2⟩=>⟨x::xs,H2,I2,.cons r1 r2,q2⟩
def M6(t:TA):TE:=fun σ H Q=>t σ H fun xs H1=>xs.length<=sizeLine/\∀ p,H1 p=none->Q (.ref p) (upd H1 p (.tup xs))
def Y8(t:TA):TE:=fun σ H Q=>t σ H fun xs H1=>xs.length<=sizeLine/\∀ p,H1 p=none->Q (.ref p) (upd H1 p (.lst xs))
theorem C9{x1}(h:PA X es t):PE X (.Tuple es x1 pos) (M6 t):=by
 intro pins s σ H Q I hq
 refine wpAny_Tuple_spliced (thn (h pos pins s σ H _ I hq) fun us s1 ⟨xs,H1,I1,r,z,q⟩=>⟨by rw[<-r.length];exact z,?_⟩)
 have hf:H1 s1.heap.objs.size=none:=I1.hok.fresh (Nat.le_refl _)
 refine⟨.ref s1.heap.objs.size,upd H1 s1.heap.objs.size (.tup xs),I1.laid (t':=s1.toks) (fun b u e=>Heap.get?_push_of_some _ e) (Nat.le_refl _) ?_,rfl,q _ hf⟩
 exact⟨z,us,r,⟨_,Heap.get?_push_size _ rfl,rfl,_,rfl⟩⟩
theorem N4(h:PA X es t):PE X (.List es pos) (Y8 t):=by
 intro pins s σ H Q I hq
 refine wpAny_List_spliced (thn (h pos pins s σ H _ I hq) fun us s1 ⟨xs,H1,I1,r,z,q⟩=>⟨by rw[<-r.length];exact z,?_⟩)
 have hf:H1 s1.heap.objs.size=none:=I1.hok.fresh (Nat.le_refl _)
 refine⟨.ref s1.heap.objs.size,upd H1 s1.heap.objs.size (.lst xs),I1.laid (t':=s1.toks) (fun b u e=>Heap.get?_push_of_some _ e) (Nat.le_refl _) ?_,rfl,q _ hf⟩
 exact⟨z,us,0,r,Heap.get?_push_size _ rfl⟩
end
abbrev Sp:=List V->Hp->VK->XK->Prop
abbrev CXT:=List Env->Hp->Shared->XK->Value->Shared->Prop
structure yi2(P:Program)(w:World)(K:Fg)(mg:Str->Option Value)(base:Heap)(A:Around)(outer:List Env)(s:Shared)(H:Hp):Prop where
 frames:A.frames=some outer
 mod:Mod K mg base
 bs:∀ b o,base.get? b=some o->s.heap.get? b=some o/\H b=none
 bsz:base.objs.size<=s.heap.objs.size
 funs:s.heap.FunFrames base outer
 frf:∀ b∈frs outer,H b=none
 hok:HOk P w H s.heap
 bare:AllBare s.gens
 tk:0<s.toks
def CE(outer:List Env)(P:Program)(w:World)(H:Hp)(s:Shared)(Q:VK)(u:Value)(s':Shared):Prop :=
 ∃ v H',0<s'.toks/\s'.os=s.os/\AllBare s'.gens/\Un (frs outer) [] H H' s.heap s'.heap/\HOk P w H' s'.heap/\M4 v u/\Q v H'
def CR(CX:CXT)(outer:List Env)(P:Program)(w:World)(H:Hp)(s:Shared)(Q:VK)(E:XK)(r:Result)(s':Shared):Prop :=
 match r with
 | .ok (.ret u)=>CE outer P w H s Q u s'
 | .ok _=>False
 | .error e=>CX outer H s E e s'
structure M0(P:Program)(w:World)(K:Fg)(mg:Str->Option Value)(base:Heap)(CX:CXT)(k:Nat)(f:Addr)(fd:FuncData)(ps:List Str)(sp:Sp):Prop where
 len:∀ vs H Q E,sp vs H Q E->vs.length=ps.length
 run:∀ (A:Around) (outer:List Env) (s:Shared) (H:Hp) (args:Args) (us:List Value) (vs:List V) (Q:VK) (E:XK),qd6 k A->yi2 P w K mg base A outer s H->BindsTo s fd args (ps.zip us)->J9 vs us->sp vs H Q E ->
  codeAny (model P w) A (.call (.ref f) args) (CR CX outer P w H s Q E) s
variable{base:Heap}{mg:Str->Option Value}{outer:List Env}
theorem yi2.make(e:yi2 P w K mg base A outer s H)(C:Addr)(us:List Value)(kw:List (Str×Value)) :
 yi2 P w K mg base (A.under (.builtin "type.__call__" ⟨.ref C::us,kw⟩)) outer s H:=⟨by first|exact e.frames|(simpa [Around.under,Code.envs,Code.isFrame,pushEnvs] using e.frames),e.mod,e.bs,e.bsz,e.funs,e.frf,e.hok,e.bare,e.tk⟩
theorem Inv.env0(I:Inv X pins σ H s):yi2 X.prog X.w X.K X.mg X.base X.A X.stack s H :=
 ⟨I.ok.frames,I.ok.mod,I.bs,Nat.le_trans I.ok.bsz I.sz,I.stack,I.stkFree,I.hok,I.bare,I.tk⟩
theorem Inv.after{Q:VK}(I:Inv X pins σ H s)(h:CE X.stack X.prog X.w H s Q u s'):EP X pins σ Q u s':=by
 obtain⟨v,H',ht,os,bare,un,hok,r,q⟩:=h
 obtain⟨hh,g,d,t,os'⟩:=s'
 obtain rfl:os'=s.os:=os
 exact⟨v,H',I.call (h':=hh) (g':=g) (d':=d) (t':=t) (ch:=[]) un hok bare (fun b z=>absurd z (by simp)) ht,r,q⟩
def C2(sp:Sp)(dvs:List V)(E:XK)(t:TA):TE:=fun σ H Q=>t σ H fun vs H1=>sp (vs++dvs) H1 Q E
def wf1(K:Fg)(fd:FuncData)(ps:List Str)(ds:List Value):Prop :=
 ∀ (s:Shared) (us:List Value),K.In s.heap->(us++ds).length=ps.length->BindsTo s fd ⟨us,[]⟩ (ps.zip (us++ds))
variable{fd:FuncData}{ps:List Str}
theorem wf1.all(h:∀ us:List Value,us.length=ps.length->bindArgs fd ⟨us,[]⟩=pure (ps.zip us)):wf1 K fd ps []:=fun s us _ hl=>by
 rw[List.append_nil] at hl ⊢
 exact .of_eq (h us hl)
def ww2(CX:CXT)(X:Cx)(E:XK):Prop:=∀ (pins:List (Addr×Obj)) (σ:St) (H:Hp) (s:Shared) (e:Value) (s':Shared),Inv X pins σ H s->CX X.stack H s E e s'->X.xe e s'
variable{CX:CXT}{apos:Pos}{m:Str}{sp:Sp}{vs:List V}
section
variable{k:Nat}{f:Addr}{dvs:List V}{ds:List Value}{E:XK}{p:Pos}{t:TA}
theorem zx3{Q:VK}(F:M0 X.prog X.w X.K X.mg X.base CX k f fd ps sp)(hr:qd6 k X.A)(hb:wf1 X.K fd ps ds)(hd:J9 dvs ds)(hx:ww2 CX X E)(I:Inv X pins σ H s)(r:J9 vs us)(h:sp (vs++dvs) H Q E):wpAny (model X.prog X.w) X.A (call (.ref f) us) (EP X pins σ Q) X.xe s:=by
 have r2:J9 (vs++dvs) (us++ds):=r.append hd
 have hl:(us++ds).length=ps.length:=by rw[<-r2.length];exact F.len _ _ _ _ h
 refine wpAny_call (codeAny_mono (F.run X.A X.stack s H ⟨us,[]⟩ (us++ds) (vs++dvs) Q E hr I.env0 (hb s us I.kIn hl) r2 h) fun r s' hq=>?_)
 cases r with
 | error e=>exact hx pins σ H s e s' I hq
 | ok fl =>
   cases fl with
   | ret u=>exact I.after hq
   | next=>exact False.elim hq
   | brk=>exact False.elim hq
   | cont=>exact False.elim hq
theorem zl6(F:M0 X.prog X.w X.K X.mg X.base CX k f fd ps sp)(hr:qd6 k X.A)(hg:Gl X x)(hm:X.mg x=some (.ref f))(hk:PySem.W.keepIn X.K (.ref f)=true)(hb:wf1 X.K fd ps ds)(hd:J9 dvs ds)(hx:ww2 CX X E)(ha:PA X (e::es) t)(hdb:autoParam ((x == ("__debug__":Str))=false) zAd)(he:autoParam (starEach (e::es) X.env=(false,eval e X.env)::starEach es X.env) zAr)(hpl:autoParam ((backTo pos (starEach es X.env)).any (·.1)=false) zAr) :
 PE X (.Call (.Name x p) (e::es) [] pos) (C2 sp dvs E t):=by
 intro pins s σ H Q I h
 refine wpAny_Call_Name_kw (qq4 I hg hm ?_ hdb)
 refine PySem.W.callWith_K (h₀:=X.base) I.ok.mod.kin hk (thn (ha pos pins s σ H _ I h) fun us s1 ⟨vs,H1,I1,r,q⟩=>⟨I1.kIn,?_⟩) he hpl
 exact zx3 F hr hb hd hx I1 r q
end
section
variable{k:Nat}{f:Addr}{ks:List Str}{E:XK}{p kpos:Pos}{kws:List Keyword}{t tk:TA}{nm:Option Str}
variable{g:List Value->List Value->List Value}{gV:List V->List V->List V}
end
structure D7(N P:List Str)(sc:Scope):Prop where
 kind:sc.kind=.function
 co:sc.isCoroutine=false
 gen:sc.isGenerator=false
 nd:N.Nodup
 pre:N.take P.length=P
 par:∀ x∈P,sc.names.lookup x=some .local\/sc.names.lookup x=some .cell
 nofree:∀ y∈sc.names,y.2≠.free
theorem xp5{kindOf:Str->Option NameKind}{x:Str}:∀ {binds:List (Str×Value)} {m:Str->Option Value},(∀ v,(x,v)∉binds)->bindL kindOf binds m x=m x
 | [],_,_=>rfl
 | (n,v)::r,m,h=>by
   unfold bindL
   rw[xp5 fun w hw=>h w (List.mem_cons_of_mem _ hw)]
   split
   ·have:x≠n:=by rintro rfl;exact h v List.mem_cons_self
    simp[this]
   ·rfl
theorem xp6{kindOf:Str->Option NameKind}{x:Str}:∀ {binds:List (Str×Value)} {m:Str->Option Value},(∀ v,(x,v)∉binds)->bindC kindOf binds m x=m x
 | [],_,_=>rfl
 | (n,v)::r,m,h=>by
   unfold bindC
   rw[xp6 fun w hw=>h w (List.mem_cons_of_mem _ hw)]
   split
   ·rfl
   ·have:x≠n:=by rintro rfl;exact h v List.mem_cons_self
    simp[this]
theorem xp7{kindOf:Str->Option NameKind}{x:Str}{v:Value}:∀ {P:List Str} {vs:List Value} {i:Nat} {m:Str->Option Value},P.Nodup->P[i]?=some x->vs[i]?=some v->kindOf x=some .local ->
 bindL kindOf (P.zip vs) m x=some v
 | [],_,_,_,_,h,_,_=>by simp at h
 | _::_,[],_,_,_,_,h,_=>by simp at h
 | p::P,w::vs,0,m,nd,h1,h2,hk=>by
   simp at h1 h2;subst h1;subst h2
   show bindL kindOf ((p,w)::P.zip vs) m p=_
   unfold bindL
   rw[xp5 fun v hv=>(List.nodup_cons.mp nd).1 (List.of_mem_zip hv).1,if_pos hk]
   simp
 | p::P,w::vs,i+1,m,nd,h1,h2,hk=>by
   show bindL kindOf ((p,w)::P.zip vs) m x=_
   unfold bindL
   exact xp7 (i:=i) (List.nodup_cons.mp nd).2 (by simpa using h1) (by simpa using h2) hk
theorem xp8{kindOf:Str->Option NameKind}{x:Str}{v:Value}:∀ {P:List Str} {vs:List Value} {i:Nat} {m:Str->Option Value},P.Nodup->P[i]?=some x->vs[i]?=some v->kindOf x≠some .local ->
 bindC kindOf (P.zip vs) m x=some v
 | [],_,_,_,_,h,_,_=>by simp at h
 | _::_,[],_,_,_,_,h,_=>by simp at h
 | p::P,w::vs,0,m,nd,h1,h2,hk=>by
   simp at h1 h2;subst h1;subst h2
   show bindC kindOf ((p,w)::P.zip vs) m p=_
   unfold bindC
   rw[xp6 fun v hv=>(List.nodup_cons.mp nd).1 (List.of_mem_zip hv).1,if_neg hk]
   simp
 | p::P,w::vs,i+1,m,nd,h1,h2,hk=>by
   show bindC kindOf ((p,w)::P.zip vs) m x=_
   unfold bindC
   exact xp8 (i:=i) (List.nodup_cons.mp nd).2 (by simpa using h1) (by simpa using h2) hk
def J0(N:List Str)(vs:List V):St:=vs.map some++List.replicate (N.length-vs.length) none
def wa7(CX:CXT)(P:Program)(w:World)(K:Fg)(mg:Str->Option Value)(base:Heap)(N:List Str)(qual:Str)(scope:Scope)(f:Addr)(cd:Value)(A:Around)(outer:List Env)(s:Shared)(H:Hp)(E:XK):Cx where
 prog:=P
 w:=w
 K:=K
 mg:=mg
 base:=base
 A:=A.deeper (envOfC qual scope s.heap.objs.size f cd)
 N:=N
 s₀:=s
 H₀:=H
 env:=envOfC qual scope s.heap.objs.size f cd
 outer:=outer
 stack:=envOfC qual scope s.heap.objs.size f cd::outer
 ex:=[]
 calm:=true
 fn:=fun _=>true
 pn:=[]
 xe:=fun e s'=>wpAny (model P w) (A.deeper (envOfC qual scope s.heap.objs.size f cd)) (leaving (envOfC qual scope s.heap.objs.size f cd) e) (fun _ s''=>CX outer H s E e s'') (fun e' s''=>CX outer H s E e' s'') s'
theorem ya3{sc:Scope}(h:sc.names.lookup x=some .cell):∃ c,(cellsFrom n sc.names []).lookup x=some c:=by
 have q:=PySem.W.cellsFrom_some sc.names n [] (.inl h)
 exact Option.isSome_iff_exists.mp q
variable{cd:Value}{qual:Str}{scope:Scope}
theorem yv3{f:Addr}{s1:Shared}{E:XK}(S:D7 N ps scope)(hd:A.handled=none)(e0:yi2 P w K mg base A outer s H)(hl:vs.length=ps.length)(r:J9 vs us)(x:InCallC s s.heap.objs.size (bindL (envOfC qual scope s.heap.objs.size f cd).kindOf (ps.zip us) fun _=>none) (cellsFrom (s.heap.objs.size+1) scope.names []) (bindC (envOfC qual scope s.heap.objs.size f cd).kindOf (ps.zip us) fun _=>none) s1)(ht:0<s1.toks) :
 Inv (wa7 CX P w K mg base N qual scope f cd A outer s H E) [] (J0 N vs) H s1:=by
 have hpl:ps.length<=N.length:=by have:=congrArg List.length S.pre;rw[List.length_take] at this;omega
 obtain⟨h1,tk,rfl,hk⟩:=x.done
 have noA:∀ b:Addr,b∉(wa7 CX P w K mg base N qual scope f cd A outer s H E).ex:=fun b z=>absurd (show b∈([]:List Addr) from z) (by simp)
 refine⟨⟨e0.mod,S.kind,rfl,rfl,Nat.le_refl _,fun y z c h1 h2=>?_,fun y hy=>?_,fun y c _ h=>?_,fun _=>hd,Around.frames_deeper e0.frames,.inr ⟨rfl,rfl⟩,fun b z=>absurd z (noA b),e0.bs,e0.bsz,fun b _ _=>noA b,fun b z=>absurd z (noA b),e0.funs,e0.frf⟩,
  rfl,e0.bare,Un.kept hk,⟨_,x.toInCall.ns,fun i y v h1 h2 h3=>?_⟩,fun y c h=>⟨_,x.cell y c h⟩,e0.hok.fresh (Nat.le_refl _),fun y c h=>?_,fun p hp=>absurd (show p∈([]:List (Addr×Obj)) from hp) (by simp),e0.hok.kept hk,?_,ht⟩
 ·exact name_of_addr x.apart (PySem.mem_of_lookup h1) (PySem.mem_of_lookup h2)
 ·have hy:scope.names.lookup y=some .cell\/scope.names.lookup y=some .free:=hy
  rcases hy with hy|hy
  ·exact ya3 hy
  ·exact absurd rfl (S.nofree _ (PySem.mem_of_lookup hy))
 ·exact Nat.le_of_lt (x.above y c (PySem.mem_of_lookup h))
 ·have hi:i<vs.length:=by
   unfold J0 at h2
   by_cases hi:i<vs.length
   ·exact hi
   ·rw[List.getElem?_append_right (by simpa using hi)] at h2
    rw[List.getElem?_replicate] at h2
    split at h2 <;> cases h2
  have ha:vs[i]?=some v:=by
   unfold J0 at h2
   rw[List.getElem?_append_left (by simpa using hi),List.getElem?_map] at h2
   cases e:vs[i]? with
   | none=>rw[e] at h2;cases h2
   | some a=>rw[e] at h2;cases h2;rfl
  obtain⟨u,hu,rv⟩:=r.get ha
  have hp:ps[i]?=some y:=by
   rw[<-S.pre,List.getElem?_take_of_lt (by omega)];exact h1
  have ndP:ps.Nodup:=by rw[<-S.pre];exact S.nd.sublist (List.take_sublist _ _)
  refine⟨u,rv,?_⟩
  rcases S.par y (List.mem_of_getElem? hp) with k|k
  ·exact .inl ⟨k,xp7 ndP hp hu k⟩
  ·obtain⟨c,e⟩:=ya3 (n:=s.heap.objs.size+1) k
   refine .inr ⟨.inl k,c,e,?_⟩
   have q:=x.cell y c e
   rw[xp8 ndP hp hu (by show scope.names.lookup y≠_;rw[k];decide)] at q
   exact q
 ·exact e0.hok.fresh (Nat.le_of_lt (x.above y c (PySem.mem_of_lookup h)))
 ·unfold J0
  show _=N.length
  rw[List.length_append,List.length_map,List.length_replicate]
  omega
variable{an od:Option Addr}{cdv ct doc oc pm:Value}{name:Str}{osl:Array (Option Value)}
theorem zt4{k:Nat}{f:Addr}{params:Arguments}{dV kV:Value}(lk:K.lookup f=some ⟨oc,od,.func (PySem.W.fnOf name qual params body scope dV kV doc pm an cdv ct),osl⟩)(hcd:PySem.W.codeIn K cdv qual=true)(S:D7 N ps scope)(len:∀ vs H Q E,sp vs H Q E->vs.length=ps.length) (hbody:∀ (A:Around) (outer:List Env) (s:Shared) (H:Hp) (vs:List V) (Q:VK) (E:XK),qd6 k (A.deeper (envOfC qual scope s.heap.objs.size f cdv))->sp vs H Q E ->
  ∃ t,PSs (wa7 CX P w K mg base N qual scope f cdv A outer s H E) body t/\t {nx:=fun _ H'=>Q .non H',rt:=Q} (J0 N vs) H) :
 M0 P w K mg base CX (k+1) f (PySem.W.fnOf name qual params body scope dV kV doc pm an cdv ct) ps sp:=by
 refine⟨len,fun A outer s H args us vs Q E hr e0 hb r hsp=>?_⟩
 have hl:=len _ _ _ _ hsp
 have KX:K.In s.heap:=e0.mod.kin.keeps fun b o e=>(e0.bs b o e).1
 have lim:s.heap.NoLimit:=e0.mod.nolimit.keeps fun b o e=>(e0.bs b o e).1
 have hkind:∀ y∈ps.zip us,scope.names.lookup y.1=some .local\/(scope.names.lookup y.1=some .cell/\((cellsFrom (s.heap.objs.size+1) scope.names []).lookup y.1).isSome=true):=fun⟨n,v⟩ hy=>by
  rcases S.par n (List.of_mem_zip hy).1 with q|q
  ·exact .inl q
  ·exact .inr ⟨q,PySem.W.cellsFrom_some _ _ _ (.inl q)⟩
 refine codeAny_call_function hr.depth (KX _ _ lk) rfl S.co S.gen rfl (PySem.W.codeRec_of KX hcd) (hb _ _ _ _ ?_)
 refine wpAny_with_toks (n:=1) e0.tk (wpAny_newFunctionEnv_cells S.kind hkind fun env he s1 x htk=>?_)
 subst he
 refine⟨lim.keeps x.toInCall.keep,codeAny_func ?_⟩
 obtain⟨t,ht,hq⟩:=hbody A outer s H vs Q E (hr.deeper _) hsp
 have I:Inv (wa7 CX P w K mg base N qual scope f cdv A outer s H E) [] (J0 N vs) H s1:=yv3 S hr.hd e0 hl r x htk
 refine wpAny_mono (ht [] s1 (J0 N vs) H _ I hq) (fun fl s' hs=>?_) fun e s' hs=>hs
 have fin:∀ {σ':St} {H':Hp} {v:V} {u:Value},Inv (wa7 CX P w K mg base N qual scope f cdv A outer s H E) [] σ' H' s'->M4 v u->Q v H'->CE outer P w H s Q u s' :=
  fun{σ' H' v u} J rv q=>⟨v,H',J.tk,J.os,J.bare,J.base,J.hok,rv,q⟩
 cases fl with
 | ret u =>
   obtain⟨v,σ',H',J,rv,q⟩:=hs
   exact fin J rv q
 | next =>
   obtain⟨σ',H',J,q⟩:=hs
   exact fin (v:=V.non) (u:=Value.none) J rfl q
 | brk =>
   obtain⟨_,_,_,q⟩:=hs
   exact False.elim q
 | cont =>
   obtain⟨_,_,_,q⟩:=hs
   exact False.elim q
variable{T:String}
section
variable{p:Pos}{t:TA}{id:String}{r:List V->Hp->VK->Prop}
def tCB(r:List V->Hp->VK->Prop)(t:TA):TE:=fun σ H Q=>t σ H fun vs H1=>r vs H1 Q
theorem C7(hc:V3 X (.builtin id) r)(hg:Gl X x)(hm:X.mg x=none)(hv:bootBuiltins x=some (.builtin id))(ha:PA X (e::es) t)(hn:autoParam (x ≠ "__name__") zAd)(hdb:autoParam ((x == ("__debug__":Str))=false) zAd)(he:autoParam (starEach (e::es) X.env=(false,eval e X.env)::starEach es X.env) zAr)(hpl:autoParam ((backTo pos (starEach es X.env)).any (·.1)=false) zAr):PE X (.Call (.Name x p) (e::es) [] pos) (tCB r t):=by
 intro pins s σ H Q I h
 refine wpAny_Call_Name_kw (qv3 I hg hm hv ?_ hn hdb)
 exact PyProof.Rows.callWith_builtin1 (thn (ha pos pins s σ H _ I h) fun us s1 ⟨vs,H1,I1,r1,q1⟩=>hc pins s1 σ H1 vs us Q I1 r1 q1) he hpl
theorem M8(hc:V3 X (.type T) r)(hg:Gl X x)(hm:X.mg x=none)(hv:bootBuiltins x=some (.type T))(ha:PA X (e::es) t)(hn:autoParam (x ≠ "__name__") zAd)(hdb:autoParam ((x == ("__debug__":Str))=false) zAd)(he:autoParam (starEach (e::es) X.env=(false,eval e X.env)::starEach es X.env) zAr)(hpl:autoParam ((backTo pos (starEach es X.env)).any (·.1)=false) zAr):PE X (.Call (.Name x p) (e::es) [] pos) (tCB r t):=by
 intro pins s σ H Q I h
 refine wpAny_Call_Name_kw (qv3 I hg hm hv ?_ hn hdb)
 exact PyProof.Rows.callWith_type1 (thn (ha pos pins s σ H _ I h) fun us s1 ⟨vs,H1,I1,r1,q1⟩=>hc pins s1 σ H1 vs us Q I1 r1 q1) he hpl
end
namespace HT
open PySem PyProof.Rows
section
open PySem.SeqAt
open PySem.AutoSeq1 (wpAny_loadPart')
open PySem.MeetsSeq PySem.MeetsSeq2 PySem.MeetsSeq3
end
section
variable{prog:Program}{w:World}{A:Around}{E:Value->Shared->Prop}{s:Shared}
theorem zl7{t b:Addr}{vs ws:List Value}{Q:Value->Shared->Prop}(ht:IsTup s.heap t vs.toArray)(hb:IsTup s.heap b ws.toArray)(hv:vs≠[])
 (h1:ws=[]->Q (.ref t) s) (h2:ws≠[]->Q (.ref s.heap.objs.size) {s with heap:=s.heap.push {cls:=.type "tuple",data:=.seq (vs++ws).toArray}})
 (hsz:vs.length+ws.length<=sizeLine):wpAny (model prog w) A (binaryOp .Add (.ref t) (.ref b)) Q E s:=by
 obtain⟨⟨cls,dd,data,sl⟩,ho,hc,n,hd⟩:=id ht
 obtain⟨⟨cls2,dd2,data2,sl2⟩,ho2,hc2,n2,hd2⟩:=id hb
 simp only at hc hd hc2 hd2
 subst hc hd hc2 hd2
 have e:vs.toArray++ws.toArray=(vs++ws).toArray:=by simp
 by_cases hw:ws=[]
 ·exact concat_meets ⟨_,ho,rfl⟩ ⟨_,ho2,rfl⟩ noFill_tuple_add seq_tuple_add PySem.F.slot_tuple_add PySem.F.entry_tuple_add (PySem.F.args_tuple_add_2 _ _)
   (tuple_addW1 t b vs.toArray ws.toArray n n2 dd dd2 sl sl2 (by simpa using hv) (by simp[hw])) ⟨ho,ho2,h1 hw⟩
 ·refine concat_meets ⟨_,ho,rfl⟩ ⟨_,ho2,rfl⟩ noFill_tuple_add seq_tuple_add PySem.F.slot_tuple_add PySem.F.entry_tuple_add (PySem.F.args_tuple_add_2 _ _)
   (tuple_addW2 t b vs.toArray ws.toArray n n2 dd dd2 sl sl2 (by simpa using hv) (by simpa using hw) (by rw[List.size_toArray,List.size_toArray];exact hsz)) ⟨ho,ho2,?_⟩
  rw[e]
  exact h2 hw
def sIx(n d:Nat):Option Int->Nat
 | none=>d
 | some v=>if v<0 then(v+(n:Int)).toNat else min v.toNat n
theorem xs7(n d k:Nat):sIx n d (some (k:Int))=min k n:=by
 show(if(k:Int)<0 then((k:Int)+(n:Int)).toNat else min (k:Int).toNat n)=min k n
 rw[if_neg (by omega),Int.toNat_natCast]
theorem yi3(n d:Nat)(hd:d<=n)(o:Option Int):sIx n d o<=n:=by
 cases o with
 | none=>exact hd
 | some v =>
   show(if v<0 then(v+(n:Int)).toNat else min v.toNat n)<=n
   by_cases hv:v<0
   ·rw[if_pos hv];omega
   ·rw[if_neg hv];exact Nat.min_le_right _ _
theorem yo9(v:Int)(n d:Nat):(if v<0 then max (v+(n:Int)) 0 else min v (n:Int))=((sIx n d (some v):Nat):Int):=by
 show(if v<0 then max (v+(n:Int)) 0 else min v (n:Int))=(((if v<0 then(v+(n:Int)).toNat else min v.toNat n):Nat):Int)
 by_cases hv:v<0
 ·simp only[if_pos hv];omega
 ·simp only[if_neg hv];omega
theorem yi4(lo hi:Option Int)(n:Nat):Builtin.Slice.sliceAdjust lo hi 1 (n:Int)=(((sIx n 0 lo:Nat):Int),((sIx n n hi:Nat):Int)):=by
 have h1:¬((1:Int)<0):=by omega
 unfold Builtin.Slice.sliceAdjust
 simp only[h1,if_false]
 refine Prod.ext ?_ ?_
 ·cases lo with
  | none=>rfl
  | some v=>exact yo9 v n 0
 ·cases hi with
  | none=>rfl
  | some v=>exact yo9 v n n
theorem yi5(i j:Nat):Builtin.Slice.slicePlaces (i:Int) (j:Int) 1=j-i:=by
 unfold Builtin.Slice.slicePlaces
 have h1:(1:Int) > 0:=by omega
 simp only[h1,if_true,Int.ediv_one]
 split <;> omega
theorem ww3{v:Value}{o:Option Int}{Q:Option Int->Shared->Prop}(p:IsPart v o)(h:Q o s):wpAny (model prog w) A (Builtin.Slice.slicePartIndex v) Q E s:=by
 cases p with
 | none=>exact slicePart_none h
 | int i t=>exact slicePart_int h
theorem qp1{sl:Addr}{vl vu:Value}{lo hi:Option Int}{n:Nat}{Q:Int×Int×Nat->Shared->Prop}(hs:s.heap.IsSliceOf sl vl vu .none)(pl:IsPart vl lo)(pu:IsPart vu hi)
 (h:Q (((sIx n 0 lo:Nat):Int),1,sIx n n hi-sIx n 0 lo) s):wpAny (model prog w) A (Builtin.Slice.sliceApplied (.ref sl) (pure (n:Int))) Q E s:=by
 obtain⟨os,hos,hcs,hds⟩:=id hs
 unfold Builtin.Slice.sliceApplied Builtin.Slice.sliceFields
 refine wpAny_bind (wpAny_bind (wpAny_field hos hds (x:=vl) rfl (wpAny_bind (wpAny_field hos hds (x:=vu) rfl (wpAny_bind (wpAny_field hos hds (x:=.none) rfl (wpAny_pure ?_)))))))
 refine wpAny_bind (slicePart_none ?_)
 show wpAny _ _ (if((1:Int) == 0)=true then _ else _) _ _ s
 rw[if_neg (by decide)]
 refine wpAny_bind (ww3 pl (wpAny_bind (ww3 pu (wpAny_bind (wpAny_pure ?_)))))
 show wpAny _ _ (match Builtin.Slice.sliceAdjust lo hi 1 (n:Int) with|(lo,hi)=>pure (lo,(1:Int),Builtin.Slice.slicePlaces lo hi 1)) _ _ s
 rw[yi4 lo hi n]
 show wpAny _ _ (pure (((sIx n 0 lo:Nat):Int),(1:Int),Builtin.Slice.slicePlaces ((sIx n 0 lo:Nat):Int) ((sIx n n hi:Nat):Int) 1)) _ _ s
 rw[yi5]
 exact wpAny_pure h
theorem za1(xs:Array Value)(i k:Nat):((List.range k).filterMap fun(m:Nat)=>xs[((i:Int)+(m:Int)*1).toNat]?).toArray=((xs.toList.drop i).take k).toArray:=by
 have e:(fun(m:Nat)=>xs[((i:Int)+(m:Int)*1).toNat]?)=fun m=>xs[i+m]?:=by
  funext m
  have:((i:Int)+(m:Int)*1).toNat=i+m:=by omega
  rw[this]
 rw[e]
 have:=pick_run xs i k
 rw[List.filterMap_map] at this
 have e2:((fun x=>xs[x]?)∘fun x=>i+x)=fun m=>xs[i+m]?:=rfl
 rw[e2] at this
 rw[this]
theorem wf2{t sl:Addr}{items:Array Value}{vl vu:Value}{lo hi:Option Int}{Q:Value->Shared->Prop}(ht:IsTup s.heap t items)(hs:s.heap.IsSliceOf sl vl vu .none)(pl:IsPart vl lo)(pu:IsPart vu hi)
 (hw:¬(sIx items.size 0 lo=0/\sIx items.size items.size hi=items.size))
 (h:Q (.ref s.heap.objs.size) {s with heap:=s.heap.push {cls:=.type "tuple",data:=.seq ((items.toList.drop (sIx items.size 0 lo)).take (sIx items.size items.size hi-sIx items.size 0 lo)).toArray}})
 (hsz:items.size<=sizeLine):wpAny (model prog w) A (getItem (.ref t) (.ref sl)) Q E s:=by
 have htake:sizeOk (.seq ((items.toList.drop (sIx items.size 0 lo)).take (sIx items.size items.size hi-sIx items.size 0 lo)).toArray):=by
  show((items.toList.drop (sIx items.size 0 lo)).take (sIx items.size items.size hi-sIx items.size 0 lo)).toArray.size<=sizeLine
  rw[List.size_toArray,List.length_take,List.length_drop,Array.length_toList]
  omega
 have hj:sIx items.size items.size hi<=items.size:=yi3 _ _ (Nat.le_refl _) hi
 obtain⟨os,hos,hcs,hds⟩:=id hs
 have hTs:s.TypeIs (.ref sl) "slice":=⟨os,hos,hcs⟩
 unfold getItem
 try with_reducible refine wpAny_holding ?_
 first|refine wpAny_bind (wpAny_pure ?_)|skip
 refine wpAny_bind (wpAny_sequenceKey ht.typeIs (by decide) ?_)
 refine wpAny_bind (wpAny_callSpecial?_slot (name:=Str.ofString "__getitem__") ht.typeIs PyProof.Rows.slot_tuple_getitem
  (wpAny_call_entry PyProof.Rows.slot_tuple_getitem ht.typeIs entry_tuple_getitem ?_ (args_tuple_getitem _ _)))
 show wpAny _ _ (Builtin.Tuple.tupleItemsOf (.ref t) >>= _) _ _ s
 refine wpAny_bind (tupleItemsOf_ ht ?_)
 refine wpAny_bind (wpAny_typeOf hTs ?_)
 rw[if_pos (by decide)]
 refine wpAny_bind (qp1 hs pl pu ?_)
 have hno:¬((((sIx items.size 0 lo:Nat):Int) == 0 && (1:Int) == 1 && (sIx items.size items.size hi-sIx items.size 0 lo) == items.size)=true):=by
  intro q
  rw[Bool.and_eq_true,Bool.and_eq_true] at q
  have q1:((sIx items.size 0 lo:Nat):Int)=0:=eq_of_beq q.1.1
  have q2:sIx items.size items.size hi-sIx items.size 0 lo=items.size:=eq_of_beq q.2
  exact hw ⟨by omega,by omega⟩
 show wpAny _ _ (if(((sIx items.size 0 lo:Nat):Int) == 0 && (1:Int) == 1 && (sIx items.size items.size hi-sIx items.size 0 lo) == items.size)=true then _ else _) _ _ s
 rw[if_neg hno,za1]
 first
  | exact wpAny_bind (m:=Builtin.Tuple.tupleExact _) (wpAny_newObj_type (wpAny_pure ⟨_,rfl,wpAny_pure h⟩) htake)
  | exact wpAny_bind (m:=Builtin.Tuple.tupleExact _) (wpAny_newObj_type (wpAny_bind (wpAny_pure (wpAny_pure ⟨_,rfl,wpAny_pure h⟩))) htake)
  | exact wpAny_bind (wpAny_bind (m:=Builtin.Tuple.tupleExact _) (wpAny_newObj_type (wpAny_pure (wpAny_pure ⟨_,rfl,wpAny_pure h⟩)) htake))
  | exact wpAny_bind (wpAny_bind (m:=Builtin.Tuple.tupleExact _) (wpAny_newObj_type (wpAny_pure ⟨_,rfl,wpAny_pure h⟩) htake))
end
end HT
abbrev TO:=St->Hp->(Option Int->Hp->Prop)->Prop
def PO(X:Cx)(e:Option Expr)(t:TO):Prop :=
 ∀ (pins:List (Addr×Obj)) (s:Shared) (σ:St) (H:Hp) (Q:Option Int->Hp->Prop),Inv X pins σ H s->t σ H Q ->
  wpAny (model X.prog X.w) X.A (evalPart e X.env) (fun u s'=>∃ o H',Inv X pins σ H' s'/\IsPart u o/\Q o H') X.xe s
def Q1:TO:=fun _ H Q=>Q none H
def Z1(t:TE):TO:=fun σ H Q=>t σ H fun x H1=>∃ i,x=.int i/\Q (some i) H1
variable{p2:Pos}{th:TO}{r:V->Option Int->Option Int->Hp->VK->Prop}
section
variable{lo hi:Option Expr}{tl:TO}
theorem P0:PO X none Q1:=by
 intro pins s σ H Q I h
 rw[evalPart_none]
 exact wpAny_pure ⟨none,H,I,.none,h⟩
theorem O5(h:PE X e te):PO X (some e) (Z1 te):=by
 intro pins s σ H Q I hw
 rw[evalPart_some]
 refine thn (h pins s σ H _ I hw) fun u s1 zq=>?_
 obtain⟨x,H1,I1,r1,q1⟩:=zq
 obtain⟨i,rfl,q⟩:=q1
 obtain⟨t,rfl⟩:=r1
 exact⟨some i,H1,I1,.int i t,q⟩
def SlR(X:Cx)(r:V->Option Int->Option Int->Hp->VK->Prop):Prop :=
 ∀ (pins:List (Addr×Obj)) (s:Shared) (σ:St) (H:Hp) (x:V) (v vl vu:Value) (lo hi:Option Int) (sl:Addr) (Q:VK),Inv X pins σ H s->M4 x v->s.heap.IsSliceOf sl vl vu .none->IsPart vl lo->IsPart vu hi->r x lo hi H Q ->
  ∃ T id,typeLookup (.type T) "__getitem__"=pure (some (.builtin id))/\s.TypeIs v T/\wpAny (model X.prog X.w) X.A (getItem v (.ref sl)) (EP X pins σ Q) X.xe s
theorem SlR.or{r':V->Option Int->Option Int->Hp->VK->Prop}(h:SlR X r)(h':SlR X r'):SlR X (fun x lo hi H Q=>r x lo hi H Q\/r' x lo hi H Q):=by
 intro pins s σ H x v vl vu lo hi sl Q I rx hs pl pu q
 rcases q with q|q
 ·exact h pins s σ H x v vl vu lo hi sl Q I rx hs pl pu q
 ·exact h' pins s σ H x v vl vu lo hi sl Q I rx hs pl pu q
def tSl(r:V->Option Int->Option Int->Hp->VK->Prop)(te:TE)(tl th:TO):TE:=fun σ H Q=>te σ H fun x H1=>tl σ H1 fun l H2=>th σ H2 fun u H3=>r x l u H3 Q
theorem N5(hr:SlR X r)(he:PE X e te)(hl:PO X lo tl)(hu:PO X hi th):PE X (.Subscript e (.Slice lo hi none p2) pos) (tSl r te tl th):=by
 intro pins s σ H Q I h
 refine Subscript_ (thn (he pins s σ H _ I h) fun v s1 zq=>?_)
 obtain⟨x,H1,I1,r1,q1⟩:=zq
 refine wpAny_Slice (thn (hl pins s1 σ H1 _ I1 q1) fun vl s2 ⟨l,H2,I2,pl,q2⟩=>thn (hu pins s2 σ H2 _ I2 q2) fun vu s3 zq=>?_)
 obtain⟨u,H3,I3,pu,q3⟩:=zq
 rw[evalPart_none]
 refine wpAny_pure ?_
 have I4:Inv X pins σ H3 {s3 with heap:=s3.heap.push {cls:=.type "slice",data:=.fields #[vl,vu,.none]}}:=I3.kept (t':=s3.toks) fun b ob q=>Heap.get?_push_of_some _ q
 obtain⟨T,id,hT,ht,hg⟩:=hr pins {s3 with heap:=s3.heap.push {cls:=.type "slice",data:=.fields #[vl,vu,.none]}} σ H3 x v vl vu l u s3.heap.objs.size Q I4 r1 (Heap.IsSliceOf.new ..) pl pu q3
 show wpAny (model X.prog X.w) X.A (subscriptTail e (.Slice lo hi none p2) v (.ref s3.heap.objs.size)) (EP X pins σ Q) X.xe {s3 with heap:=s3.heap.push {cls:=.type "slice",data:=.fields #[vl,vu,.none]}}
 exact tail_any (ops:=[.ref s3.heap.objs.size,v]) ht hT hg (by with_unfolding_all rfl)
def qg7(xs:List V)(lo hi:Option Int):List V:=(xs.drop (HT.sIx xs.length 0 lo)).take (HT.sIx xs.length xs.length hi-HT.sIx xs.length 0 lo)
theorem wp2(xs:List V)(lo hi:Option Int):(qg7 xs lo hi).length<=xs.length:=by
 unfold qg7
 rw[List.length_take,List.length_drop]
 omega
def Af8(K:Fg):V->Option Int->Option Int->Hp->VK->Prop:=fun x lo hi H Q=>∃ a xs,x=.ref a/\SqT K H a xs /\
 ¬(HT.sIx xs.length 0 lo=0/\HT.sIx xs.length xs.length hi=xs.length)/\∀ p,H p=none->Q (.ref p) (upd H p (.tup (qg7 xs lo hi)))
theorem zx4:SlR X (Af8 X.K):=by
 intro pins s σ H x v vl vu lo hi sl Q I rx hs pl pu h
 obtain⟨a,xs,rfl,hx,hw,q⟩:=h
 cases rx
 obtain⟨its,r,ht,hz⟩:=I.tuple hx
 have hlen:its.toArray.size=xs.length:=by rw[List.size_toArray];exact r.length.symm
 refine⟨"tuple",_,PyProof.Rows.slot_tuple_getitem.lookup,ht.typeIs,?_⟩
 refine HT.wf2 ht hs pl pu (by rw[hlen];exact hw) ?_ (by rw[hlen];exact hz)
 rw[hlen]
 refine⟨.ref s.heap.objs.size,_,I.laid (t':=s.toks) (o:=.tup (qg7 xs lo hi)) (fun b ob q=>Heap.get?_push_of_some _ q) (Nat.le_refl _) ?_,rfl,q _ (I.hok.fresh (Nat.le_refl _))⟩
 exact⟨Nat.le_trans (wp2 xs lo hi) hz,_,(r.drop (HT.sIx xs.length 0 lo)).take (HT.sIx xs.length xs.length hi-HT.sIx xs.length 0 lo),IsTup.new _ _⟩
def zt5(K:Fg):R2:=fun x y H Q=>∃ a b xs ys,x=.ref a/\y=.ref b/\SqT K H a xs/\SqT K H b ys/\xs≠[]/\xs.length+ys.length<=sizeLine /\
 (ys=[]->Q (.ref a) H)/\(ys≠[]->∀ p,H p=none->Q (.ref p) (upd H p (.tup (xs++ys))))
theorem J9.nil_iff(r:J9 xs us):us=[]↔xs=[]:=by
 cases r with
 | nil=>simp
 | cons _ _=>simp
theorem zl8:OpR X (binaryOp .Add) (zt5 X.K):=by
 intro pins s σ H x y v u Q I rx ry h
 obtain⟨a,b,xs,ys,rfl,rfl,ha,hb,hx,hz,q1,q2⟩:=h
 cases rx
 cases ry
 obtain⟨its,r1,p1,_⟩:=I.tuple ha
 obtain⟨its2,r2,p2,_⟩:=I.tuple hb
 refine HT.zl7 p1 p2 (fun z=>hx (r1.nil_iff.mp z)) (fun z=>⟨.ref a,H,I,rfl,q1 (r2.nil_iff.mp z)⟩) (fun z=>?_) (by rw[<-r1.length,<-r2.length];exact hz)
 refine⟨.ref s.heap.objs.size,_,I.laid (t':=s.toks) (o:=.tup (xs++ys)) (fun b ob q=>Heap.get?_push_of_some _ q) (Nat.le_refl _) ?_,rfl,q2 (fun w=>z (r2.nil_iff.mpr w)) _ (I.hok.fresh (Nat.le_refl _))⟩
 exact⟨by rw[List.length_append];exact hz,_,r1.append r2,IsTup.new _ _⟩
end
def ixN(n:Nat)(i:Int):Option Nat:=if 0<=i then(if i<n then some i.toNat else none) else if -(n:Int)<=i then some (i+n).toNat else none
def atI{α:Type}(xs:List α)(i:Int):Option α:=(ixN xs.length i).bind fun j=>xs[j]?
theorem yp0{j:Nat}(h:ixN n i=some j):seqIndex? i n=some j/\j<n/\-(n:Int)<=i/\i<n:=by
 unfold ixN at h
 by_cases h0:0<=i
 ·rw[if_pos h0] at h
  by_cases h1:i<n
  ·rw[if_pos h1] at h
   have e:i.toNat=j:=Option.some.inj h
   exact⟨by rw[seqIndex_of h0 h1,e],by omega,by omega,h1⟩
  ·rw[if_neg h1] at h;cases h
 ·rw[if_neg h0] at h
  by_cases h1:-(n:Int)<=i
  ·rw[if_pos h1] at h
   have e:(i+n).toNat=j:=Option.some.inj h
   exact⟨by rw[seqIndex_neg (by omega) h1,e],by omega,h1,by omega⟩
  ·rw[if_neg h1] at h;cases h
theorem xs8{xs:List α}{v:α}(h:atI xs i=some v):∃ j,seqIndex? i xs.length=some j/\xs[j]?=some v/\j<xs.length/\-(xs.length:Int)<=i/\i<xs.length:=by
 unfold atI at h
 cases e:ixN xs.length i with
 | none=>rw[e] at h;cases h
 | some j =>
   rw[e] at h
   obtain⟨h1,h2,h3,h4⟩:=yp0 e
   exact⟨j,h1,h,h2,h3,h4⟩
theorem D8{xs:List α}{j:Nat}{v:α}(h:xs[j]?=some v):atI xs (j:Int)=some v:=by
 have hj:j<xs.length:=(List.getElem?_eq_some_iff.mp h).1
 have e:ixN xs.length (j:Int)=some j:=by
  unfold ixN
  rw[if_pos (by omega),if_pos (by omega)];simp
 unfold atI;rw[e];exact h
theorem U5(xs:List α)(v:α):atI (xs++[v]) (-1)=some v:=by
 have hl:(xs++[v]).length=xs.length+1:=by simp
 have e:ixN (xs++[v]).length (-1)=some xs.length:=by
  unfold ixN
  rw[hl,if_neg (by decide),if_pos (by omega)]
  congr 1
  omega
 unfold atI
 rw[e]
 show(xs++[v])[xs.length]?=some v
 simp
def zl9(b:Expr):Prop:=∀ o i,subscripted b false o i=operate [o,i] (getItem o i)
def IxR(X:Cx)(r:R2):Prop :=
 ∀ (value slice:Expr) (pins:List (Addr×Obj)) (s:Shared) (σ:St) (H:Hp) (x y:V) (v u:Value) (Q:VK),Inv X pins σ H s->M4 x v->M4 y u->r x y H Q ->
  subscripted slice false v u=operate [v,u] (getItem v u)->wpAny (model X.prog X.w) X.A (subscriptTail value slice v u) (EP X pins σ Q) X.xe s
def MtR(X:Cx)(id:String)(r:V->List V->Hp->VK->Prop):Prop :=
 ∀ (pins:List (Addr×Obj)) (s:Shared) (σ:St) (H:Hp) (x:V) (xs:List V) (v:Value) (us:List Value) (Q:VK),Inv X pins σ H s->M4 x v->J9 xs us->r x xs H Q ->
  wpAny (model X.prog X.w) X.A (call (.builtin id) (v::us)) (EP X pins σ Q) X.xe s
variable{its':List Value}{p:Addr}{cpos:Pos}
section
variable{a b:Expr}{tb:TE}
theorem IxR.or{r r':R2}(h:IxR X r)(h':IxR X r'):IxR X (fun x y H Q=>r x y H Q\/r' x y H Q):=by
 intro value slice pins s σ H x y v u Q I rx ry q hs
 rcases q with q|q
 ·exact h value slice pins s σ H x y v u Q I rx ry q hs
 ·exact h' value slice pins s σ H x y v u Q I rx ry q hs
theorem C5{r:R2}(hr:IxR X r)(ha:PE X a ta)(hb:PE X b tb)(hs:zl9 b):PE X (.Subscript a b pos) (tOp r ta tb):=by
 intro pins s σ H Q I h
 exact Subscript_ (zw5 ha hb I h fun v u s2 x y H2 I2 rx ry q=>hr a b pins s2 σ H2 x y v u Q I2 rx ry q (hs _ _))
def Af9(K:Fg):R2:=fun x y H Q=>∃ p xs i v,x=.ref p/\y=.int i/\SqL K H p xs/\atI xs i=some v/\Q v H
def Ag0(K:Fg):R2:=fun x y H Q=>∃ p xs i v,x=.ref p/\y=.int i/\SqT K H p xs/\atI xs i=some v/\Q v H
def Ag1:R2:=fun x y H Q=>∃ z i c,x=.str z/\y=.int i/\z.length<=sizeLine/\atI z.cps.toList i=some c/\Q (.str ⟨#[c]⟩) H
theorem zm0:IxR X (Af9 X.K):=by
 intro value slice pins s σ H x y v u Q I rx ry h hs
 obtain⟨p,xs,i,z,rfl,rfl,hq,he,q⟩:=h
 cases rx
 obtain⟨t,rfl⟩:=ry
 obtain⟨its,r,pl,hz⟩:=I.list hq
 obtain⟨j,h1,h2,h3,h4,h5⟩:=xs8 he
 obtain⟨w,ew,rw'⟩:=r.get h2
 have hl:=r.length
 have hn:=wd1
 have fin:EP X pins σ Q w s:=⟨z,H,I,rw',q⟩
 by_cases h0:0<=i
 ·have hj:i.toNat=j:=by
   rw[seqIndex_of h0 h5] at h1
   exact Option.some.inj h1
  exact item_listR pl.isList h0 (by omega) (by rw[hj];simpa using ew) fin hs
 ·have hj:(i+(its.toArray.size:Int)).toNat=j:=by
   rw[seqIndex_neg (by omega) h4] at h1
   rw[List.size_toArray,<-hl]
   exact Option.some.inj h1
  exact subscriptTail_builtinR (x:=w) pl.isList.typeIs slot_list_getitem.lookup
   (wpAny_getItem_list_neg (Q:=fun r s'=>r=w/\EP X pins σ Q r s') pl.isList (by omega) (by rw[List.size_toArray] <;> omega) (by omega) (by rw[hj];simpa using ew) ⟨rfl,fin⟩) hs
theorem zx5:IxR X (Ag0 X.K):=by
 intro value slice pins s σ H x y v u Q I rx ry h hs
 obtain⟨p,xs,i,z,rfl,rfl,hq,he,q⟩:=h
 cases rx
 obtain⟨t,rfl⟩:=ry
 obtain⟨its,r,pl,hz⟩:=I.tuple hq
 obtain⟨j,h1,h2,h3,h4,h5⟩:=xs8 he
 obtain⟨w,ew,rw'⟩:=r.get h2
 have hl:=r.length
 have hn:=wd1
 have fin:EP X pins σ Q w s:=⟨z,H,I,rw',q⟩
 exact subscriptTail_builtinR (x:=w) pl.typeIs slot_tuple_getitem.lookup
  (getItem_tuple (j:=j) (Q:=fun r s'=>r=w/\EP X pins σ Q r s') pl (by omega) (by omega) (by rw[List.size_toArray,<-hl];exact h1) (by simpa using ew) ⟨rfl,fin⟩) hs
theorem zx6:IxR X Ag1:=by
 intro value slice pins s σ H x y v u Q I rx ry h hs
 obtain⟨z,i,c,rfl,rfl,hz,he,q⟩:=h
 obtain⟨t,rfl⟩:=rx
 obtain⟨t',rfl⟩:=ry
 obtain⟨j,h1,h2,h3,h4,h5⟩:=xs8 he
 have hl:z.cps.toList.length=z.length:=by simp[Str.length]
 rw[hl] at h1 h4 h5
 have hn:=wd1
 exact tail_any (typeIs_str s z t) slot_str_getitem.lookup (getItem_str (c:=c) (by
  have e1:decide (i < -(2 ^ 63:Int))=false:=decide_eq_false (by omega)
  have e2:decide (i>=2 ^ 63)=false:=decide_eq_false (by omega)
  rw[e1,e2,Bool.or_false]) (by rw[h1];simpa using h2) ⟨.str ⟨#[c]⟩,H,I.tok _,⟨_,rfl⟩,q⟩) hs
def rIx(K:Fg):R2:=fun x y H Q=>Af9 K x y H Q\/Ag0 K x y H Q\/Ag1 x y H Q
theorem zx7:IxR X (rIx X.K):=zm0.or (zx5.or zx6)
theorem yi6(its:List Value)(n j:Nat)(u:Value):Obj.mapSeq (·.setIfInBounds j u) {cls:=.type "list",data:=.seq its.toArray n}={cls:=.type "list",data:=.seq (its.set j u).toArray n}:=by
 simp[Obj.mapSeq]
theorem Inv.lst{pins:List (Addr×Obj)}{σ:St}{H:Hp}{s:Shared}{p:Addr}{xs:List V}(I:Inv X pins σ H s)(h:H p=some (.lst xs)) :
 ∃ (its:List Value) (n:Nat),J9 xs its/\s.heap.get? p=some {cls:=.type "list",data:=.seq its.toArray n}/\xs.length<=sizeLine:=by
 obtain⟨z,its,n,r,e⟩:=I.hok p _ h
 exact⟨its,n,r,e,z⟩
theorem Inv.lstUpd{n':Nat}{f:Obj->Obj}(I:Inv X pins σ H s)(h:H p=some (.lst xs))(ho:s.heap.get? p=some {cls:=.type "list",data:=.seq its.toArray n})(hf:f {cls:=.type "list",data:=.seq its.toArray n}={cls:=.type "list",data:=.seq its'.toArray n'})(r:J9 ys its')(hz:ys.length<=sizeLine)(t':Nat)(ht:autoParam (0<t') zAt) :
 Inv X pins σ (upd H p (.lst ys)) {s with heap:=s.heap.update p f,toks:=t'}:=by
 have e:(s.heap.update p f).get? p=some {cls:=.type "list",data:=.seq its'.toArray n'}:=by
  rw[Heap.get?_update_self f ho (by rw[hf] <;> rfl),hf]
 refine I.write (x:=p) (e:=p) (by rw[h];trivial) (.inl rfl) (fun b u hb q=>(Heap.get?_update_other _ _ (Ne.symm hb)).trans q) ⟨_,e⟩ ?_
 exact⟨hz,its',n',r,e⟩
def za2:V->V->V->Hp->(Hp->Prop)->Prop:=fun o i v H Q=>∃ p xs k j,o=.ref p/\i=.int k/\H p=some (.lst xs)/\ixN xs.length k=some j/\Q (upd H p (.lst (xs.set j v)))
theorem za3:zw4 X za2:=by
 intro pins s σ H o i v ov iv u Q I ro ri rv h
 obtain⟨p,xs,k,j,rfl,rfl,hp,hj,q⟩:=h
 cases ro
 obtain⟨t,rfl⟩:=ri
 obtain⟨its,n,r,ho,hz⟩:=I.lst hp
 obtain⟨h1,h2,h3,h4⟩:=yp0 hj
 have hl:=r.length
 have hn:=wd1
 have I':Inv X pins σ (upd H p (.lst (xs.set j v))) {s with heap:=s.heap.update p (Obj.mapSeq (·.setIfInBounds j u))} :=
  I.lstUpd hp ho (yi6 its n j u) (r.set rv j) (by rw[List.length_set];exact hz) s.toks
 by_cases h0:0<=k
 ·have hk:k.toNat=j:=by
   rw[seqIndex_of h0 h4] at h1
   exact Option.some.inj h1
  exact PySem.W.ki_setAt ho h0 (by omega) (by rw[List.size_toArray,<-hl];exact h4) (by rw[hk];exact⟨_,I',q⟩)
 ·have hk:(k+(its.toArray.size:Int)).toNat=j:=by
   rw[seqIndex_neg (by omega) h3] at h1
   rw[List.size_toArray,<-hl]
   exact Option.some.inj h1
  exact PySem.W.ki_setBack ho (by omega) (by rw[List.size_toArray,<-hl];exact h3) (by omega) (by rw[hk];exact⟨_,I',q⟩)
theorem qq6(lo hi:Option Int)(n:Nat):(sliceBounds lo hi none n).1=((HT.sIx n 0 lo:Nat):Int)/\(sliceBounds lo hi none n).2.1=((HT.sIx n n hi:Nat):Int)/\(sliceBounds lo hi none n).2.2=1:=by
 refine⟨?_,?_,rfl⟩
 ·cases lo with
  | none=>simp[sliceBounds,HT.sIx]
  | some i =>
    simp only[sliceBounds,HT.sIx,Option.getD_none,show(1:Int) > 0 by decide,if_true]
    by_cases h:i<0
    ·simp only[h,if_true] <;> omega
    ·simp only[h,if_false] <;> omega
 ·cases hi with
  | none=>simp[sliceBounds,HT.sIx]
  | some i =>
    simp only[sliceBounds,HT.sIx,Option.getD_none,show(1:Int) > 0 by decide,if_true]
    by_cases h:i<0
    ·simp only[h,if_true] <;> omega
    ·simp only[h,if_false] <;> omega
theorem xh6(its:List Value)(lo hi:Option Int):slicePick its.toArray lo hi none=((its.drop (HT.sIx its.length 0 lo)).take (HT.sIx its.length its.length hi-HT.sIx its.length 0 lo)).toArray:=by
 obtain⟨h1,h2,h3⟩:=qq6 lo hi its.toArray.size
 unfold slicePick
 rw[h1,h2,h3]
 simp only[sliceRange_one,pick_run,List.size_toArray] <;> rfl
def Ag2(K:Fg):V->Option Int->Option Int->Hp->VK->Prop:=fun x lo hi H Q=>∃ a xs,x=.ref a/\SqL K H a xs/\∀ p,H p=none->Q (.ref p) (upd H p (.lst (qg7 xs lo hi)))
theorem zm1:SlR X (Ag2 X.K):=by
 intro pins s σ H x v vl vu lo hi sl Q I rx hs pl pu h
 obtain⟨a,xs,rfl,hx,q⟩:=h
 cases rx
 obtain⟨its,r,ht,hz⟩:=I.list hx
 have hlen:=r.length
 refine⟨"list",_,slot_list_getitem.lookup,ht.isList.typeIs,?_⟩
 refine wpAny_getItem_list_slice ht.isList hs pl pu .none (by simp) ?_ (by rw[List.size_toArray] <;> omega)
 rw[xh6,<-hlen]
 refine⟨.ref s.heap.objs.size,_,I.laid (t':=s.toks) (o:=.lst (qg7 xs lo hi)) (fun b ob q=>Heap.get?_push_of_some _ q) (Nat.le_refl _) ?_,rfl,q _ (I.hok.fresh (Nat.le_refl _))⟩
 exact⟨Nat.le_trans (wp2 xs lo hi) hz,_,0,(r.drop (HT.sIx xs.length 0 lo)).take (HT.sIx xs.length xs.length hi-HT.sIx xs.length 0 lo),Heap.get?_push_size _ rfl⟩
def ql8:V->Bool
 | .non=>true
 | .bl _=>true
 | .int _=>true
 | .str _=>true
 | _=>false
def eqV:V->V->Bool
 | .non,.non=>true
 | .bl a,.bl b=>a == b
 | .bl a,.int b=>(if a then 1 else 0) == b
 | .int a,.bl b=>a == (if b then 1 else 0)
 | .int a,.int b=>a == b
 | .str a,.str b=>a == b
 | _,_=>false
theorem zx8{x:V}{v:Value}(ry:M4 y u)(rx:M4 x v)(fy:ql8 y=true)(fx:ql8 x=true):SeqAt.EqAt A s u v (eqV y x):=by
 cases y with
 | non =>
   cases ry
   cases x with
   | non=>cases rx;exact SeqAt.EqAt.same _
   | bl b=>cases rx;exact SeqAt.EqAt.none_bool b
   | int b=>obtain⟨t,rfl⟩:=rx;exact SeqAt.EqAt.none_int b t
   | str b=>obtain⟨t,rfl⟩:=rx;exact SeqAt.EqAt.none_str b t
   | _=>exact absurd (show false=true from fx) Bool.false_ne_true
 | bl a =>
   cases ry
   cases x with
   | non=>cases rx;exact SeqAt.EqAt.bool_none a
   | bl b=>cases rx;exact SeqAt.EqAt.bool_bool a b
   | int b=>obtain⟨t,rfl⟩:=rx;exact SeqAt.EqAt.bool_int a b t
   | str b=>obtain⟨t,rfl⟩:=rx;exact SeqAt.EqAt.bool_str a b t
   | _=>exact absurd (show false=true from fx) Bool.false_ne_true
 | int a =>
   obtain⟨t',rfl⟩:=ry
   cases x with
   | non=>cases rx;exact SeqAt.EqAt.int_none a t'
   | bl b=>cases rx;exact SeqAt.EqAt.int_bool a t' b
   | int b=>obtain⟨t,rfl⟩:=rx;exact SeqAt.EqAt.int_int a t' b t
   | str b=>obtain⟨t,rfl⟩:=rx;exact SeqAt.EqAt.int_str a t' b t
   | _=>exact absurd (show false=true from fx) Bool.false_ne_true
 | str a =>
   obtain⟨t',rfl⟩:=ry
   cases x with
   | non=>cases rx;exact SeqAt.EqAt.str_none a t'
   | bl b=>cases rx;exact SeqAt.EqAt.str_bool a t' b
   | int b=>obtain⟨t,rfl⟩:=rx;exact SeqAt.EqAt.str_int a t' b t
   | str b=>obtain⟨t,rfl⟩:=rx;exact SeqAt.EqAt.str_str a t' b t
   | _=>exact absurd (show false=true from fx) Bool.false_ne_true
 | _=>exact absurd (show false=true from fy) Bool.false_ne_true
def eqU(x:V)(u:Value):Bool:=match u with
 | .none=>eqV .non x
 | .bool b=>eqV (.bl b) x
 | .int i _=>eqV (.int i) x
 | .str z _=>eqV (.str z) x
 | _=>false
theorem za4{x:V}(r:M4 y u)(f:ql8 y=true):eqU x u=eqV y x:=by
 cases y with
 | non=>cases r;rfl
 | bl b=>cases r;rfl
 | int i=>obtain⟨t,rfl⟩:=r;rfl
 | str z=>obtain⟨t,rfl⟩:=r;rfl
 | _=>exact absurd (show false=true from f) Bool.false_ne_true
theorem wf3{x:V}:∀ {xs:List V} {us:List Value},J9 xs us->xs.all ql8=true->us.any (eqU x)=xs.any fun y=>eqV y x
 | _,_,.nil,_=>rfl
 | y::xs,u::us,.cons r t,f=>by
   rw[List.all_cons,Bool.and_eq_true] at f
   rw[List.any_cons,List.any_cons,za4 r f.1,wf3 t f.2]
theorem qv4{A:Around}{s:Shared}{x:V}{v:Value}(rx:M4 x v)(fx:ql8 x=true):∀ {xs:List V} {us:List Value},J9 xs us->xs.all ql8=true->∀ u∈us,SeqAt.EqAt A s u v (eqU x u)
 | _,_,.nil,_=>fun u hu=>by cases hu
 | y::xs,u::us,.cons r t,f=>fun u' hu=>by
   rw[List.all_cons,Bool.and_eq_true] at f
   rcases List.mem_cons.mp hu with rfl|hu
   ·rw[za4 r f.1];exact zx8 r rx f.1 fx
   ·exact qv4 rx fx t f.2 u' hu
def inV(x:V)(xs:List V):Bool:=xs.any fun y=>eqV y x
def rIn(K:Fg)(neg:Bool):R2:=fun x y H Q=>∃ p xs,y=.ref p/\(SqL K H p xs\/SqT K H p xs)/\ql8 x=true/\xs.all ql8=true/\Q (.bl (if neg then !inV x xs else inV x xs)) H
theorem yv4:OpR X (compareOp .In) (rIn X.K false):=by
 intro pins s σ H x y v u Q I rx ry h
 obtain⟨p,xs,rfl,hq,fx,fs,q⟩:=h
 cases ry
 rcases hq with hq|hq
 ·obtain⟨its,r,pl,hz⟩:=I.list hq
  refine SeqAt.in_listAt (eqU x) pl.isList (fun w hw=>qv4 rx fx r fs w (by simpa using hw)) ⟨.bl _,H,I,rfl,?_⟩
  rw[show its.toArray.any (eqU x)=its.any (eqU x) by simp,wf3 r fs]
  exact q
 ·obtain⟨its,r,pl,hz⟩:=I.tuple hq
  refine SeqAt.in_tupleAt (eqU x) pl (fun w hw=>qv4 rx fx r fs w (by simpa using hw)) ⟨.bl _,H,I,rfl,?_⟩
  rw[show its.toArray.any (eqU x)=its.any (eqU x) by simp,wf3 r fs]
  exact q
theorem xs9:OpR X (compareOp .NotIn) (rIn X.K true):=by
 intro pins s σ H x y v u Q I rx ry h
 obtain⟨p,xs,rfl,hq,fx,fs,q⟩:=h
 cases ry
 rcases hq with hq|hq
 ·obtain⟨its,r,pl,hz⟩:=I.list hq
  refine SeqAt.notIn_listAt (eqU x) pl.isList (fun w hw=>qv4 rx fx r fs w (by simpa using hw)) ⟨.bl _,H,I,rfl,?_⟩
  rw[show its.toArray.any (eqU x)=its.any (eqU x) by simp,wf3 r fs]
  exact q
 ·obtain⟨its,r,pl,hz⟩:=I.tuple hq
  refine SeqAt.notIn_tupleAt (eqU x) pl (fun w hw=>qv4 rx fx r fs w (by simpa using hw)) ⟨.bl _,H,I,rfl,?_⟩
  rw[show its.toArray.any (eqU x)=its.any (eqU x) by simp,wf3 r fs]
  exact q
theorem xt0:OpR X (compareOp .NotIn) (fun x y H Q=>∃ i j,x=.str i/\y=.str j/\Q (.bl (!(!(Builtin.Str.occurrences j i 0 j.length 1).isEmpty))) H):=by
 intro pins s σ H x y v u Q I rx ry h
 obtain⟨i,j,rfl,rfl,q⟩:=h
 obtain⟨t,rfl⟩:=rx
 obtain⟨t',rfl⟩:=ry
 exact notIn_str ⟨.bl _,H,I,rfl,q⟩
theorem xt1:V3 X (.builtin "len") (fun xs H Q=>∃ p ys,xs=[.ref p]/\(SqL X.K H p ys\/SqT X.K H p ys)/\Q (.int ys.length) H):=by
 intro pins s σ H xs us Q I r h
 obtain⟨p,ys,rfl,hq,q⟩:=h
 obtain⟨u,rfl,rx⟩:=qp0 r
 cases rx
 have hn:=wd1
 rcases hq with hq|hq
 ·obtain⟨its,r',pl,hz⟩:=I.list hq
  have hlen:=r'.length
  exact Calls.call_len_list pl.isList (by simp only[List.size_toArray] <;> omega) ⟨.int ys.length,H,I.tok _,⟨s.toks+1,by rw[List.size_toArray,hlen]⟩,q⟩
 ·obtain⟨its,r',pl,hz⟩:=I.tuple hq
  have hlen:=r'.length
  exact len_tuple pl (by simp only[List.size_toArray] <;> omega) ⟨.int ys.length,H,I.tok _,⟨s.toks+1,by rw[List.size_toArray,hlen]⟩,q⟩
theorem xt2:V3 X (.builtin "len") (fun xs H Q=>∃ z,xs=[.str z]/\z.length<=sizeLine/\Q (.int z.length) H):=by
 intro pins s σ H xs us Q I r h
 obtain⟨z,rfl,hz,q⟩:=h
 obtain⟨u,rfl,t,rfl⟩:=qp0 r
 have hn:=wd1
 exact len_str (by omega) ⟨.int z.length,H,I.tok _,⟨_,rfl⟩,q⟩
theorem V3.or{f:Value}{r r':List V->Hp->VK->Prop}(h:V3 X f r)(h':V3 X f r'):V3 X f (fun xs H Q=>r xs H Q\/r' xs H Q):=by
 intro pins s σ H xs us Q I rs q
 rcases q with q|q
 ·exact h pins s σ H xs us Q I rs q
 ·exact h' pins s σ H xs us Q I rs q
theorem xt3:V3 X (.type "list") (fun xs H Q=>∃ p ys,xs=[.ref p]/\(SqL X.K H p ys\/SqT X.K H p ys)/\∀ l,H l=none->Q (.ref l) (upd H l (.lst ys))):=by
 intro pins s σ H xs us Q I r h
 obtain⟨p,ys,rfl,hq,q⟩:=h
 obtain⟨u,rfl,rx⟩:=qp0 r
 cases rx
 have fin:∀ (its:List Value),J9 ys its->ys.length<=sizeLine->∀ (h':Heap) (c':Nat),(∀ b o',s.heap.get? b=some o'->h'.get? b=some o') ->
  h'.get? s.heap.objs.size=some {cls:=.type "list",dict:=none,data:=.seq its.toArray c',slots:=#[]}->EP X pins σ Q (.ref s.heap.objs.size) {s with heap:=h'}:=fun its r' hz h' c' kp e =>
  ⟨.ref s.heap.objs.size,_,I.laid (t':=s.toks) kp (Nat.le_refl _) (show O8 X.prog X.w _ h' _ (.lst ys) from ⟨hz,its,c',r',e⟩),rfl,q _ (I.hok.fresh (Nat.le_refl _))⟩
 rcases hq with hq|hq
 ·obtain⟨its,r',pl,hz⟩:=I.list hq
  have hlen:=r'.length
  obtain⟨o,ho,hc,n,hd⟩:=pl.isList
  exact call_list_seq p (.inl rfl) ho hc hd (fun h' c' kp e=>fin its r' hz h' c' kp e) (by simp only[List.size_toArray] <;> omega)
 ·obtain⟨its,r',pl,hz⟩:=I.tuple hq
  have hlen:=r'.length
  obtain⟨o,ho,hc,n,hd⟩:=pl
  exact call_list_seq p (.inr rfl) ho hc hd (fun h' c' kp e=>fin its r' hz h' c' kp e) (by simp only[List.size_toArray] <;> omega)
theorem xh7:V3 X (.type "tuple") (fun xs H Q=>∃ p ys,xs=[.ref p]/\((SqL X.K H p ys/\∀ l,H l=none->Q (.ref l) (upd H l (.tup ys)))\/(SqT X.K H p ys/\Q (.ref p) H))):=by
 intro pins s σ H xs us Q I r h
 obtain⟨p,ys,rfl,h⟩:=h
 obtain⟨u,rfl,rx⟩:=qp0 r
 cases rx
 rcases h with⟨hq,q⟩|⟨hq,q⟩
 ·obtain⟨its,r',pl,hz⟩:=I.list hq
  have hlen:=r'.length
  refine call_tuple_list pl.isList (fun h' kp=>?_) (by simp only[List.size_toArray] <;> omega)
  have I1:Inv X pins σ H {s with heap:=h'}:=I.kept (t':=s.toks) kp
  have I2:Inv X pins σ (upd H h'.objs.size (.tup ys)) {s with heap:=h'.push {cls:=.type "tuple",data:=.seq its.toArray}} :=
   I1.laid (t':=s.toks) (fun b o e=>Heap.get?_push_of_some _ e) (Nat.le_refl _) (show O8 X.prog X.w _ _ _ (.tup ys) from ⟨hz,its,r',IsTup.new _ _⟩)
  exact⟨.ref h'.objs.size,_,I2,rfl,q _ (I1.hok.fresh (Nat.le_refl _))⟩
 ·obtain⟨its,r',pl,hz⟩:=I.tuple hq
  exact call_tuple_same pl ⟨.ref p,H,I,rfl,q⟩
def tyV(K:Fg)(T:String)(x:V)(H:Hp):Prop:=match x with
 | .str _=>T = "str"
 | .int _=>T = "int"
 | .ref p=>(T = "list"/\∃ xs,SqL K H p xs)\/(T = "tuple"/\∃ o,K.lookup p=some o/\o.cls=.type "tuple"/\o.dict=none) \/
  (T = "dict"/\((∃ kvs,H p=some (.dK kvs))\/∃ kvs,H p=some (.dT kvs)))\/(T = "set"/\∃ S n,H p=some (.set S n))
 | _=>False
theorem xt4{x:V}{v:Value}(I:Inv X pins σ H s)(r:M4 x v)(ty:tyV X.K T x H) :
 s.TypeIs v T/\∀ a,v=.ref a->∃ ob,s.heap.get? a=some ob/\ob.dict=none:=by
 cases x with
 | str z =>
   obtain⟨t,rfl⟩:=r
   cases (show T = "str" from ty)
   exact⟨typeIs_str s z t,fun _ e=>nomatch e⟩
 | int i =>
   obtain⟨t,rfl⟩:=r
   cases (show T = "int" from ty)
   exact⟨typeIs_int s i t,fun _ e=>nomatch e⟩
 | ref p =>
   cases r
   rcases ty with⟨rfl,xs,hq⟩|⟨rfl,o,hk,hc,hd⟩|⟨rfl,hk⟩|⟨rfl,S,n,hk⟩
   ·obtain⟨its,_,pl,_⟩:=I.list hq
    refine⟨pl.isList.typeIs,fun a e=>?_⟩
    cases e
    obtain⟨o,n,e,c,hd,_⟩:=pl
    exact⟨o,e,hd⟩
   ·refine⟨⟨o,I.kIn p o hk,hc⟩,fun a e=>?_⟩
    cases e
    exact⟨o,I.kIn _ o hk,hd⟩
   ·have z:∃ o,s.heap.get? p=some o/\o.ExactDict:=by
     rcases hk with⟨kvs,hk⟩|⟨kvs,hk⟩
     ·obtain⟨_,_,_,_,o,_,_,e,ex,_⟩:=I.hok p _ hk
      exact⟨o,e,ex⟩
     ·obtain⟨_,_,_,_,o,_,_,e,ex,_⟩:=I.hok p _ hk
      exact⟨o,e,ex⟩
    obtain⟨o,e,ex⟩:=z
    refine⟨⟨o,e,ex.1⟩,fun a e2=>?_⟩
    cases e2
    exact⟨o,e,ex.2.1⟩
   ·obtain⟨o,_,_,_,e,ex,_⟩:=I.hok p _ hk
    refine⟨⟨o,e,ex.1⟩,fun a e2=>?_⟩
    cases e2
    exact⟨o,e,ex.2.1⟩
 | _=>exact False.elim ty
def zm2(K:Fg)(T:String)(r:V->List V->Hp->VK->Prop)(to:TE):TE:=fun σ H Q=>to σ H fun x H1=>tyV K T x H1/\r x [] H1 Q
def tBM(K:Fg)(T:String)(r:V->List V->Hp->VK->Prop)(to:TE)(t:TA):TE:=fun σ H Q=>to σ H fun x H1=>tyV K T x H1/\t σ H1 fun xs H2=>r x xs H2 Q
variable{t:TA}{id:String}{r:V->List V->Hp->VK->Prop}
theorem za5(pa:PlainAttrs T)(slot:Slot T name id)(hty:typeOf (.builtin id)=pure (.type "method_descriptor"))(hm:MtR X id r)(ho:PE X o to)(hbase:autoParam (attributeBase o name X.env (eval o X.env)=eval o X.env) zAr)(hline:autoParam ((apos.endLine == cpos.line)=true) zAr):PE X (.Call (.Attribute o name apos) [] [] cpos) (zm2 X.K T r to):=by
 intro pins s σ H Q I h
 refine wpAny_Call_method0_late hbase hline (thn (ho pins s σ H _ I h) fun v s1 zq=>?_)
 obtain⟨x,H1,I1,r1,ty,q1⟩:=zq
 obtain⟨h1,h2⟩:=xt4 I1 r1 ty
 exact⟨T,id,pa,slot,hty,h1,h2,Calls.callWith_builtin rfl (PySem.evalArgs_none (hm pins s1 σ H1 x [] v [] Q I1 r1 .nil q1))⟩
theorem qd7(pa:PlainAttrs T)(slot:Slot T name id)(hty:typeOf (.builtin id)=pure (.type "method_descriptor"))(hm:MtR X id r)(ho:PE X o to)(ha:PA X (e::es) t)(hbase:autoParam (attributeBase o name X.env (eval o X.env)=eval o X.env) zAr) (hfew:((backTo cpos (starEach (e::es) X.env)).all (fun x=>!x.1) && (backToKw cpos (keywordEach [] X.env)).all (fun x=>x.1.isSome)
  && decide ((e::es).length+([]:List Keyword).length+(if([]:List Keyword).isEmpty then 0 else 1)<30))=true:=by rfl) (hline:autoParam ((apos.endLine == cpos.line)=true) zAr) (hs:autoParam (starEach (e::es) X.env=(false,eval e X.env)::starEach es X.env) zAr) (hplain:autoParam ((backTo cpos (starEach es X.env)).any (·.1)=false) zAr) :
 PE X (.Call (.Attribute o name apos) (e::es) [] cpos) (tBM X.K T r to t):=by
 intro pins s σ H Q I h
 refine wpAny_Call_method_late hbase hfew hline rfl (thn (ho pins s σ H _ I h) fun v s1 zq=>?_)
 obtain⟨x,H1,I1,r1,ty,q1⟩:=zq
 obtain⟨h1,h2⟩:=xt4 I1 r1 ty
 refine⟨T,id,pa,slot,hty,h1,h2,?_⟩
 have hA:=ha cpos pins s1 σ H1 _ I1 q1
 rw[hs] at hA ⊢
 refine Calls.callWith_builtin (by show(false || (backTo cpos (starEach es X.env)).any (·.1))=false;rw[hplain] <;> rfl) (Calls.evalArgs_plain ?_)
 exact thn hA fun us s2 ⟨vs,H2,I2,r2,q2⟩=>hm pins s2 σ H2 x vs v us Q I2 r1 r2 q2
end
def MtM(X:Cx)(id:String)(r:V->List V->Hp->VK->Prop):Prop :=
 ∀ (pins:List (Addr×Obj)) (s:Shared) (σ:St) (H:Hp) (x:V) (xs:List V) (v:Value) (us:List Value) (Q:VK),Inv X pins σ H s->M4 x v->J9 xs us->r x xs H Q ->
  wpAny (model X.prog X.w) X.A (call (.builtin id) (v::us)) (EP X pins σ Q) X.xe s
theorem J9.one{x:V}(r:J9 [x] us):∃ u,us=[u]/\M4 x u:=qp0 r
theorem J9.two{x:V}(r:J9 [x,y] us):∃ u v,us=[u,v]/\M4 x u/\M4 y v:=xp4 r
theorem J9.zero:∀ {us:List Value},J9 [] us->us=[]
 | _,.nil=>rfl
theorem J9.dropLast(h:J9 xs us):J9 xs.dropLast us.dropLast:=by
 induction h with
 | nil=>exact .nil
 | cons r t ih =>
   cases t with
   | nil=>exact .nil
   | cons q t'=>exact .cons r ih
theorem J9.eraseIdx:∀ {xs:List V} {us:List Value} (i:Nat),J9 xs us->J9 (xs.eraseIdx i) (us.eraseIdx i)
 | _,_,_,.nil=>.nil
 | _,_,0,.cons _ t=>t
 | _,_,i+1,.cons r t=>.cons r (J9.eraseIdx i t)
theorem J9.reverse(h:J9 xs us):J9 xs.reverse us.reverse:=by
 induction h with
 | nil=>exact .nil
 | cons r t ih=>rw[List.reverse_cons,List.reverse_cons];exact J9.append ih (.cons r .nil)
theorem J9.rep{xs:List V}{us:List Value}(h:J9 xs us):∀ k:Nat,J9 (List.replicate k xs).flatten (List.replicate k us).flatten
 | 0=>.nil
 | k+1=>by
   rw[List.replicate_succ,List.replicate_succ,List.flatten_cons,List.flatten_cons]
   exact J9.append h (J9.rep h k)
theorem yi7(l:List α):l.eraseIdx (l.length-1)=l.dropLast:=by
 induction l with
 | nil=>rfl
 | cons a r ih =>
   cases r with
   | nil=>rfl
   | cons b r =>
     have e:(a::b::r).length-1=((b::r).length-1)+1:=by
      have h1:(a::b::r).length=r.length+2:=rfl
      have h2:(b::r).length=r.length+1:=rfl
      omega
     rw[e,List.eraseIdx_cons_succ,ih]
     all_goals rfl
theorem xp9{α:Type}:∀ (l:List α) (i:Nat),(l.eraseIdx i).length<=l.length
 | [],_=>Nat.le_refl _
 | _::_,0=>Nat.le_succ _
 | _::r,i+1=>Nat.succ_le_succ (xp9 r i)
theorem wj7(its:List Value):∀ (k:Nat) (acc:List Value),
 List.foldl (fun x1 x2=>x1++x2) acc.toArray (List.replicate k its.toArray)=(acc++(List.replicate k its).flatten).toArray
 | 0,acc=>by simp
 | k+1,acc=>by
   have e:acc.toArray++its.toArray=(acc++its).toArray:=by simp
   have e2:(acc++its)++(List.replicate k its).flatten=acc++(List.replicate (k+1) its).flatten:=by
    rw[List.replicate_succ,List.flatten_cons,List.append_assoc]
   rw[<-e2,<-wj7 its k (acc++its),<-e,List.replicate_succ,List.foldl_cons]
variable{l:Addr}{zs:List V}
theorem Inv.lset{f:Array Value->Array Value}(I:Inv X pins σ H s)(hH:H l=some (.lst xs))(e:s.heap.get? l=some {cls:=.type "list",data:=.seq its.toArray n})(hf:f its.toArray=its'.toArray)(hv:J9 ys its')(hz:ys.length<=sizeLine)(ht:autoParam (0<t') zAt) :
 Inv X pins σ (upd H l (.lst ys)) {s with heap:=s.heap.update l (Obj.mapSeq f),toks:=t'}:=by
 have q:=PySem.IsL.update e f
 rw[hf] at q
 refine I.write (x:=l) (e:=l) (by rw[hH];exact trivial) (.inl rfl) (fun b' u hb hu=>(Heap.get?_update_other s.heap (Obj.mapSeq f) (Ne.symm hb)).trans hu) ⟨_,q⟩ ?_
 exact⟨hz,its',_,hv,q⟩
theorem Inv.lnew(I:Inv X pins σ H s)(hv:J9 ys its)(hz:ys.length<=sizeLine)(ht:autoParam (0<t') zAt) :
 Inv X pins σ (upd H s.heap.objs.size (.lst ys)) {s with heap:=s.heap.push {cls:=.type "list",data:=.seq its.toArray},toks:=t'} :=
 I.laid (fun _ _ q=>Heap.get?_push_of_some _ q) (Nat.le_refl _) ⟨hz,its,0,hv,Heap.get?_push_size _ rfl⟩
theorem Inv.fresh(I:Inv X pins σ H s):H s.heap.objs.size=none:=I.hok.fresh (Nat.le_refl _)
theorem Inv.lstM(I:Inv X pins σ H s)(hH:H l=some (.lst xs)):xs.length<=sizeLine/\∃ (its:List Value) (n:Nat),J9 xs its/\xs.length=its.length/\s.heap.get? l=some {cls:=.type "list",data:=.seq its.toArray n}:=by
 obtain⟨z,its,n,r,e⟩:=I.hok l _ hH
 exact⟨z,its,n,r,r.length,e⟩
theorem ya4(h:n<=sizeLine):Builtin.List.listTooLong n=false:=by
 unfold Builtin.List.listTooLong
 exact decide_eq_false (by omega)
def X6:V->List V->Hp->VK->Prop:=fun x vs H Q=>∃ l xs y,x=.ref l/\vs=[y]/\H l=some (.lst xs)/\xs.length<sizeLine/\Q .non (upd H l (.lst (xs++[y])))
theorem P4:MtM X "list.append" X6:=by
 intro pins s σ H x vs v us Q I rx rv h
 obtain⟨l,xs,y,rfl,rfl,hH,hz,q⟩:=h
 cases rx
 obtain⟨u,rfl,ru⟩:=rv.one
 obtain⟨z,its,n,r,hl,e⟩:=I.lstM hH
 refine call_meets F.slot_list_append ⟨_,e,rfl⟩ F.entry_list_append (F.args_list_append_2 _ _) (PySem.list_append l its.toArray n u (by rw[List.size_toArray];omega)) ⟨e,?_⟩
 refine⟨.non,_,I.lset (its':=its++[u]) hH e (by simp) (r.append (.cons ru .nil)) ?_,rfl,q⟩
 rw[List.length_append,List.length_singleton]
 omega
def xt5:V->List V->Hp->VK->Prop:=fun x vs H Q=>∃ l b xs zs,x=.ref l/\vs=[.ref b]/\H l=some (.lst xs)/\H b=some (.lst zs)/\xs.length+zs.length<=sizeLine/\Q .non (upd H l (.lst (xs++zs)))
theorem yv5:MtM X "list.extend" xt5:=by
 intro pins s σ H x vs v us Q I rx rv h
 obtain⟨l,b,xs,zs,rfl,rfl,hH,hB,hz,q⟩:=h
 cases rx
 obtain⟨u,rfl,ru⟩:=rv.one
 cases ru
 obtain⟨z,its,n,r,hl,e⟩:=I.lstM hH
 obtain⟨z2,its2,n2,r2,hl2,e2⟩:=I.lstM hB
 have hsz:its.toArray.size+its2.toArray.size<=sizeLine:=by rw[List.size_toArray,List.size_toArray];omega
 have hlong:¬(!its.toArray.isEmpty && Builtin.List.listTooLong (its.toArray.size+its2.toArray.size))=true:=by
  rw[ya4 hsz,Bool.and_false]
  exact Bool.false_ne_true
 refine call_meets F.slot_list_extend ⟨_,e,rfl⟩ F.entry_list_extend (F.args_list_extend_2 _ _)
  (AutoSeq1.list_extend_list_list_0 l its.toArray n b its2.toArray n2 hlong (by rw[List.size_toArray];omega) (by omega)) ⟨e,e2,?_⟩
 refine⟨.non,_,I.lset (its':=its++its2) hH e (by simp) (r.append r2) ?_,rfl,q⟩
 rw[List.length_append]
 omega
def zm3:V->List V->Hp->VK->Prop:=fun x vs H Q=>∃ l xs y,x=.ref l/\vs=[]/\H l=some (.lst xs)/\xs[xs.length-1]?=some y/\Q y (upd H l (.lst xs.dropLast))
theorem za6:MtM X "list.pop" zm3:=by
 intro pins s σ H x vs v us Q I rx rv h
 obtain⟨l,xs,y,rfl,rfl,hH,hy,q⟩:=h
 cases rx
 have hus:=rv.zero
 subst hus
 obtain⟨z,its,n,r,hl,e⟩:=I.lstM hH
 obtain⟨u,hu,ru⟩:=r.get hy
 have hy':its.toArray[its.toArray.size-1]?=some u:=by
  show its.toArray[its.length-1]?=some u
  rw[<-Array.getElem?_toList,<-hl]
  exact hu
 refine call_meets F.slot_list_pop ⟨_,e,rfl⟩ F.entry_list_pop (F.args_list_pop_1 _) (MeetsSeq.list_pop_last l its.toArray n u hy' (by rw[List.size_toArray];omega)) ⟨e,?_⟩
 refine⟨y,_,I.lset (its':=its.dropLast) hH e ?_ r.dropLast ?_,ru,q⟩
 ·show its.toArray.eraseIdxIfInBounds (its.toArray.size-1)=its.dropLast.toArray
  rw[List.size_toArray,List.eraseIdxIfInBounds_toArray,yi7]
 ·rw[List.length_dropLast]
  omega
def yi8:V->List V->Hp->VK->Prop:=fun x vs H Q=>∃ l xs i k y,x=.ref l/\vs=[.int i]/\H l=some (.lst xs)/\-(2 ^ 63)<=i/\i<2 ^ 63/\seqIndex? i xs.length=some k/\xs[k]?=some y/\Q y (upd H l (.lst (xs.eraseIdx k)))
theorem za7:MtM X "list.pop" yi8:=by
 intro pins s σ H x vs v us Q I rx rv h
 obtain⟨l,xs,i,k,y,rfl,rfl,hH,h1,h2,hk,hy,q⟩:=h
 cases rx
 obtain⟨u,rfl,ru⟩:=rv.one
 obtain⟨t,rfl⟩:=ru
 obtain⟨z,its,n,r,hl,e⟩:=I.lstM hH
 obtain⟨w,hw,rw'⟩:=r.get hy
 refine call_meets F.slot_list_pop ⟨_,e,rfl⟩ F.entry_list_pop (F.args_list_pop_2 _ _)
  (MeetsSeq.list_pop_at l its.toArray n i t k w (fitsIndex_both h1 h2) (by rw[List.size_toArray,<-hl];exact hk) (by rw[<-Array.getElem?_toList];exact hw) (by rw[List.size_toArray];omega)) ⟨e,?_⟩
 refine⟨y,_,I.lset (its':=its.eraseIdx k) hH e ?_ (r.eraseIdx k) ?_,rw',q⟩
 ·show its.toArray.eraseIdxIfInBounds k=(its.eraseIdx k).toArray
  rw[List.eraseIdxIfInBounds_toArray]
 ·have:=xp9 xs k
  omega
def Ag3:R2:=fun x y H Q=>∃ l b xs zs,x=.ref l/\y=.ref b/\H l=some (.lst xs)/\H b=some (.lst zs)/\xs.length+zs.length<=sizeLine/\∀ p,H p=none->Q (.ref p) (upd H p (.lst (xs++zs)))
theorem zx9:OpR X (binaryOp .Add) Ag3:=by
 intro pins s σ H x y v u Q I rx ry h
 obtain⟨l,b,xs,zs,rfl,rfl,hH,hB,hz,q⟩:=h
 cases rx
 cases ry
 obtain⟨z,its,n,r,hl,e⟩:=I.lstM hH
 obtain⟨z2,its2,n2,r2,hl2,e2⟩:=I.lstM hB
 refine PySem.P.add_list e e2 ?_ (by rw[List.size_toArray,List.size_toArray];omega)
 have ea:its.toArray++its2.toArray=(its++its2).toArray:=by simp
 rw[ea]
 exact⟨.ref _,_,I.lnew (t':=s.toks) (r.append r2) (by rw[List.length_append];omega),rfl,q _ I.fresh⟩
def Ag4:R2:=fun x y H Q=>∃ l k xs,x=.ref l/\y=.int k/\H l=some (.lst xs)/\-(2 ^ 63)<=k/\k<2 ^ 63/\xs.length*k.toNat<=sizeLine /\
 ∀ p,H p=none->Q (.ref p) (upd H p (.lst (List.replicate k.toNat xs).flatten))
theorem yp1(xs:List α)(k:Nat):(List.replicate k xs).flatten.length=k*xs.length:=by
 induction k with
 | zero=>simp
 | succ k ih=>rw[List.replicate_succ,List.flatten_cons,List.length_append,ih,Nat.succ_mul,Nat.add_comm]
theorem zy0:OpR X (binaryOp .Mult) Ag4:=by
 intro pins s σ H x y v u Q I rx ry h
 obtain⟨l,k,xs,rfl,rfl,hH,h1,h2,hz,q⟩:=h
 cases rx
 obtain⟨t,rfl⟩:=ry
 obtain⟨z,its,n,r,hl,e⟩:=I.lstM hH
 have hlen:its.toArray.size*k.toNat<=sizeLine:=by rw[List.size_toArray,<-hl];exact hz
 have hcap:¬its.toArray.size*k.toNat > (2 ^ 63-1) / 8:=by
  have:(sizeLine:Nat)<=(2 ^ 63-1) / 8:=by decide
  omega
 have hfit:¬(!Builtin.List.listFitsIndex k)=true:=by
  rw[fitsIndex_both h1 h2]
  exact Bool.false_ne_true
 have hlong:¬Builtin.List.listTooLong (its.toArray.size*k.toNat)=true:=by
  rw[ya4 hlen]
  exact Bool.false_ne_true
 have hnew:List.foldl (fun x1 x2=>x1++x2) #[] (List.replicate (if its.toArray.isEmpty=true then 0 else k.toNat) its.toArray)=(List.replicate k.toNat its).flatten.toArray:=by
  have f0:∀ m:Nat,List.foldl (fun x1 x2=>x1++x2) #[] (List.replicate m its.toArray)=(List.replicate m its).flatten.toArray:=fun m=>by
   have:=wj7 its m []
   rw[List.nil_append] at this
   exact this
  rw[f0]
  cases its with
  | nil=>simp
  | cons a r'=>rw[if_neg (by simp)]
 refine wpAny_binaryOp_repeat_ref (T := "list") (U := "int") (by decide) ⟨_,e,rfl⟩ (fun s'=>typeIs_int s' k t) noFill_list_mul F.fills_int_mul F.slot_int_rmul repeat_list F.slot_int_index.lookup
  (call_meets F.slot_int_rmul (typeIs_int s k t) F.entry_int_rmul (F.args_int_rmul_2 _ _) (int___rmul___int_list k t l its.toArray n)
   ⟨e,rfl,⟨_,e,rfl⟩,call_meets F.slot_list_mul ⟨_,e,rfl⟩ F.entry_list_mul (F.args_list_mul_2 _ _) (AutoListH.list___mul___list_int_3 l its.toArray n k t hfit hcap hlong) ⟨e,?_⟩⟩)
 rw[hnew]
 exact⟨.ref _,_,I.lnew (t':=s.toks) (r.rep k.toNat) (by rw[yp1,Nat.mul_comm];exact hz),rfl,q _ I.fresh⟩
section
variable[DecidableEq κ]
def S6(kvs:List (κ×V))(k:κ):Option V:=(kvs.find? fun kv=>decide (kv.1=k)).map (·.2)
def qb4(kvs:List (κ×V))(k:κ)(v:V):List (κ×V) :=
 if(kvs.any fun kv=>decide (kv.1=k))=true then kvs.map (fun kv=>if kv.1=k then(kv.1,v) else kv) else kvs++[(k,v)]
theorem za8{k:κ}:S6 ([]:List (κ×V)) k=none:=rfl
theorem W0{p:κ×V}{r:List (κ×V)}{k:κ}(e:p.1=k):S6 (p::r) k=some p.2:=by simp[S6,List.find?_cons,e]
theorem W4{p:κ×V}{r:List (κ×V)}{k:κ}(e:¬p.1=k):S6 (p::r) k=S6 r k:=by simp[S6,List.find?_cons,e]
theorem qv5(k:κ):∀ kvs:List (κ×V),(kvs.any fun kv=>decide (kv.1=k))=(S6 kvs k).isSome
 | []=>rfl
 | p::r=>by
   rw[List.any_cons]
   by_cases e:p.1=k
   ·simp only[W0 e,decide_eq_true e,Bool.true_or,Option.isSome_some]
   ·rw[W4 e,decide_eq_false e,Bool.false_or];exact qv5 k r
theorem ya5(k j:κ)(y:V):∀ kvs:List (κ×V),S6 (kvs.map fun kv=>if kv.1=k then(kv.1,y) else kv) j=(S6 kvs j).map fun x=>if j=k then y else x
 | []=>rfl
 | p::r=>by
   have ih:=ya5 k j y r
   rw[List.map_cons]
   by_cases h:p.1=k
   ·rw[if_pos h]
    by_cases e:p.1=j
    ·rw[W0 (p:=(p.1,y)) e,W0 e,Option.map_some,if_pos (e.symm.trans h)]
    ·rw[W4 (p:=(p.1,y)) e,W4 e,ih]
   ·rw[if_neg h]
    by_cases e:p.1=j
    ·rw[W0 (p:=p) e,W0 e,Option.map_some,if_neg (fun z=>h (e.trans z))]
    ·rw[W4 (p:=p) e,W4 e,ih]
theorem xq0(k j:κ)(y:V):∀ kvs:List (κ×V),S6 kvs k=none->S6 (kvs++[(k,y)]) j=if j=k then some y else S6 kvs j
 | [],_=>by
   by_cases e:k=j
   ·rw[if_pos e.symm];exact W0 (p:=(k,y)) e
   ·rw[if_neg (fun z=>e z.symm)];exact W4 (p:=(k,y)) e
 | p::r,hn=>by
   rw[List.cons_append]
   have hk:¬p.1=k:=fun z=>by rw[W0 z] at hn;cases hn
   rw[W4 hk] at hn
   have ih:=xq0 k j y r hn
   by_cases e:p.1=j
   ·rw[W0 e,W0 e,if_neg (fun z=>hk (e.trans z))]
   ·rw[W4 e,W4 e,ih]
theorem ya6(kvs:List (κ×V))(k j:κ)(y:V):S6 (qb4 kvs k y) j=if j=k then some y else S6 kvs j:=by
 unfold qb4
 by_cases a:(kvs.any fun kv=>decide (kv.1=k))=true
 ·rw[if_pos a,ya5]
  rw[qv5] at a
  by_cases e:j=k
  ·obtain⟨x,hx⟩:=Option.isSome_iff_exists.mp a
   rw[if_pos e,e,hx,Option.map_some,if_pos rfl]
  ·rw[if_neg e]
   cases S6 kvs j with
   | none=>rfl
   | some x=>rw[Option.map_some,if_neg e]
 ·rw[if_neg a]
  refine xq0 k j y kvs ?_
  rw[qv5] at a
  cases q:S6 kvs k with
  | none=>rfl
  | some x=>rw[q] at a;exact(a rfl).elim
theorem qv6(kvs:List (κ×V))(k:κ)(v:V):(qb4 kvs k v).length<=kvs.length+1:=by
 unfold qb4
 split
 ·rw[List.length_map];omega
 ·rw[List.length_append,List.length_cons,List.length_nil];omega
theorem za9{kvs:List (κ×V)}{k:κ}(v:V)(h:S6 kvs k=none):qb4 kvs k v=kvs++[(k,v)]:=by
 unfold qb4
 rw[qv5,h]
 exact if_neg (by decide)
theorem wa5.isSome_eq{o:Option V}{u:Option Value}(r:wa5 o u):o.isSome=u.isSome:=by
 cases o with
 | none=>cases u with
   | none=>rfl
   | some _=>exact(show False from r).elim
 | some _=>cases u with
   | none=>exact(show False from r).elim
   | some _=>rfl
theorem wa5.getD{o:Option V}{u:Option Value}{d:V}{d':Value}(r:wa5 o u)(rd:M4 d d'):M4 (o.getD d) (u.getD d'):=by
 cases o with
 | none=>cases u with
   | none=>exact rd
   | some _=>exact(show False from r).elim
 | some _=>cases u with
   | none=>exact(show False from r).elim
   | some _=>exact r
theorem KV.val{kvs:List (κ×V)}{vs:List (κ×Value)}(r:KV kvs vs)(k:κ):wa5 (S6 kvs k) (valueAt vs k):=by
 unfold KV at r
 induction r with
 | nil=>exact True.intro
 | @cons p q ps qs h t ih =>
   obtain⟨h1,h2⟩:=h
   by_cases e:p.1=k
   ·have e':q.1=k:=h1.symm.trans e
    have b:valueAt (q::qs) k=some q.2:=by simp[valueAt,List.find?_cons,e']
    rw[W0 e,b];exact h2
   ·have e':¬q.1=k:=fun z=>e (h1.trans z)
    have b:valueAt (q::qs) k=valueAt qs k:=by simp[valueAt,List.find?_cons,e']
    rw[W4 e,b];exact ih
theorem KV.any{kvs:List (κ×V)}{vs:List (κ×Value)}(r:KV kvs vs)(k:κ):(kvs.any fun kv=>decide (kv.1=k))=vs.any fun kv=>decide (kv.1=k):=by
 unfold KV at r
 induction r with
 | nil=>rfl
 | cons h t ih=>rw[List.any_cons,List.any_cons,ih,h.1]
theorem KV.repl{kvs:List (κ×V)}{vs:List (κ×Value)}(r:KV kvs vs)(k:κ)(ry:M4 y u) :
 KV (kvs.map fun kv=>if kv.1=k then(kv.1,y) else kv) (vs.map fun kv=>if kv.1=k then(kv.1,u) else kv):=by
 unfold KV at r ⊢
 induction r with
 | nil=>exact .nil
 | @cons p q ps qs h t ih =>
   rw[List.map_cons,List.map_cons]
   refine .cons ?_ ih
   obtain⟨h1,h2⟩:=h
   by_cases e:p.1=k
   ·rw[if_pos e,if_pos (h1.symm.trans e)];exact⟨h1,ry⟩
   ·rw[if_neg e,if_neg (fun z=>e (h1.trans z))];exact⟨h1,h2⟩
theorem KV.put{kvs:List (κ×V)}{vs:List (κ×Value)}(r:KV kvs vs)(k:κ)(ry:M4 y u):KV (qb4 kvs k y) (stored vs k u):=by
 unfold qb4 stored
 rw[r.any k]
 by_cases e:(vs.any fun kv=>decide (kv.1=k))=true
 ·rw[if_pos e,if_pos e];exact r.repl k ry
 ·rw[if_neg e,if_neg e];exact Paired.snoc r ⟨rfl,ry⟩
theorem KV.length{kvs:List (κ×V)}{vs:List (κ×Value)}(r:KV kvs vs):kvs.length=vs.length:=Paired.length r
end
theorem xq1{k:Key}(r:M4 (kV k) u):(R4 P w).is k u=true:=by
 cases k with
 | inl i=>obtain⟨t,e⟩:=(show ∃ t,u=Value.int i t from r);subst e;exact xz7 P w i t
 | inr x=>obtain⟨t,e⟩:=(show ∃ t,u=Value.str x t from r);subst e;exact xz8 P w x t
theorem xq2{P:Program}{w:World}:∀ {ks:List Key} {us:List Value},J9 (ks.map kV) us->ItemsAre (R4 P w) ks us
 | [],_,r=>by rw[List.map_nil] at r;cases r;exact .nil
 | k::ks,_,r=>by
   rw[List.map_cons] at r
   cases r with
   | cons h t=>exact .cons (xq1 h) (xq2 t)
abbrev KT(H:Hp):List (List Key×V)->List (List Key×Addr×Value)->Prop:=Paired fun p q=>p.1=q.1/\H q.2.1=some (.tup (p.1.map kV))/\M4 p.2 q.2.2
variable{kvs:List (List Key×V)}
theorem KT.val{xs:List (List Key×Addr×Value)}(r:KT H kvs xs)(k:List Key):wa5 (S6 kvs k) ((atKey xs k).map (·.2)):=by
 induction r with
 | nil=>exact True.intro
 | @cons p q ps qs h t ih =>
   obtain⟨h1,_,h2⟩:=h
   by_cases e:p.1=k
   ·have e':q.1=k:=h1.symm.trans e
    have b:atKey (q::qs) k=some q.2:=by simp[atKey,List.find?_cons,e']
    rw[W0 e,b];exact h2
   ·have e':¬q.1=k:=fun z=>e (h1.trans z)
    have b:atKey (q::qs) k=atKey qs k:=by simp[atKey,List.find?_cons,e']
    rw[W4 e,b];exact ih
theorem KT.repl{xs:List (List Key×Addr×Value)}(r:KT H kvs xs)(k:List Key)(ry:M4 y u) :
 KT H (kvs.map fun kv=>if kv.1=k then(kv.1,y) else kv) (xs.map (putAt k u)):=by
 induction r with
 | nil=>exact .nil
 | @cons p q ps qs h t ih =>
   rw[List.map_cons,List.map_cons]
   refine .cons ?_ ih
   obtain⟨h1,h2,h3⟩:=h
   unfold putAt
   by_cases e:p.1=k
   ·rw[if_pos e,if_pos (h1.symm.trans e)];exact⟨h1,h2,ry⟩
   ·rw[if_neg e,if_neg (fun z=>e (h1.trans z))];exact⟨h1,h2,h3⟩
theorem KT.put{xs:List (List Key×Addr×Value)}(r:KT H kvs xs)(k:List Key)(hb:H b=some (.tup (k.map kV)))(ry:M4 y u) :
 KT H (qb4 kvs k y) (storedH xs k b u):=by
 have e:(kvs.any fun kv=>decide (kv.1=k))=(atKey xs k).isSome:=by
  rw[qv5,(r.val k).isSome_eq,Option.isSome_map]
 unfold qb4 storedH
 rw[e]
 by_cases q:(atKey xs k).isSome=true
 ·rw[if_pos q,if_pos q];exact r.repl k ry
 ·rw[if_neg q,if_neg q];exact Paired.snoc r ⟨rfl,hb,ry⟩
theorem KT.keeps{xs:List (List Key×Addr×Value)}(r:KT H kvs xs)(ht:∀ b ys,H b=some (.tup ys)->H' b=some (.tup ys)):KT H' kvs xs :=
 Paired.mapP r fun _ _ z=>⟨z.1,ht _ _ z.2.1,z.2.2⟩
theorem zt6{u:HO}(ok:HOk P w H h)(e:Rd H a u):O8 P w H h a u:=e.ok ok
theorem wp3{kvs:List (Key×V)}(ok:HOk P w H h)(e:Rd H a (.dK kvs)):kvs.length<=sizeLine/\(a == sysModules)=false/\∃ vs,KV kvs vs/\h.DictOf (R4 P w) a vs :=
 show O8 P w H h a (.dK kvs) from zt6 ok e
theorem zt7{kvs:List (Key×V)}(ok:HOk P w H h)(e:H a=some (.dK kvs)):kvs.length<=sizeLine/\(a == sysModules)=false/\∃ vs,KV kvs vs/\h.DictOf (R4 P w) a vs:=wp3 ok (.inl e)
theorem wj8{ks:List Key}(ok:HOk P w H h)(e:H a=some (.tup (ks.map kV))):(tupleKind (R4 P w)).is h ks a:=by
 obtain⟨_,its,r,o,h1,h2,n,h3⟩:=(show O8 P w H h a (.tup (ks.map kV)) from ok a _ e)
 exact⟨o,its.toArray,n,h1,h2,h3,by simpa using xq2 r⟩
theorem ww4(ok:HOk P w H h)(e:Rd H a (.dT kvs)):kvs.length<=sizeLine/\(a == sysModules)=false /\
 ∃ xs,KT H kvs xs/\h.DictOfH (tupleKind (R4 P w)) a xs:=by
 obtain⟨z,y,xs,r,o,es,ep,h1,h2,h3,h4,h5⟩:=(show O8 P w H h a (.dT kvs) from zt6 ok e)
 refine⟨z,y,xs,r,o,es,ep,h1,h2,h3,h4,fun x hx=>?_,h5⟩
 have all:∀ {l:List (List Key×V)} {m:List (List Key×Addr×Value)},KT H l m->∀ x∈m,(tupleKind (R4 P w)).is h x.1 x.2.1:=by
  intro l m q
  induction q with
  | nil=>intro x hx;exact nomatch hx
  | @cons p q ps qs hq t ih =>
    intro x hx
    rcases List.mem_cons.mp hx with e|hx
    ·subst e
     exact wj8 ok (by rw[<-hq.1];exact hq.2.1)
    ·exact ih x hx
 exact all r x hx
theorem Ag5(ok:HOk P w H h)(e:H a=some (.dT kvs)):kvs.length<=sizeLine/\(a == sysModules)=false /\
 ∃ xs,KT H kvs xs/\h.DictOfH (tupleKind (R4 P w)) a xs:=ww4 ok (.inl e)
def wa8(H:Hp)(a:Addr)(y:V)(r:Option V):Prop :=
 (∃ kvs k,Rd H a (.dK kvs)/\y=kV k/\r=S6 kvs k)\/∃ kvs k b,Rd H a (.dT kvs)/\y=.ref b/\H b=some (.tup (k.map kV))/\r=S6 kvs k
def ya7(H:Hp)(a:Addr)(y v:V)(H':Hp):Prop :=
 (∃ kvs k,H a=some (.dK kvs)/\y=kV k/\kvs.length<sizeLine/\H'=upd H a (.dK (qb4 kvs k v))) \/
 ∃ kvs k b,H a=some (.dT kvs)/\y=.ref b/\H b=some (.tup (k.map kV))/\kvs.length<sizeLine/\H'=upd H a (.dT (qb4 kvs k v))
theorem wa8.k{kvs:List (Key×V)}{k:Key}(e:H a=some (.dK kvs)):wa8 H a (kV k) (S6 kvs k):=.inl ⟨kvs,k,.inl e,rfl,rfl⟩
theorem wa8.t{k:List Key}(e:H a=some (.dT kvs))(eb:H b=some (.tup (k.map kV))):wa8 H a (.ref b) (S6 kvs k):=.inr ⟨kvs,k,b,.inl e,rfl,eb,rfl⟩
theorem ya7.k{kvs:List (Key×V)}{k:Key}(e:H a=some (.dK kvs))(hl:kvs.length<sizeLine):ya7 H a (kV k) v (upd H a (.dK (qb4 kvs k v))):=.inl ⟨kvs,k,e,rfl,hl,rfl⟩
theorem ya7.t{k:List Key}(e:H a=some (.dT kvs))(eb:H b=some (.tup (k.map kV)))(hl:kvs.length<sizeLine) :
 ya7 H a (.ref b) v (upd H a (.dT (qb4 kvs k v))):=.inr ⟨kvs,k,b,e,rfl,eb,hl,rfl⟩
section
variable{r:Value}{o:Option V}
theorem Inv.big(I:Inv X pins σ H s):sysModules<s.heap.objs.size:=by
 have h:mainGlobals<s.heap.objs.size:=(I.mod.glob.keeps I.bk).lt
 exact Nat.lt_trans (by decide) h
theorem yv6(hu:A.units+1<cLine)(I:Inv X pins σ H s)(g:wa8 H a y (some v))(ry:M4 y u)(h:∀ w' s',Inv X pins σ H s'->M4 v w'->Q w' s') :
 wpAny (model X.prog X.w) A (getItem (.ref a) u) Q E s:=by
 rcases g with⟨kvs,k,e,ey,l⟩|⟨kvs,k,b,e,ey,eb,l⟩
 ·subst ey
  obtain⟨z,hd,vs,rel,dd⟩:=wp3 I.hok e
  obtain⟨w',hw,rw'⟩:=wa5.some_of (v:=v) (o:=valueAt vs k) (by rw[l];exact rel.val k)
  exact wpAny_getItem_of (xq1 ry) dd.mapOf hw (h w' _ (I.tok _) rw')
 ·subst ey
  cases (show u=Value.ref b from ry)
  obtain⟨z,hd,xs,rel,dd⟩:=ww4 I.hok e
  obtain⟨w',hw,rw'⟩:=wa5.some_of (v:=v) (o:=(atKey xs k).map (·.2)) (by rw[l];exact rel.val k)
  obtain⟨p,hp,hp2⟩:=Option.map_eq_some_iff.mp hw
  refine wpAny_getItem_heap (tupleKind_room_in1 hu) (wj8 I.hok eb) dd hp ?_
  rw[hp2]
  exact h w' _ (I.tok _) rw'
theorem Al8(hu:A.units+1<cLine)(I:Inv X pins σ H s)(g:wa8 H a y o)(ry:M4 y u)(h:∀ s',Inv X pins σ H s'->Q (.bool o.isSome) s') :
 wpAny (model X.prog X.w) A (compareOp .In u (.ref a)) Q E s:=by
 rcases g with⟨kvs,k,e,ey,l⟩|⟨kvs,k,b,e,ey,eb,l⟩
 ·subst ey
  obtain⟨z,hd,vs,rel,dd⟩:=wp3 I.hok e
  refine wpAny_in_of (xq1 ry) hd dd.mapOf ?_
  rw[<-(rel.val k).isSome_eq,<-l]
  exact h _ (I.tok _)
 ·subst ey
  cases (show u=Value.ref b from ry)
  obtain⟨z,hd,xs,rel,dd⟩:=ww4 I.hok e
  refine wpAny_in_heap (tupleKind_room_in1 hu) (wj8 I.hok eb) hd dd ?_
  have q:=(rel.val k).isSome_eq
  rw[Option.isSome_map] at q
  rw[<-q,<-l]
  exact h _ (I.tok _)
theorem zm4(hu:A.units+1<cLine)(I:Inv X pins σ H s)(g:wa8 H a y o)(ry:M4 y u)(h:∀ s',Inv X pins σ H s'->Q (.bool (!o.isSome)) s') :
 wpAny (model X.prog X.w) A (compareOp .NotIn u (.ref a)) Q E s:=by
 rcases g with⟨kvs,k,e,ey,l⟩|⟨kvs,k,b,e,ey,eb,l⟩
 ·subst ey
  obtain⟨z,hd,vs,rel,dd⟩:=wp3 I.hok e
  refine wpAny_notIn_of (xq1 ry) hd dd.mapOf ?_
  rw[<-(rel.val k).isSome_eq,<-l]
  exact h _ (I.tok _)
 ·subst ey
  cases (show u=Value.ref b from ry)
  obtain⟨z,hd,xs,rel,dd⟩:=ww4 I.hok e
  refine wpAny_notIn_heap (tupleKind_room_in1 hu) (wj8 I.hok eb) hd dd ?_
  have q:=(rel.val k).isSome_eq
  rw[Option.isSome_map] at q
  rw[<-q,<-l]
  exact h _ (I.tok _)
theorem yp2{ob:HO}(I:Inv X pins σ H s)(mu:Mut (H a))(hs:Heap.SameBut a s.heap h')(he:∃ q,h'.get? a=some q)(new:O8 X.prog X.w (upd H a ob) h' a ob)(ht:autoParam (0<t') zAt) :
 Inv X pins σ (upd H a ob) {s with heap:=h',toks:=t'} :=
 I.write (x:=a) (e:=a) mu (.inl rfl) (fun b q hb z=>(hs.2 b hb).trans z) he new
theorem zy2{kvs:List (Key×V)}{vs:List (Key×Value)}(z:kvs.length<=sizeLine)(hd:(a == sysModules)=false)(rel:KV kvs vs)(dd:h'.DictOf (R4 P w) a vs) :
 O8 P w H' h' a (.dK kvs):=⟨z,hd,vs,rel,dd⟩
theorem yv7{Q:Unit->Shared->Prop}(hu:A.units+1<cLine)(I:Inv X pins σ H s)(g:ya7 H a y v H')(ry:M4 y u)(rv:M4 v r)(h:∀ s',Inv X pins σ H' s'->Q () s') :
 wpAny (model X.prog X.w) A (setItem (.ref a) u r) Q E s:=by
 rcases g with⟨kvs,k,e,ey,l,eH⟩|⟨kvs,k,b,e,ey,eb,l,eH⟩
 ·subst ey eH
  obtain⟨z,hd,vs,rel,dd⟩:=zt7 I.hok e
  have hz:vs.length<=sizeLine:=by rw[<-rel.length];exact z
  have hl:(qb4 kvs k v).length<=sizeLine:=by have:=qv6 kvs k v;omega
  refine wpAny_setItem_pairs (hsz:=hz) (xq1 ry) dd fun h' dd' hs=>h _ ?_
  have he:∃ q,h'.get? a=some q:=let ⟨q,_,_,hq,_⟩:=dd';⟨q,hq⟩
  exact yp2 I (by rw[e];exact True.intro) hs he (zy2 hl hd (rel.put k rv) dd')
 ·subst ey eH
  cases (show u=Value.ref b from ry)
  obtain⟨z,hd,xs,rel,dd⟩:=Ag5 I.hok e
  have hz:xs.length<=sizeLine:=by rw[<-Paired.length rel];exact z
  have hl:(qb4 kvs k v).length<=sizeLine:=by have:=qv6 kvs k v;omega
  refine wpAny_setItem_heap (hsz:=hz) (tupleKind_room_in1 hu) (wj8 I.hok eb) dd fun h' dd' hs=>h _ ?_
  obtain⟨q,es,ep,hq,h2,h3,h4,_,h5⟩:=dd'
  refine yp2 I (by rw[e];exact True.intro) hs ⟨q,hq⟩ ⟨hl,hd,_,(rel.put k eb rv).keeps fun c ys ec=>?_,q,es,ep,hq,h2,h3,h4,h5⟩
  rw[C6 (Ae9 ec e (fun z=>nomatch z))]
  exact ec
end
section
variable{kvs:List (Key×V)}{k:Key}
theorem Ag6(I:Inv X pins σ H s)(e:Rd H a (.dK kvs))(h:∀ t s',Inv X pins σ H s'->Q (.int kvs.length t) s'):wpAny (model X.prog X.w) A (call (.builtin "len") [.ref a]) Q E s:=by
 obtain⟨z,hd,vs,rel,dd⟩:=wp3 I.hok e
 refine call_len_dict hd dd (by rw[<-rel.length];rw[sizeLine_eq] at z;omega) ?_
 rw[<-rel.length]
 exact h _ _ (I.tok _)
end
def Ag7(i:Expr):Prop:=∀ ov iv,subscripted i false ov iv=operate [ov,iv] (getItem ov iv)
variable{value:Expr}
theorem zm5{slice:Expr}{id:String}(hl:typeLookup (.type T) "__getitem__"=pure (some (.builtin id)))(hs:Ag7 slice)(h:wpAny (model prog w) A (eval value env) (fun o s₁=>wpAny (model prog w) A (eval slice env) (fun i s₂=>s₂.TypeIs o T/\wpAny (model prog w) A (getItem o i) Q E s₂) E s₁) E s) :
 wpAny (model prog w) A (eval (.Subscript value slice pos) env) Q E s:=by
 refine Subscript_ (wpAny_mono h (fun o s₁ h₁=>wpAny_mono h₁ (fun i s₂ h₂=>?_) fun _ _ x=>x) fun _ _ x=>x)
 obtain⟨hT,h₂⟩:=h₂
 unfold subscriptTail
 refine wpAny_bind ?_
 rw[getitemInPython_of_ne hT.not_modules]
 refine wpAny_bind (wpAny_specialOf hT hl ?_)
 have fin:wpAny (model prog w) A (subscripted slice false o i) (fun r s₃=>wpAny (model prog w) A (letTemporaryGo value o r >>= fun _=>pure r) Q E s₃) E s₂:=by
  rw[hs o i]
  exact wpAny_operating (wpAny_mono h₂ (fun r s₃ h₃=>wpAny_bind (wpAny_letTemporaryGo (wpAny_pure h₃))) fun _ _ x=>x)
 first
  | exact wpAny_pure (wpAny_bind fin)
  | exact wpAny_bind (wpAny_pure (wpAny_bind fin))
  | exact wpAny_bind fin
theorem ya8{o:Option V}(I:Inv X pins σ H s)(g:wa8 H a y o):s.TypeIs (.ref a) "dict":=by
 rcases g with⟨kvs,k,e,_,_⟩|⟨kvs,k,b,e,_,_,_⟩
 ·obtain⟨_,_,vs,_,dd⟩:=wp3 I.hok e
  exact dd.typeIs
 ·obtain⟨_,_,xs,_,dd⟩:=ww4 I.hok e
  exact dd.typeIs
def zb0(td ty:TE):TE:=fun σ H Q=>td σ H fun x H1=>ty σ H1 fun y H2=>∃ a v,x=.ref a/\wa8 H2 a y (some v)/\Q v H2
variable{td tv ty:TE}{tpos:Pos}
section
variable{i:Expr}
theorem zm6(hu:X.A.units+1<cLine)(ho:PE X o td)(hi:PE X i ty)(hs:Ag7 i):PE X (.Subscript o i pos) (zb0 td ty):=by
 intro pins s σ H Q I h
 refine zm5 PySem.F.slot_dict_getitem.lookup hs (thn (ho pins s σ H _ I h) fun u s1 ⟨x,H1,I1,rx,q1⟩=>thn (hi pins s1 σ H1 _ I1 q1) fun iv s2 zq=>?_)
 obtain⟨y,H2,I2,ry,a,v,ex,g,q2⟩:=zq
 subst ex
 obtain rfl:u=Value.ref a:=rx
 exact⟨ya8 I2 g,yv6 hu I2 g ry fun w' s3 I3 rw'=>⟨v,H2,I3,rw',q2⟩⟩
end
theorem zb1(h:Heap)(hb:sysModules<h.objs.size):O8 P w H (h.push {cls:=.type "dict",data:=.dict #[]}) h.objs.size (.dK []) :=
 ⟨Nat.zero_le _,beq_eq_false_iff_ne.mpr (Ne.symm (Nat.ne_of_lt hb)),[],.nil,Heap.DictOf.new h⟩
theorem zb2(h:Heap)(hb:sysModules<h.objs.size):O8 P w H (h.push {cls:=.type "dict",data:=.dict #[]}) h.objs.size (.dT []) :=
 ⟨Nat.zero_le _,beq_eq_false_iff_ne.mpr (Ne.symm (Nat.ne_of_lt hb)),[],.nil,_,#[],0,Heap.get?_push_size _ rfl,⟨rfl,rfl,rfl⟩,rfl,rfl,List.nodup_nil⟩
def zb3:TE:=fun _ H Q=>∀ p,H p=none->Q (.ref p) (upd H p (.dK []))
def zb4:TE:=fun _ H Q=>∀ p,H p=none->Q (.ref p) (upd H p (.dT []))
theorem zb5:PE X (.Dict [] [] pos) zb3:=fun pins s σ H Q I h =>
 wpAny_Dict_empty ⟨.ref s.heap.objs.size,_,I.laid (a:=s.heap.objs.size) (o:=.dK []) (t':=s.toks) (fun _ _ q=>Heap.get?_push_of_some _ q) (Nat.le_refl _) (zb1 s.heap I.big),rfl,h _ (I.hok.fresh (Nat.le_refl _))⟩
theorem zb6:PE X (.Dict [] [] pos) zb4:=fun pins s σ H Q I h =>
 wpAny_Dict_empty ⟨.ref s.heap.objs.size,_,I.laid (a:=s.heap.objs.size) (o:=.dT []) (t':=s.toks) (fun _ _ q=>Heap.get?_push_of_some _ q) (Nat.le_refl _) (zb2 s.heap I.big),rfl,h _ (I.hok.fresh (Nat.le_refl _))⟩
structure M1(X:Cx)(o:Expr)(m:Str)(apos:Pos)(e:Expr)(cpos:Pos):Prop where
 base:attributeBase o m X.env (eval o X.env)=eval o X.env
 few:((backTo cpos (starEach [e] X.env)).all (fun x=>!x.1) && (backToKw cpos (keywordEach [] X.env)).all (fun x=>x.1.isSome)
  && decide (([e]:List Expr).length+([]:List Keyword).length+(if([]:List Keyword).isEmpty then 0 else 1)<30))=true
 line:(apos.endLine == cpos.line)=true
 trees:backTo cpos (starEach [e] X.env)=[(false,eval e X.env)]
def IsD(H:Hp)(a:Addr):Prop:=(∃ kvs,Rd H a (.dK kvs))\/∃ kvs,Rd H a (.dT kvs)
theorem zy3(I:Inv X pins σ H s)(d:IsD H a) :
 s.TypeIs (.ref a) "dict"/\(∀ b,Value.ref a=.ref b->∃ ob,s.heap.get? b=some ob/\ob.dict=none)/\(a == sysModules)=false:=by
 rcases d with⟨kvs,e⟩|⟨kvs,e⟩
 ·obtain⟨_,hd,vs,_,dd⟩:=wp3 I.hok e
  refine⟨dd.typeIs,fun b q=>?_,hd⟩
  cases q
  obtain⟨ob,_,_,h1,h2,_⟩:=dd
  exact⟨ob,h1,h2.2.1⟩
 ·obtain⟨_,hd,xs,_,dd⟩:=ww4 I.hok e
  refine⟨dd.typeIs,fun b q=>?_,hd⟩
  cases q
  obtain⟨ob,_,_,h1,h2,_⟩:=dd
  exact⟨ob,h1,h2.2.1⟩
section
variable{d:V}{r:Value}{o:Option V}
theorem zy4(hu:A.units+1<cLine)(I:Inv X pins σ H s)(g:wa8 H a y o)(ry:M4 y u)(h:∀ w' s',Inv X pins σ H s'->M4 (o.getD .non) w'->Q w' s') :
 wpAny (model X.prog X.w) A (call (.builtin "dict.get") [.ref a,u]) Q E s:=by
 rcases g with⟨kvs,k,e,ey,l⟩|⟨kvs,k,b,e,ey,eb,l⟩
 ·subst ey
  obtain⟨z,hd,vs,rel,dd⟩:=wp3 I.hok e
  refine call_meetsIn PySem.F.slot_dict_get dd.typeIs PySem.F.entry_dict_get (PySem.F.args_dict_get_2 _ _) (meets_dict_get (R4 X.prog X.w) a (xq1 ry) hd) ⟨_,dd.mapOf,h _ _ (I.tok _) ?_⟩
  rw[l]
  exact(rel.val k).getD rfl
 ·subst ey
  cases (show u=Value.ref b from ry)
  obtain⟨z,hd,xs,rel,dd⟩:=ww4 I.hok e
  refine call_meetsIn PySem.F.slot_dict_get dd.typeIs PySem.F.entry_dict_get (PySem.F.args_dict_get_2 _ _) (meetsH_dict_get (tupleKind (R4 X.prog X.w)) a b hd) ⟨tupleKind_room_in1 hu,k,xs,wj8 I.hok eb,dd,h _ _ (I.tok _) ?_⟩
  rw[l]
  exact(rel.val k).getD rfl
end
def yi9(td ty:TE):TE:=fun σ H Q=>td σ H fun x H1=>∃ a,x=.ref a/\IsD H1 a/\ty σ H1 fun y H2=>∃ o,wa8 H2 a y o/\Q (o.getD .non) H2
variable{tx:TE}
section
variable{f:Expr}
theorem zb7(hu:X.A.units+1<cLine)(ho:PE X o td)(he:PE X e ty)(m:M1 X o "get" apos e cpos):PE X (.Call (.Attribute o "get" apos) [e] [] cpos) (yi9 td ty):=by
 intro pins s σ H Q I h
 refine wpAny_Call_method m.base m.few m.line PySem.F.plainAttrs_dict PySem.F.slot_dict_get PySem.F.type_dict_get (thn (ho pins s σ H _ I h) fun u s1 zq=>?_)
 obtain⟨x,H1,I1,rx,a,ex,d,q1⟩:=zq
 subst ex
 obtain rfl:u=Value.ref a:=rx
 obtain⟨t1,t2,_⟩:=zy3 I1 d
 refine⟨t1,t2,?_⟩
 rw[m.trees]
 refine Calls.callWith_builtin rfl (Calls.evalArgs_plain (Calls.spliced_cons (thn (he pins s1 σ H1 _ I1 q1) fun iv s2 ⟨y,H2,I2,ry,ov,g,q2⟩=>Calls.spliced_nil ?_)))
 exact zy4 hu I2 g ry fun w' s3 I3 rw'=>⟨_,H2,I3,rw',q2⟩
end
namespace Att
open PySem PySem.W PySem.Calls PyProof.Rows
theorem wq5{P:Params}{h:Heap}:∀ (ns:List Int) (vs:List Value),WellAll P h vs (ns.map WData.int)->IntsAre vs ns:=by
 intro ns
 induction ns with
 | nil =>
   intro vs w
   rw[List.map_nil] at w
   cases w
   exact .nil
 | cons n ns ih =>
   intro vs w
   rw[List.map_cons] at w
   cases w with
   | cons a b =>
     cases a
     exact .cons _ _ (ih _ b)
theorem script_of{l:OpenLaw}{n:Nat}(hn:l.most=some n){P:Params}{h:Heap}{args:List WData}{vals:List Value}
 (hpre:l.row.toRowW.claim.pre args=true) (hwl:WellAll P h vals args) :
 ∃ a vs ns,vals=[Value.ref a]/\args=[WData.list (ns.map WData.int)]/\h.get? a=some {cls:=.type "list",data:=.seq vs.toArray}/\IntsAre vs ns/\ns.length<=n:=by
 have hsh:WShape.hasAll [] args [.list .int]=true:=(pre_splitW hpre).1
 have hc:l.pre.holds [] {args:=args}=true:=(pre_splitW hpre).2
 obtain⟨d,r,rfl,h1,h2⟩:=hasAllW_cons hsh
 obtain rfl:=hasAllW_nil h2
 obtain⟨xs,rfl,h3⟩:=hasW_list h1
 obtain⟨ns,rfl⟩:=items_int h3
 have hlen:ns.length<=n:=by
  unfold OpenLaw.pre at hc
  have h4:(WTm.not (.lt (.lit (.int (n:Int))) (.len (.arg 0)))).holds [] {args:=[.list (ns.map .int)]}=true:=by
   have h4:=(holds_andW hc).1
   rw[hn] at h4
   exact h4
  have h5:=condW_of h4 (w_not (w_lt w_lit (w_len_list (w_arg rfl))))
  rw[List.length_map] at h5
  refine Nat.le_of_not_lt fun q=>?_
  have q':(n:Int)<((ns.length:Nat):Int):=by omega
  first
   | (rw[decide_eq_true q'] at h5;exact absurd h5 (by decide))
   | (simp at h5;omega)
 cases hwl with
 | cons w1 w2 =>
   cases w2
   cases w1 with
   | list ho hall=>exact⟨_,_,ns,rfl,rfl,ho,wq5 ns _ hall,hlen⟩
theorem post_true(l:OpenLaw)(args:List WData):l.row.toRowW.claim.post args (.bool true) args=true :=
 postW_of (r:=l.row.toRowW) (X:=(true == true))
  (show WShape.has [] (.bool true) .bool=true by first|rfl|decide|simp[WShape.has,WShape.arms,WShape.armsAll])
  (show(WTm.eq .res (.lit (.bool true))).value [] {args:=args,res:=some (.bool true),after:=args}=some (.bool (true == true)) from w_eq_bool (w_res rfl) w_lit) rfl
end Att
theorem xq3:∀ {vs:List Value} {ns:List Int},IntsAre vs ns->J9 (ns.map V.int) vs
 | _,_,.nil=>.nil
 | _,_,.cons n t h=>.cons ⟨t,rfl⟩ (xq3 h)
def zy5(H:Hp):Prop:=∀ b,H b=none\/∃ o xs,H b=some (.frz o (.lst xs))
variable{ns:List Int}
theorem zb8 {mb:Str->Option Value} {k:Nat} {fa:Addr} {s₁:Shared} {vs:List Value} (KX:K.In s₁.heap) (hns:s₁.heap.Ns mainGlobals mg) (hb:s₁.heap.Ns builtinsNs mb) (hbb:∀ x:Str,x ≠ "__name__"->mb x=bootBuiltins x) (hlim:s₁.heap.NoLimit) (hg:s₁.gens=#[]) (htk:0<s₁.toks) (ha:s₁.heap.get? a=some {cls:=.type "list",data:=.seq vs.toArray}) (hi:IntsAre vs ns) (hl:ns.length<=sizeLine) (hr:qd6 k callerA) (F:∀ base:Heap,K.In base->base.Ns mainGlobals mg->M0 P w K mg base CX k fa fd [x] sp) (hbind:∀ (s:Shared) (u:Value),BindsTo s fd ⟨[u],[]⟩ [(x,u)]) (hsp:∀ H:Hp,zy5 H->SqL K H a (ns.map V.int)->sp [.ref a] H (fun v _=>v=.bl true) fun _ _ _=>False) (hCX:∀ H e s',CX [] H s₁ (fun _ _ _=>False) e s'->False) :
 codeAny (model P w) callerA (.call (.ref fa) ⟨[.ref a],[]⟩) (fun r s'=>r=.ok (.ret (.bool true))/\OldK s₁.heap s'.heap/\s'.os=s₁.os/\AllBare s'.gens) s₁:=by
 have rv:=xq3 hi
 have lenV:=hi.length
 have core:∀ H:Hp,zy5 H->SqL K H a (ns.map V.int)->HOk P w H s₁.heap->(∀ b,H b≠none->b=a)->(H a≠none->K.lookup a=none) ->
  codeAny (model P w) callerA (.call (.ref fa) ⟨[.ref a],[]⟩) (fun r s'=>r=.ok (.ret (.bool true))/\OldK s₁.heap s'.heap/\s'.os=s₁.os/\AllBare s'.gens) s₁:=by
  intro H hO hS hok hA hK
  have base_of:∀ {b:Addr} {o:Obj},s₁.heap.get? b=some o->H b=none->(xs4 s₁.heap H).get? b=some o:=fun e n=>yz4 e n
  have noA:∀ {b:Addr} {o:Obj} {es:Array DictEntry} {ep:Nat},s₁.heap.get? b=some o->o.data=.dict es ep->H b=none:=fun{b o es ep} e d=>by
   cases q:H b with
   | none=>rfl
   | some u =>
     have e':b=a:=hA b (by rw[q];simp)
     subst e'
     rw[ha] at e;cases e
     have d':Data.seq vs.toArray _=Data.dict es ep:=d
     cases d'
  have nsK:∀ {b:Addr} {m:Str->Option Value},s₁.heap.Ns b m->(xs4 s₁.heap H).Ns b m:=fun{b m} ⟨o,es,ep,e,d,r⟩=>⟨o,es,ep,base_of e (noA e d),d,r⟩
  have hKb:K.In (xs4 s₁.heap H):=fun b o e=>base_of (KX b o e) (by
   cases q:H b with
   | none=>rfl
   | some u =>
     have e':b=a:=hA b (by rw[q];simp)
     subst e'
     rw[hK (by rw[q];simp)] at e;cases e)
  have hM:Mod K mg (xs4 s₁.heap H):=⟨hKb,nsK hns,⟨mb,nsK hb,hbb⟩,let ⟨mc,h1,h2⟩:=hlim;⟨mc,nsK h1,h2⟩⟩
  have e0:yi2 P w K mg (xs4 s₁.heap H) callerA [] s₁ H:=⟨rfl,hM,fun b o e=>zl0 e,Nat.le_of_eq (yu0 _ _),trivial,fun b hb=>absurd (show b∈([]:List Addr) from hb) (by simp),hok,.of_eq hg,htk⟩
  refine codeAny_mono ((F _ hKb (nsK hns)).run callerA [] s₁ H ⟨[.ref a],[]⟩ [.ref a] [.ref a] _ _ hr e0 (hbind s₁ (.ref a)) (.cons rfl .nil) (hsp H hO hS)) fun r s' h=>?_
  cases r with
  | error e=>exact(hCX H e s' h).elim
  | ok fl =>
    cases fl with
    | next=>exact False.elim h
    | brk=>exact False.elim h
    | cont=>exact False.elim h
    | ret u =>
      obtain⟨v,H',_,os,bare,un,hok',r',q⟩:=h
      have q':v=.bl true:=q
      subst q'
      obtain rfl:u=Value.bool true:=r'
      refine⟨rfl,OldK.of_keep fun b o e=>?_,os,bare⟩
      cases q:H b with
      | none=>exact un.keep b o e q (by intro z;exact absurd (show b∈([]:List Addr) from z) (by simp)) (by simp)
      | some u =>
        rcases hO b with z|⟨ob,xs,z⟩
        ·rw[q] at z;cases z
        ·have z2:=un.frzs b ob _ z
         obtain⟨e1,_⟩:=hok b _ z
         obtain⟨e2,_⟩:=hok' b _ z2
         rw[e] at e1;cases e1
         exact e2
 cases hk:K.lookup a with
 | some o =>
   have e:=KX a o hk
   rw[ha] at e
   cases e
   refine core (fun _=>none) (fun _=>.inl rfl) (.inr ⟨_,vs.toArray,_,hk,rfl,rfl,rfl,by rw[List.size_toArray,lenV];exact hl,by simpa using rv⟩) (fun b u z=>by have z':(none:Option HO)=some u:=z;cases z') (fun b z=>absurd rfl z) fun z=>absurd rfl z
 | none =>
   refine core (fun b=>if b=a then some (.frz {cls:=.type "list",data:=.seq vs.toArray} (.lst (ns.map V.int))) else none) (fun b=>?_) (.inl (.inr ⟨{cls:=.type "list",data:=.seq vs.toArray},if_pos rfl⟩)) (fun b u z=>?_) (fun b z=>?_) fun _=>hk
   ·by_cases hb:b=a
    ·exact .inr ⟨_,_,if_pos hb⟩
    ·exact .inl (if_neg hb)
   ·by_cases hb:b=a
    ·have z':=(if_pos hb).symm.trans z
     cases z'
     subst hb
     exact⟨ha,by rw[List.length_map];exact hl,vs,_,rv,ha⟩
    ·have z':=(if_neg hb).symm.trans z
     cases z'
   ·by_cases hb:b=a
    ·exact hb
    ·exact absurd (if_neg hb) z
theorem ww5:∀ ns:List Int,PySem.W.ofPys (ns.map PyData.int)=ns.map PySem.W.WData.int
 | []=>by simp[PySem.W.ofPys]
 | n::ns=>by simp only[List.map_cons,PySem.W.ofPys,PySem.W.ofPy];rw[ww5 ns]
variable{as:List Addr}
theorem zm7{l:PySem.W.OpenLaw}{k:Nat}{q:Program}{loose:List Str}{XP:(Str->Option Value)->Heap->Prop}{z t:Nat}{d:DefRec}{K:Params->Fg}{CX:World->CXT}{sp:World->Sp}(hn:l.most=some n)(hn2:n<=sizeLine)(hdf:d.params.defaults=[])(hr:qd6 k callerA)(hk:∀ P,as=(K P).map (·.1))(h0:0<t) (F:∀ (w:World) (mg:Str->Option Value) (fa:Addr) (h:Heap),(K w.params).In h->h.Ns mainGlobals mg->mg d.name=some (.ref fa) ->
  ∃ fd:FuncData,(∀ (s:Shared) (u:Value),BindsTo s fd ⟨[u],[]⟩ [(x,u)]) /\
   ∀ base:Heap,(K w.params).In base->base.Ns mainGlobals mg->M0 l.prog w (K w.params) mg base (CX w) k fa fd [x] (sp w)) (hsp:∀ (w:World) (H:Hp) (a:Addr) (ns:List Int),ns.length<=n->zy5 H->SqL (K w.params) H a (ns.map V.int)->sp w [.ref a] H (fun v _=>v=.bl true) fun _ _ _=>False) (hCX:∀ (w:World) (H:Hp) (s:Shared) (e:Value) (s':Shared),CX w [] H s (fun _ _ _=>False) e s'->False) :
 PySem.W.WalkX q loose XP (PySem.W.X.obsZ as) (PySem.W.X.valZ K z t) l.row.toRowW d [] (fun f vs=>PySem.call f vs):=by
 intro w s₀ s₁ mg mb G y fa o pm cd doc dV kV ho hd hcd hD hmg hg args vals aa L hpre hlay hrd hwl hlo
 obtain rfl:dV=.none:=PySem.W.Dflts.none hD hdf
 obtain rfl:kV=.none:=PySem.W.Dflts.noKw hD
 obtain⟨a,vs,ns,rfl,rfl,hobj,hints,hlen⟩:=Att.script_of hn hpre hwl
 obtain⟨_,KI,_,htk⟩:=PySem.W.X.z_facts hk y
 have KX:=PySem.W.InK.keeps w _ _ KI L.keeps
 have tk:0<s₁.toks:=Nat.lt_of_lt_of_le h0 (PySem.W.X.script_toks (ns:=ns) (a:=a) (by rw[PySem.W.ofPy,ww5];exact L) htk)
 obtain⟨fd,hb,hF⟩:=F w mg fa _ KX G.T.g hmg
 refine PySem.W.enter_call (codeAny_mono (zb8 KX G.T.g G.T.b G.T.builtins G.T.nolimit hg tk hobj hints (Nat.le_trans hlen hn2) hr hF hb (fun H hO hS=>hsp w H a ns hlen hO hS) fun H e s'=>hCX w H s₁ e s') fun r s' hq=>?_)
 obtain⟨rfl,h2,h3,h4⟩:=hq
 exact⟨.inl ⟨.bool true,.bool true,[],rfl,fun _=>rfl,.bool true,Att.post_true l _,fun _=>⟨List.Pairwise.nil,fun _ hm=>(nomatch hm)⟩⟩,h2,h3,h4⟩
def wf4(s:Stmt):Arguments:=match s with
 | .FunctionDef _ a _ _ _ _ _ _ _ _=>a
 | _=>{posonlyargs:=[],args:=[],vararg:=none,kwonlyargs:=[],kw_defaults:=[],kwarg:=none,defaults:=[]}
def qq7(s:Stmt):List Stmt:=match s with
 | .FunctionDef _ _ b _ _ _ _ _ _ _=>b
 | _=>[]
def B4(s:Stmt):Scope:=match s with
 | .FunctionDef _ _ _ _ _ _ sc _ _ _=>sc
 | _=>{kind:=.function,names:=[],isGenerator:=false,isCoroutine:=false}
abbrev CX0:CXT:=fun _ _ _ _ _ _=>False
abbrev E0:XK:=fun _ _ _=>False
theorem B9:ww2 CX0 X E0:=fun _ _ _ _ _ _ _ h=>h.elim
structure Fun(K:Fg)(x qual:Str)(st:Stmt)(f:Addr)(fd:FuncData):Prop where
 ex:∃ (oc:Value) (od:Option Addr) (kV doc pm:Value) (an:Option Addr) (cdv ct:Value) (osl:Array (Option Value)),
  fd=PySem.W.fnOf x qual (wf4 st) (qq7 st) (B4 st) .none kV doc pm an cdv ct/\K.lookup f=some ⟨oc,od,.func fd,osl⟩/\PySem.W.codeIn K cdv qual=true
 kp:PySem.W.keepIn K (.ref f)=true
theorem Fun.ok{f:Addr}{k:Nat}(F:Fun K x qual st f fd)(S:D7 N ps (B4 st))(len:∀ vs H Q E,sp vs H Q E->vs.length=ps.length) (hbody:∀ (cdv:Value) (A:Around) (outer:List Env) (s:Shared) (H:Hp) (vs:List V) (Q:VK) (E:XK),qd6 k (A.deeper (envOfC qual (B4 st) s.heap.objs.size f cdv))->sp vs H Q E ->
  ∃ t,PSs (wa7 CX0 P w K mg base N qual (B4 st) f cdv A outer s H E).nox (qq7 st) t/\t {nx:=fun _ H'=>Q .non H',rt:=Q} (J0 N vs) H):M0 P w K mg base CX0 (k+1) f fd ps sp:=by
 obtain⟨oc,od,kV,doc,pm,an,cdv,ct,osl,rfl,lk,hcd⟩:=F.ex
 refine zt4 lk hcd S len fun A outer s H vs Q E hr hsp=>?_
 obtain⟨t,h,q⟩:=hbody cdv A outer s H vs Q E hr hsp
 exact⟨t,h.nox,q⟩
theorem Fun.binds{f:Addr}(F:Fun K x qual st f fd)(h:∀ (kV doc pm:Value) (an:Option Addr) (cdv ct:Value) (us:List Value),us.length=ps.length->bindArgs (PySem.W.fnOf x qual (wf4 st) (qq7 st) (B4 st) .none kV doc pm an cdv ct) ⟨us,[]⟩=pure (ps.zip us)):wf1 K fd ps []:=by
 obtain⟨oc,od,kV,doc,pm,an,cdv,ct,osl,rfl,lk,hcd⟩:=F.ex
 exact .all (h kV doc pm an cdv ct)
theorem zy6{f:Addr}{kV:Value}(l:K.lookup f=some ⟨oc,od,.func (PySem.W.fnOf x qual (wf4 st) (qq7 st) (B4 st) .none kV doc pm an cdv ct),osl⟩)(c:PySem.W.codeIn K cdv qual=true)(k:PySem.W.keepIn K (.ref f)=true):Fun K x qual st f (PySem.W.fnOf x qual (wf4 st) (qq7 st) (B4 st) .none kV doc pm an cdv ct):=⟨⟨oc,od,kV,doc,pm,an,cdv,ct,osl,rfl,l,c⟩,k⟩
theorem B7{k:Nat}(hr:qd6 k A):A.units+1<cLine:=Nat.lt_of_le_of_lt (Nat.add_le_add_left (by decide:1<=64) _) hr.units
theorem pv(i:Nat)(hN:autoParam (X.N[i]?=some x) zAr)(hv:Vis X.env.scope x:=by first|exact Or.inl rfl|exact Or.inr (Or.inl rfl)|exact Or.inr (Or.inr rfl))(hd:autoParam ((x == ("__debug__":Str))=false) zAd)(hcd:autoParam ((x == ("__classdict__":Str))=false) zAd):PE X (.Name x pos) (A4 i):=zw3 hN hv hd hcd
theorem S7{A B:Prop}(h:B):if false=true then A else B:=by
 rw[if_neg Bool.false_ne_true]
 exact h
theorem V9{A B:Prop}(h:A):if true=true then A else B:=by
 rw[if_pos rfl]
 exact h
def A6(H H':Hp):Prop:=∀ b o,H b=some o->H' b=some o
theorem A6.refl(H:Hp):A6 H H:=fun _ _ h=>h
theorem A6.seq(e:A6 H H')(h:SqL K H a xs):SqL K H' a xs:=by
 rcases h with(h|⟨o,h⟩)|h
 ·exact .inl (.inl (e _ _ h))
 ·exact .inl (.inr ⟨o,e _ _ h⟩)
 ·exact .inr h
theorem yv8:V3 X (.builtin "len") (fun xs H Q=>∃ a kvs,xs=[V.ref a]/\H a=some (.dK kvs)/\Q (.int kvs.length) H):=by
 intro pins s σ H xs us Q I r h
 obtain⟨a,kvs,rfl,ha,q⟩:=h
 obtain⟨u,rfl,ru⟩:=qp0 r
 cases ru
 exact Ag6 I (.inl ha) fun t s' I'=>⟨.int kvs.length,H,I',⟨t,rfl⟩,q⟩
theorem noE{t:Sem α}{Q:α->Shared->Prop}(h:wpAny M A t Q (fun _ _=>False) s):wpAny M A t Q E s :=
 wpAny_mono h (fun _ _ q=>q) fun _ _ z=>False.elim z
theorem wd2{env:Env}:∀ (names:List (Str×NameKind)) (acc:List (Str×Addr)),(∀ y∈names,y.2=.free->∃ c,env.cells.lookup y.1=some c)->(∀ x c,acc.lookup x=some c->env.cells.lookup x=some c) ->
 ∃ cl,(forIn names acc fun(x:Str×NameKind) (r:List (Str×Addr)) =>
  (if(x.2 == .free)=true then(do let a<-cellOf env x.1;pure (ForInStep.yield ((x.1,a)::r))) else pure (ForInStep.yield r):Sem (ForInStep (List (Str×Addr)))))=(pure cl:Sem (List (Str×Addr))) /\
  (∀ x c,cl.lookup x=some c->env.cells.lookup x=some c)/\(∀ x,(∃ c,acc.lookup x=some c)->∃ c,cl.lookup x=some c)/\∀ y∈names,y.2=.free->∃ c,cl.lookup y.1=some c
 | [],acc,_,h2=>⟨acc,by rw[List.forIn_nil],h2,fun _ h=>h,fun _ h=>by cases h⟩
 | (n,k)::r,acc,h1,h2=>by
   by_cases hk:k=.free
   ·subst hk
    obtain⟨c,hc⟩:=h1 (n,.free) List.mem_cons_self rfl
    obtain⟨cl,e,q1,q2,q3⟩:=wd2 r ((n,c)::acc) (fun y hy=>h1 y (List.mem_cons_of_mem _ hy)) (fun x d hd=>by
     rw[List.lookup_cons] at hd
     cases hx:x == n with
     | true=>rw[hx] at hd;cases hd;rw[beq_iff_eq.mp hx];exact hc
     | false=>rw[hx] at hd;exact h2 x d hd)
    refine⟨cl,?_,q1,fun x hx=>q2 x ?_,fun y hy hf=>?_⟩
    ·rw[List.forIn_cons]
     have e0:cellOf env n=pure c:=by unfold cellOf;rw[hc]
     simp only[beq_self_eq_true,if_true,e0]
     exact e
    ·rw[List.lookup_cons]
     cases x == n with
     | true=>exact⟨c,rfl⟩
     | false=>exact hx
    ·rcases List.mem_cons.mp hy with rfl|hy
     ·exact q2 n ⟨c,by rw[List.lookup_cons];simp⟩
     ·exact q3 y hy hf
   ·obtain⟨cl,e,q1,q2,q3⟩:=wd2 r acc (fun y hy=>h1 y (List.mem_cons_of_mem _ hy)) h2
    refine⟨cl,?_,q1,q2,fun y hy hf=>?_⟩
    ·rw[List.forIn_cons]
     have hb:(k == NameKind.free)=false:=by simpa using hk
     simp only[hb,Bool.false_eq_true,if_false]
     exact e
    ·rcases List.mem_cons.mp hy with rfl|hy
     ·exact absurd hf hk
     ·exact q3 y hy hf
theorem wb3(h:∀ y∈scope.names,y.2=.free->∃ c,env.cells.lookup y.1=some c) :
 ∃ cl,closureFor scope env=pure cl/\(∀ x c,cl.lookup x=some c->env.cells.lookup x=some c)/\∀ y∈scope.names,y.2=.free->∃ c,cl.lookup y.1=some c:=by
 obtain⟨cl,e,q1,_,q3⟩:=wd2 (env:=env) scope.names [] h (fun x c hc=>by simp at hc)
 refine⟨cl,?_,q1,q3⟩
 unfold closureFor
 simp only[]
 rw[show(forIn scope.names ([]:List (Str×Addr)) fun(x:Str×NameKind) (r:List (Str×Addr)) =>
  (match x with|(name,kind)=>if(kind == .free)=true then(do let a<-cellOf env name;pure (ForInStep.yield ((name,a)::r))) else pure (ForInStep.yield r):Sem (ForInStep (List (Str×Addr)))))=(pure cl:Sem (List (Str×Addr))) from e]
 rfl
theorem qh8{env:Env}:∀ {names:List (Str×NameKind)} {x:Str},names.lookup x=some .free ->
 (names.map fun(n,k)=>if(k == NameKind.free && env.scope.kind == .function && env.kindOf n == some .cell) then(n,NameKind.cell) else(n,k)).lookup x=some .cell \/
 (names.map fun(n,k)=>if(k == NameKind.free && env.scope.kind == .function && env.kindOf n == some .cell) then(n,NameKind.cell) else(n,k)).lookup x=some .free
 | [],_,h=>by simp at h
 | (n,k)::r,x,h=>by
   have ih:=@qh8 env r x
   show List.lookup x ((if(k == NameKind.free && env.scope.kind == .function && env.kindOf n == some .cell)=true then(n,NameKind.cell) else(n,k))::_)=_\/List.lookup x ((if(k == NameKind.free && env.scope.kind == .function && env.kindOf n == some .cell)=true then(n,NameKind.cell) else(n,k))::_)=_
   cases hx:x == n with
   | true =>
     simp only[List.lookup_cons,hx] at h
     cases h
     by_cases hc:(NameKind.free == NameKind.free && env.scope.kind == .function && env.kindOf n == some .cell)=true
     ·rw[if_pos hc];exact .inl (by simp only[List.lookup_cons,hx])
     ·rw[if_neg hc];exact .inr (by simp only[List.lookup_cons,hx])
   | false =>
     simp only[List.lookup_cons,hx] at h
     by_cases hc:(k == NameKind.free && env.scope.kind == .function && env.kindOf n == some .cell)=true
     ·rw[if_pos hc];simp only[List.lookup_cons,hx];exact ih h
     ·rw[if_neg hc];simp only[List.lookup_cons,hx];exact ih h
theorem Y9{env:Env}:∀ {names:List (Str×NameKind)} {x:Str} {k:NameKind},
 (names.map fun(n,k)=>if(k == NameKind.free && env.scope.kind == .function && env.kindOf n == some .cell) then(n,NameKind.cell) else(n,k)).lookup x=some k ->
 names.lookup x=some k\/(k=.cell/\names.lookup x=some .free)
 | [],_,_,h=>by simp at h
 | (n, j)::r,x,k,h=>by
   have ih:=@Y9 env r x k
   have h:List.lookup x ((if(j == NameKind.free && env.scope.kind == .function && env.kindOf n == some .cell)=true then(n,NameKind.cell) else(n,j))::_)=some k:=h
   by_cases hc:(j == NameKind.free && env.scope.kind == .function && env.kindOf n == some .cell)=true
   ·rw [if_pos hc] at h
    cases hx:x == n with
    | true =>
      simp only[List.lookup_cons,hx] at h ⊢
      cases h
      have:j=.free:=by
       cases j <;> simp at hc ⊢
      exact .inr ⟨rfl,by rw[this]⟩
    | false=>simp only[List.lookup_cons,hx] at h ⊢;exact ih h
   ·rw[if_neg hc] at h
    cases hx:x == n with
    | true=>simp only[List.lookup_cons,hx] at h ⊢;exact .inl h
    | false=>simp only[List.lookup_cons,hx] at h ⊢;exact ih h
variable{elt:Expr}{ifs:List Expr}
theorem qv7{R:Result->Shared->Prop}{target:Expr}{it acc:Value}(I:Nat->Shared->Prop) (turn:∀ n s,I n s->wpAny (model prog w) A (pyNext it) (fun r s₁=>match r with
  | none=>R (.ok .next) s₁
  | some v=>wpAny (model prog w) A (letOwnedTupleGo target it v) (fun _ s₁'=>wpAny (model prog w) A (assign target env v) (fun _ s₂ =>
   wpAny (model prog w) A (forIn ifs true fun c r=>if r=true then do let ok<-isTrue c env (eval c env);pure (ForInStep.yield ok) else pure (ForInStep.yield r)) (fun ok s₃ =>
    if ok=true then wpAny (model prog w) A (eval elt env) (fun x s₄ =>
     wpAny (model prog w) A (call (.builtin "list.append") [acc,x]) (fun _ s₅=>∃ m,m<n/\I m s₅) (notedBy (model prog w) A env fun e s'=>R (.error e) s') s₄) (notedBy (model prog w) A env fun e s'=>R (.error e) s') s₃
    else ∃ m,m<n/\I m s₃) (notedBy (model prog w) A env fun e s'=>R (.error e) s') s₂) (notedBy (model prog w) A env fun e s'=>R (.error e) s') s₁') (notedBy (model prog w) A env fun e s'=>R (.error e) s') s₁)
  (notedBy (model prog w) A env fun e s'=>R (.error e) s') s) (n:Nat) (h:I n s) :
 codeAny (model prog w) A (.compLoop (.ListComp elt [⟨target,iter,ifs,0⟩] scope pos) 0 it acc env) R s:=by
 refine codeAny_loop rfl I (fun n s hI=>?_) n h
 show wpAny _ A ((compTurn (.ListComp elt [⟨target,iter,ifs,0⟩] scope pos) 0 it acc env).onRaise (fun x=>do noteFrame x env;theTreesLotGoes x)) _ _ s
 refine wpAny_noted ?_
 rw[compTurn_list]
 refine wpAny_bind (wpAny_standAt (wpAny_bind (wpAny_mono (turn n s hI) (fun r s₁ h₁=>?_) fun _ _ h'=>h')))
 cases r with
 | none=>exact wpAny_pure h₁
 | some v =>
   refine wpAny_bind (wpAny_mono h₁ (fun _ s₁' h₁'=>?_) fun _ _ h'=>h')
   refine wpAny_bind (wpAny_mono h₁' (fun _ s₂ h₂=>wpAny_bind (wpAny_mono h₂ (fun ok s₃ h₃=>?_) fun _ _ h'=>h')) fun _ _ h'=>h')
   cases ok with
   | false=>exact wpAny_pure ⟨rfl,h₃⟩
   | true =>
     exact wpAny_bind (wpAny_bind (wpAny_mono h₃ (fun x s₄ h₄=>wpAny_bind (wpAny_mono h₄ (fun _ s₅ h₅=>wpAny_pure (wpAny_pure ⟨rfl,h₅⟩)) fun _ _ h'=>h')) fun _ _ h'=>h'))
def blk(X:Cx)(N:List Str)(scope:Scope)(cl:List (Str×Addr))(C:Addr)(s₂:Shared)(H₂:Hp)(fp:List Addr)(pn:List (Addr×Obj)):Cx :=
 {X with N:=N,s₀:=s₂,H₀:=H₂,env:=compEnvC scope cl C X.env,outer:=X.stack,stack:=X.stack,ex:=fp,fn:=fun _=>false,pn:=pn,xe:=fun _ _=>False}
def qv8(fr:List (Option Nat))(σ:St):St:=fr.map fun o=>match o with|some i=>(σ[i]?).join|none=>none
variable{fr:List (Option Nat)}
theorem ya9{j:Nat}(h:(qv8 fr σ)[j]?=some (some v)):∃ i,fr[j]?=some (some i)/\σ[i]?=some (some v):=by
 unfold qv8 at h
 rw[List.getElem?_map] at h
 cases e:fr[j]? with
 | none=>rw[e] at h;cases h
 | some o =>
   rw[e] at h
   cases o with
   | none=>cases h
   | some i =>
     refine⟨i,rfl,?_⟩
     have h':(σ[i]?).join=some v:=Option.some.inj h
     cases e2:σ[i]? with
     | none=>rw[e2] at h';cases h'
     | some x=>rw[e2] at h';cases x with
       | none=>cases h'
       | some y=>cases h';rfl
def zb9(fr:List (Option Nat))(g:TG):Prop:=∀ (x:V) (σ:St) (H:Hp) (Q:St->Hp->Prop),g x σ H Q->g x σ H fun σ2 H2=>Q σ2 H2/\∀ (j i:Nat),fr[j]?=some (some i)->σ2[j]?=σ[j]?
def yp3(fr:List (Option Nat))(g:TGs):Prop:=∀ (xs:List V) (σ:St) (H:Hp) (Q:St->Hp->Prop),g xs σ H Q->g xs σ H fun σ2 H2=>Q σ2 H2/\∀ (j i:Nat),fr[j]?=some (some i)->σ2[j]?=σ[j]?
theorem Q3{i:Nat}(h:autoParam (fr[i]?=some none) zAr):zb9 fr (B3 i):=fun x σ H Q q=>⟨q,fun j k hj=>by
 have:i≠j:=by rintro rfl;rw[h] at hj;cases hj
 rw[List.getElem?_set_ne this]⟩
theorem zy7:yp3 fr wj5:=fun xs σ H Q ⟨e,q⟩=>⟨e,q,fun _ _ _=>rfl⟩
theorem yp4{i:Nat}{u:TGs}(h:fr[i]?=some none)(hu:yp3 fr u):yp3 fr (R7 (B3 i) u):=fun xs σ H Q ⟨v,r,e,q⟩=>by
 refine⟨v,r,e,?_⟩
 have q:u r (σ.set i (some v)) H Q:=q
 have e2:=hu _ _ _ _ q
 have k:∀ j k,fr[j]?=some (some k)->(σ.set i (some v))[j]?=σ[j]?:=fun j k hj=>by
  have:i≠j:=by rintro rfl;rw[h] at hj;cases hj
  rw[List.getElem?_set_ne this]
 have e3:(fun(σ2:St) (H2:Hp)=>Q σ2 H2/\∀ (j k:Nat),fr[j]?=some (some k)->σ2[j]?=σ[j]?)=(fun(σ2:St) (H2:Hp)=>Q σ2 H2/\∀ (j k:Nat),fr[j]?=some (some k)->σ2[j]?=(σ.set i (some v))[j]?):=by
  funext σ2 H2
  refine propext ⟨fun⟨a,b⟩=>⟨a,fun j m hj=>(b j m hj).trans (k j m hj).symm⟩,fun⟨a,b⟩=>⟨a,fun j m hj=>(b j m hj).trans (k j m hj)⟩⟩
 show u r (σ.set i (some v)) H _
 rw[e3]
 exact e2
theorem zy8{u:TGs}(hu:yp3 fr u):zb9 fr (wj6 K n u):=fun x σ H Q ⟨a,xs,e1,e2,e3,q⟩=>⟨a,xs,e1,e2,e3,hu _ _ _ _ q⟩
def PTs(X:Cx)(ifs:List Expr)(t:TT):Prop :=
 ∀ (pins:List (Addr×Obj)) (s:Shared) (σ:St) (H:Hp) (Q:Bool->Hp->Prop),Inv X pins σ H s->t σ H Q ->
  wpAny (model X.prog X.w) X.A (forIn ifs true fun c r=>if r=true then do let ok<-isTrue c X.env (eval c X.env);pure (ForInStep.yield ok) else pure (ForInStep.yield r)) (TP X pins σ Q) X.xe s
def tTT:TT:=fun _ H Q=>Q true H
theorem Z8:PTs X [] tTT:=fun _ _ _ H _ I h=>wpAny_tests_nil ⟨H,I,h⟩
theorem ql9{t:TT}(h:PT X c t):PTs X [c] t:=fun pins s σ H Q I hq=>wpAny_tests_one (h pins s σ H Q I hq)
structure qz3(X:Cx)(scope:Scope)(N:List Str)(fr:List (Option Nat)):Prop where
 kind:scope.kind=.function
 nocell:∀ y∈scope.names,y.2≠.cell
 names:∀ y∈scope.names,y.2=.local->scope.names.lookup y.1=some .local
 free:∀ y∈scope.names,y.2=.free->X.env.scope.names.lookup y.1=some .cell\/X.env.scope.names.lookup y.1=some .free
 len:N.length=fr.length
 at_:∀ (j i:Nat) (x:Str),fr[j]?=some (some i)->N[j]?=some x->X.N[i]?=some x/\scope.names.lookup x=some .free
def yp5(osc:Scope)(ON:List Str)(scope:Scope)(N:List Str)(fr:List (Option Nat)):Bool :=
 decide (scope.kind=.function) && scope.names.all (fun y=>decide (y.2≠.cell)) && scope.names.all (fun y=>decide (y.2≠.local) || decide (scope.names.lookup y.1=some .local)) &&
 scope.names.all (fun y=>decide (y.2≠.free) || decide (osc.names.lookup y.1=some .cell) || decide (osc.names.lookup y.1=some .free)) && decide (N.length=fr.length) &&
 (fr.zip N).all (fun p=>match p.1 with|some i=>decide (ON[i]?=some p.2) && decide (scope.names.lookup p.2=some .free)|none=>true)
theorem M2{osc:Scope}{ON:List Str}(h:yp5 osc ON scope N fr=true)(e1:X.env.scope=osc)(e2:X.N=ON):qz3 X scope N fr:=by
 subst e1 e2
 unfold yp5 at h
 simp only[Bool.and_eq_true,List.all_eq_true,Bool.or_eq_true,decide_eq_true_eq] at h
 obtain⟨⟨⟨⟨⟨h1,h2⟩,h3⟩,h4⟩,h5⟩,h6⟩:=h
 refine⟨h1,h2,fun y hy e=>(h3 y hy).resolve_left fun z=>z e,fun y hy e=>?_,h5,fun j i x e1 e2=>?_⟩
 ·rcases h4 y hy with(z|z)|z
  ·exact absurd e z
  ·exact .inl z
  ·exact .inr z
 ·have hm:(some i,x)∈fr.zip N:=by
   apply List.mem_of_getElem? (i:=j)
   rw[List.getElem?_zip_eq_some]
   exact⟨e1,e2⟩
  have:=h6 _ hm
  simpa using this
def Y4 (fr:List (Option Nat)) (wi:TI) (g:TG) (tt:TT) (te:TE):TE:=fun σ H Q=>wi σ H fun J H1 =>
 ∃ W:Nat->Nat->List V->Hp->Prop,(∃ m,W 0 m [] H1)/\∀ i m ys H,W i m ys H->ys.length<=sizeLine /\
  ((J.stop i H/\∀ p,H p=none->Q (.ref p) (upd H p (.lst ys))) \/
   (J.go i H/\∃ NN:List V->Hp->Prop,(∀ ys' H',NN ys' H'->∃ m',m'<m/\W (i+1) m' ys' H')/\∀ x H',J.yld i H x H'->g x (qv8 fr σ) H' fun σ2 H2=>tt σ2 H2 fun b H3 =>
    if b=true then te σ2 H3 fun y H4=>NN (ys++[y]) H4 else NN ys H3))
structure zy9(X:Cx)(pins:List (Addr×Obj))(σ:St)(Q:VK)(C D:Addr)(s':Shared):Prop where
 ex:∃ (ys:List V) (H:Hp),H D=none/\(∃ m,s'.heap.Ns C m)/\D≠C/\C≠X.env.locals/\(∀ x c,X.env.cells.lookup x=some c->c≠C)/\(∀ p∈X.pn++pins,p.1≠C)/\X.s₀.heap.objs.size<=C/\C∉X.fs /\
  (upd H D (.lst ys)) C=none /\
  (∀ h',Heap.SameBut C s'.heap h'->Inv X pins σ (upd H D (.lst ys)) {s' with heap:=h'})/\Q (.ref D) (upd H D (.lst ys))
variable{J:It}{s2:Shared}{tt:TT}
theorem ww6 {cl:List (Str×Addr)} (hcalm:X.calm=true) (S:qz3 X scope N fr) (hclS:∀ x c,cl.lookup x=some c->X.env.cells.lookup x=some c) (hclH:∀ y∈scope.names,y.2=.free->∃ c,cl.lookup y.1=some c) (hg:∀ C s₂ H₂ fp pn,PG (blk X N scope cl C s₂ H₂ fp pn) tg g) (hgo:zb9 fr g) (ht:∀ C s₂ H₂ fp pn,PTs (blk X N scope cl C s₂ H₂ fp pn) ifs tt) (he:∀ C s₂ H₂ fp pn,PE (blk X N scope cl C s₂ H₂ fp pn) elt te) {Q:VK} {tn:Nat->Heap->Prop} (I2:Inv X pins σ H2 s2) (T:xz9 X.prog X.w X.K tg J fp it tn) (st2:tn 0 s2.heap) (f2:∀ b∈fp,xh5 X pins H2 b) (W:Nat->Nat->List V->Hp->Prop) (w0:∃ m,W 0 m [] H2) (turn:∀ i m ys H,W i m ys H->ys.length<=sizeLine /\
 ((J.stop i H/\∀ p,H p=none->Q (.ref p) (upd H p (.lst ys))) \/
  (J.go i H/\∃ NN:List V->Hp->Prop,(∀ ys' H',NN ys' H'->∃ m',m'<m/\W (i+1) m' ys' H')/\∀ x H',J.yld i H x H'->g x (qv8 fr σ) H' fun σ2 H2=>tt σ2 H2 fun b H3 =>
   if b=true then te σ2 H3 fun y H4=>NN (ys++[y]) H4 else NN ys H3))) {RR:Value->Addr->Result->Shared->Prop} (hRR:∀ C D s',zy9 X pins σ Q C D s'->RR (.ref D) C (.ok .next) s') :
 wpAny (model X.prog X.w) X.A (newList []) (fun acc s₃=>wpAny (model X.prog X.w) X.A (newFunctionEnv scope X.env.globals cl [] X.env.qual none .none (some X.env)) (fun cenv s₄ =>
  codeAny (model X.prog X.w) X.A (.compStart (.ListComp elt [⟨tg,iter,ifs,0⟩] scope pos) 0 (.ref it) acc {cenv with scope:=relabel scope X.env}) (RR acc cenv.locals) s₄) E s₃) E s2:=by
 obtain⟨m0,w0⟩:=w0
 refine wpAny_newObj_type (wpAny_newFunctionEnv S.nocell (by intro y hy;simp at hy) (fun h₁ hns₁ hsb₁=>?_) S.kind)
 dsimp only at hns₁ hsb₁ ⊢
 generalize hHH:s2.heap.push {cls:=.type "list",dict:=none,data:=.seq ([]:List Value).toArray}=HH at hns₁ hsb₁ ⊢
 have hC:HH.objs.size=s2.heap.objs.size+1:=by rw[<-hHH,Heap.size_push]
 generalize hDD:s2.heap.objs.size=D at *
 generalize hCC:HH.objs.size=C at *
 have hDlt:Nat.lt D C:=by show D<C;rw[hC];exact Nat.lt_succ_self _
 have hDC:D≠C:=Nat.ne_of_lt hDlt
 have neD:∀ {b:Addr},Nat.lt b D->b≠D:=fun h=>Nat.ne_of_lt h
 have neC:∀ {b:Addr},Nat.lt b D->b≠C:=fun h=>Nat.ne_of_lt (Nat.lt_trans h hDlt)
 have below:∀ (b:Addr) (o:Obj),s2.heap.get? b=some o->Nat.lt b D:=fun b o e=>by rw[<-hDD];exact Heap.lt_size e
 have old:∀ b o,s2.heap.get? b=some o->h₁.get? b=some o:=fun b o e=>hsb₁.extBut b o (neC (below b o e)) (Heap.get?_push_of_some _ (hHH▸Heap.get?_push_of_some _ e))
 have hacc:h₁.get? D=some {cls:=.type "list",data:=.seq ([]:List Value).toArray}:=hsb₁.extBut _ _ hDC (Heap.get?_push_of_some _ (by rw[<-hHH,<-hDD];exact Heap.get?_push_size _ rfl))
 have Lt:Nat.lt X.env.locals D:=by rw[<-hDD];exact I2.lt
 have cellLt:∀ x c,X.env.cells.lookup x=some c->Nat.lt c D:=fun x c e=>by
  obtain⟨v,q⟩:=I2.cell x c e
  rw[<-hDD];exact q.lt
 have pinLt:∀ p∈X.pn++pins,Nat.lt p.1 D:=fun p hp=>below p.1 p.2 (I2.pin p hp).1
 have freshH:∀ b:Addr,Nat.le D b->H2 b=none:=fun b hb=>I2.hok.fresh (by rw[hDD];exact hb)
 let X':Cx:=blk X N scope cl C s2 H2 fp (X.pn++pins)
 have okX:X'.Ok:=by
  refine⟨I2.ok.mod,S.kind,I2.ok.glob,I2.ok.blt,by show s2.heap.objs.size<=C;rw[hDD];exact Nat.le_of_lt hDlt,fun x y c e1 e2=>I2.ok.inj x y c (hclS _ _ e1) (hclS _ _ e2),fun x hx=>?_,fun x c hf _=>(by cases hf),I2.ok.hd,I2.ok.frames,.inl rfl,fun b hb=>⟨?_,fun x c e=>(f2 b hb).2.2.2.2.1 x c (hclS _ _ e)⟩,I2.bs,Nat.le_trans I2.ok.bsz I2.sz,fun b o e hb=>?_,fun b hb hm=>?_,I2.stack,I2.stkFree⟩
  ·have hx:(relabel scope X.env).names.lookup x=some .cell\/(relabel scope X.env).names.lookup x=some .free:=hx
   have hf:scope.names.lookup x=some .free:=by
    rcases hx with hx|hx
    ·rcases Y9 hx with h|⟨_,h⟩
     ·exact absurd rfl (S.nocell _ (PySem.mem_of_lookup h))
     ·exact h
    ·rcases Y9 hx with h|⟨h,_⟩
     ·exact h
     ·cases h
   exact hclH _ (PySem.mem_of_lookup hf) rfl
  ·obtain⟨o,e,_⟩:=T.obj 0 _ st2 b hb
   exact neC (below b o e)
  ·obtain⟨_,_,_,h,_⟩:=f2 b hb
   rcases h with h|h
   ·exact I2.ok.noex b o e h
   ·have:=Heap.lt_size (I2.ok.bs b o e).1
    exact absurd (Nat.lt_of_lt_of_le this h) (Nat.lt_irrefl _)
  ·rcases List.mem_cons.mp (I2.stkSub b hm) with h|h
   ·exact(f2 b hb).2.1 h
   ·exact(f2 b hb).2.2.1 h
 have I4:∀ tk,0<tk->Inv X' [(D,{cls:=.type "list",data:=.seq ([]:List Value).toArray})] (qv8 fr σ) H2 {s2 with heap:=h₁,toks:=tk}:=fun tk htk=>by
  refine⟨okX,rfl,I2.bare,Un.kept old,⟨_,hns₁,fun j x v e1 e2 e3=>?_⟩,fun x c e=>?_,freshH C (Nat.le_of_lt hDlt),fun x c e=>I2.freeC x c (hclS _ _ e),fun p hp=>?_,I2.hok.kept old,?_,htk⟩
  ·obtain⟨i,q1,q2⟩:=ya9 e2
   obtain⟨a1,a2⟩:=S.at_ j i x q1 e1
   obtain⟨m,hn,hl⟩:=I2.loc
   have vis:Vis X.env.scope x:=by
    rcases S.free _ (PySem.mem_of_lookup a2) rfl with h|h
    ·exact .inr (.inl h)
    ·exact .inr (.inr h)
   obtain⟨u,r,l⟩:=hl i x v a1 q2 vis
   refine⟨u,r,.inr ⟨?_,?_⟩⟩
   ·exact qh8 (env:=X.env) a2
   ·rcases l with⟨hk,_⟩|⟨_,c,hc,hcell⟩
    ·have hk:X.env.scope.names.lookup x=some .local:=hk
     rcases S.free _ (PySem.mem_of_lookup a2) rfl with h|h
     ·have h:X.env.scope.names.lookup x=some .cell:=h
      rw[hk] at h;cases h
     ·have h:X.env.scope.names.lookup x=some .free:=h
      rw[hk] at h;cases h
    ·obtain⟨c',hc'⟩:=hclH _ (PySem.mem_of_lookup a2) rfl
     have:c=c':=by
      have:=hclS _ _ hc'
      rw[hc] at this
      exact Option.some.inj this
     subst this
     obtain⟨o,ho,hd⟩:=hcell
     exact⟨c,hc',o,old c o ho,hd⟩
  ·obtain⟨v,o,ho,hd⟩:=I2.cell x c (hclS _ _ e)
   exact⟨v,o,old c o ho,hd⟩
  ·rcases List.mem_append.mp hp with hp|hp
   ·obtain⟨e,n,ne,nf,d⟩:=I2.pin p hp
    refine⟨old _ _ e,n,?_,fun hm=>?_,d⟩
    ·exact neC (pinLt p hp)
    ·rcases List.mem_cons.mp (I2.stkSub _ hm) with h|h
     ·exact ne h
     ·exact nf h
   ·have hp:p=(D,{cls:=.type "list",data:=.seq ([]:List Value).toArray}):=by simpa using hp
    subst hp
    refine⟨hacc,freshH D (Nat.le_refl _),hDC,fun hm=>?_,fun v z=>by cases z⟩
    rcases List.mem_cons.mp (I2.stkSub _ hm) with h|h
    ·exact neD Lt h.symm
    ·exact I2.nofs (by rw[hDD];exact Nat.le_refl _) h
  ·show(qv8 fr σ).length=N.length
   unfold qv8
   rw[List.length_map,S.len]
 have fpLt:∀ b∈fp,Nat.lt b D:=fun b hb=>by
  obtain⟨o,e,_⟩:=T.obj 0 _ st2 b hb
  exact below b o e
 have fpk:∀ {H:Hp} {oD:Obj},(∀ b∈fp,H b=none)->∀ b∈fp,xh5 X' [(D,oD)] H b:=fun{H oD} hn b hb=>by
  refine⟨hn b hb,?_,fun hm=>?_,.inl hb,fun x c e=>(f2 b hb).2.2.2.2.1 x c (hclS _ _ e),fun p hp=>?_⟩
  ·exact neC (fpLt b hb)
  ·rcases List.mem_cons.mp (I2.stkSub b hm) with h|h
   ·exact(f2 b hb).2.1 h
   ·exact(f2 b hb).2.2.1 h
  ·rcases List.mem_append.mp hp with hp|hp
   ·exact(f2 b hb).2.2.2.2.2 p hp
   ·have hp:p=(D,oD):=by simpa using hp
    subst hp
    exact(neD (fpLt b hb)).symm
 have loop:∀ s₃:Shared,s₃={s2 with heap:=h₁,toks:=s2.toks+([]:List (Str×Value)).length} ->
  codeAny (model X.prog X.w) X.A (.compLoop (.ListComp elt [⟨tg,iter,ifs,0⟩] scope pos) 0 (.ref it) (.ref D) (compEnvC scope cl C X.env)) (RR (.ref D) C) s₃:=by
  rintro s₃ rfl
  refine qv7 (fun n s'=>∃ i ys its k H',Inv X' [(D,({cls:=.type "list",data:=.seq its k}:Obj))] (qv8 fr σ) H' s'/\tn i s'.heap/\(∀ b∈fp,H' b=none)/\J9 ys its.toList/\W i n ys H') ?_ m0
   ⟨0,[],#[],_,H2,I4 _ (by first|exact I2.tk|exact Nat.succ_pos _),T.keep 0 _ _ st2 (fun b _ o e=>old b o e),fun b hb=>(f2 b hb).1,.nil,w0⟩
  rintro n s3 ⟨i,ys,its,k,H3,I3,st3,fr3,vy,w3⟩
  obtain⟨hsz,h⟩:=turn i n ys H3 w3
  rcases h with⟨stop,qn⟩|⟨go,NN,hNN,step⟩
  ·refine noE (thn (T.done X' rfl rfl rfl hcalm i [(D,_)] s3 (qv8 fr σ) H3 _ I3 (fpk fr3) st3 stop) fun r s4 zq=>?_)
   obtain⟨hr,I4⟩:=zq
   subst hr
   refine hRR C D s4 ⟨ys,H3,?_⟩
   obtain⟨pD,nD,_,_,_⟩:=I4.pin (D,_) (List.mem_append_right _ (List.mem_singleton.mpr rfl))
   have pD:s4.heap.get? D=some {cls:=.type "list",data:=.seq its k}:=pD
   have nD:H3 D=none:=nD
   have nC:H3 C=none:=I4.free
   obtain⟨mC,hnC,_⟩:=I4.loc
   refine⟨nD,⟨mC,hnC⟩,hDC,(neC Lt).symm,fun x c e z=>?_,fun p hp z=>?_,?_,fun hm=>?_,?_,fun h' hsb=>?_,qn D nD⟩
   ·exact neC (cellLt x c e) z
   ·exact neC (pinLt p hp) z
   ·have:=I2.sz;rw[hDD] at this;exact Nat.le_trans this (Nat.le_of_lt hDlt)
   ·exact I2.nofs (by rw[hDD];exact Nat.le_of_lt hDlt) hm
   ·rw[C6 (Ne.symm hDC)];exact nC
   ·have un:Un (frs X.stack) fp H2 (upd H3 D (.lst ys)) s2.heap h':=by
     have u:=I4.base
     have neC:∀ (b:Addr) (o:Obj),s2.heap.get? b=some o->b≠C:=fun b o e=>neC (below b o e)
     have neD:∀ (b:Addr) (o:Obj),s2.heap.get? b=some o->b≠D:=fun b o e=>neD (below b o e)
     have trkNe:∀ b (o:HO),H3 b=some o->b≠D:=fun b o e z=>by rw[z,nD] at e;cases e
     refine⟨fun b o e n hb hx=>hsb.extBut b o (neC b o e) (u.keep b o e n hb hx),fun b o e n hb hx=>?_,fun b o e n hx=>by rw[C6 (neD b o e)];exact u.free b o e n hx,fun b o e hx=>?_,fun b xs e=>?_,fun b o xs e=>?_,fun b ps e=>?_⟩
     ·obtain⟨sl,q⟩:=u.slot b o e n hb hx
      exact⟨sl,hsb.extBut b _ (neC b o e) q⟩
     ·obtain⟨o',q⟩:=u.there b o e hx
      exact⟨o',hsb.extBut b _ (neC b o e) q⟩
     ·have q:=u.tups b xs e
      rw[C6 (trkNe b _ q)];exact q
     ·have q:=u.frzs b o xs e
      rw[C6 (trkNe b _ q)];exact q
     ·obtain⟨more,q⟩:=u.tbls b ps e
      exact⟨more,by rw[C6 (trkNe b _ q)];exact q⟩
    have hok:HOk X.prog X.w (upd H3 D (.lst ys)) h':=fun b u e=>by
     by_cases hb:b=D
     ·rw[hb,A7] at e
      cases e
      rw[hb]
      exact⟨hsz,its.toList,k,vy,by simpa using hsb.extBut D _ hDC pD⟩
     ·rw[C6 hb] at e
      refine(I4.hok b u e).stay (fun c v hc q=>hsb.extBut c v ?_ q) (fun c q=>?_) fun c xs q=>?_
      ·rcases hc with rfl|hc
       ·rintro rfl;rw[nC] at e;cases e
       ·rintro rfl;rw[nC] at hc;cases hc
      ·rw[C6 (T6 q nD)];exact q
      ·rw[C6 (T6 q nD)];exact q
    obtain⟨hh,gg,dd,tt',os'⟩:=s4
    obtain rfl:os'=s2.os:=I4.os
    refine(show Inv X pins σ (upd H3 D (.lst ys)) {s2 with heap:=h',gens:=gg,drawn:=dd,toks:=tt'} from I2.call (h':=h') (g':=gg) (d':=dd) (t':=tt') (ch:=fp) un hok I4.bare fun b hb=>?_)
    obtain⟨_,f1,_,f3,f4,f5⟩:=f2 b hb
    exact⟨f3,f1,f4,f5⟩
  ·refine noE (thn (T.item X' rfl rfl rfl hcalm i [(D,_)] s3 (qv8 fr σ) H3 _ I3 (fpk fr3) st3 go) fun r s4 zq=>?_)
   obtain⟨u,hr,h4⟩:=zq
   subst hr
   refine noE (thn h4 fun _ s5 zq=>?_)
   obtain⟨x,H5,I5,r5,y5,st5,fr5⟩:=zq
   have I5':=I5.pinned (fpk fr5) (T.obj _ _ st5)
   refine noE (thn (hg C s2 H2 fp (X.pn++pins) _ s5 (qv8 fr σ) H5 x u _ I5' r5 (hgo _ _ _ _ (step x H5 y5))) fun _ s6 zq=>?_)
   obtain⟨σ6,H6,I6,q6,k6⟩:=zq
   refine noE (thn (ht C s2 H2 fp (X.pn++pins) _ s6 σ6 H6 _ I6 q6) fun b s7 zq=>?_)
   obtain⟨H7,I7,q7⟩:=zq
   have back:∀ {s8:Shared} {H8:Hp},Inv X' ([(D,({cls:=.type "list",data:=.seq its k}:Obj))]++wv8 fp s5.heap) σ6 H8 s8->Inv X' [(D,({cls:=.type "list",data:=.seq its k}:Obj))] (qv8 fr σ) H8 s8/\tn (i+1) s8.heap/\∀ b∈fp,H8 b=none:=fun{s8 H8} I8=>by
    refine⟨(I8.unpinned).weak ?_ fun j v e=>?_,T.keep _ _ _ st5 fun b hb o e=>(I8.pin (b,o) (List.mem_append_right _ (List.mem_append_right _ (qq5 hb e)))).1,fun b hb=>?_⟩
    ·rw[I8.len];show(qv8 fr σ).length=N.length;unfold qv8;rw[List.length_map,S.len]
    ·obtain⟨i',q1,_⟩:=ya9 e
     rw[k6 j i' q1];exact e
    ·obtain⟨o,e,d⟩:=T.obj _ _ st5 b hb
     exact(I8.pin (b,o) (List.mem_append_right _ (List.mem_append_right _ (qq5 hb e)))).2.1
   cases b with
   | false =>
     rw[if_neg Bool.false_ne_true] at q7 ⊢
     obtain⟨m',hm,w7⟩:=hNN _ _ q7
     obtain⟨J1,J2,J3⟩:=back I7
     exact⟨m',hm,i+1,ys,its,k,H7,J1,J2,J3,vy,w7⟩
   | true =>
     rw[if_pos rfl] at q7 ⊢
     refine noE (thn (he C s2 H2 fp (X.pn++pins) _ s7 σ6 H7 _ I7 q7) fun y s8 zq=>?_)
     obtain⟨yv,H8,I8,r8,n8⟩:=zq
     obtain⟨m',hm,w8⟩:=hNN _ _ n8
     obtain⟨J1,J2,J3⟩:=back I8
     obtain⟨pD,nD,_,_,_⟩:=J1.pin (D,_) (List.mem_append_right _ (List.mem_singleton.mpr rfl))
     have pD:s8.heap.get? D=some {cls:=.type "list",data:=.seq its k}:=pD
     have nD:H8 D=none:=nD
     have hz':its.size<=sizeLine:=by
      have e1:its.size=ys.length:=by rw[vy.length];simp
      rw[e1];exact hsz
     refine wpAny_list_append_plain (hsz:=hz') ⟨k,pD⟩ fun h' ⟨k',hl'⟩ hsb=>?_
     ·refine⟨m',hm,i+1,ys++[yv],its.push y,k',H8,?_,T.keep _ _ _ J2 fun b hb o e=>?_,J3,?_,w8⟩
      ·have K0:Inv X' [] (qv8 fr σ) H8 s8:=J1.pins_of fun p hp=>by cases hp
       have K1:Inv X' [] (qv8 fr σ) H8 {s8 with heap:=h'}:=by
        refine K0.turned (it:=D) (t':=s8.toks) (fun b o hb e=>hsb.extBut b o hb e) nD hDC (.inr (by show s2.heap.objs.size<=D;rw[hDD];exact Nat.le_refl _)) (fun x c e z=>?_) fun p hp z=>?_
        ·exact neD (cellLt x c (hclS _ _ e)) z
        ·have hp:p∈X.pn++pins:=by
          rcases List.mem_append.mp hp with hp|hp
          ·exact hp
          ·cases hp
         exact neD (pinLt p hp) z
       refine K1.pins_of fun p hp=>?_
       have hp:p=(D,({cls:=.type "list",data:=.seq (its.push y) k'}:Obj)):=by simpa using hp
       subst hp
       refine⟨hl',nD,hDC,fun hm=>?_,fun v z=>by cases z⟩
       rcases List.mem_cons.mp (I2.stkSub _ hm) with h|h
       ·exact neD Lt h.symm
       ·exact I2.nofs (by rw[hDD];exact Nat.le_refl _) h
      ·exact hsb.extBut b o (neD (fpLt b hb)) e
      ·rw[Array.toList_push]
       exact J9.append vy (.cons r8 .nil)
 exact codeAny_compStart_list (loop _ rfl) (T.self _ 0 _ _ _ (T.keep 0 _ _ st2 fun b _ o e=>old b o e) (loop _ rfl))
theorem V5(hcalm:X.calm=true)(S:qz3 X scope N fr)(hi:PI X tg iter wi)(hg:∀ cl C s₂ H₂ fp pn,PG (blk X N scope cl C s₂ H₂ fp pn) tg g)(hgo:zb9 fr g)(ht:∀ cl C s₂ H₂ fp pn,PTs (blk X N scope cl C s₂ H₂ fp pn) ifs tt)(he:∀ cl C s₂ H₂ fp pn,PE (blk X N scope cl C s₂ H₂ fp pn) elt te)(hs:autoParam (∀ x,foldedSetIterable iter X.env x=pure x) zAi):PE X (.ListComp elt [⟨tg,iter,ifs,0⟩] scope pos) (Y4 fr wi g tt te):=by
 intro pins s σ H Q I h
 obtain⟨cl,hclos,hclS,hclH⟩:=wb3 (env:=X.env) (scope:=scope) fun y hy hf=>I.ok.has y.1 (S.free y hy hf)
 rw[eval_ListComp]
 refine wpAny_comprehension_free (use:=none) rfl hs hclos S.kind S.names (thn (hi pins s σ H _ I h) fun v s1 h1=>thn h1 fun itv s2 h2=>?_)
 obtain⟨it,fp,tn,J,H2,e,I2,T,st2,f2,W,w0,turn⟩:=h2
 subst e
 refine ww6 (RR:=fun acc C=>compPost (model X.prog X.w) X.A X.xe none (EP X pins σ Q) acc C) hcalm S hclS hclH (hg cl) hgo (ht cl) (he cl) I2 T st2 f2 W w0 turn fun C D s' B=>?_
 obtain⟨ys,H',nD,hC,_,_,_,_,_,_,_,hI,q⟩:=B.ex
 obtain⟨m,hn⟩:=hC
 exact⟨m,hn,fun h' hs'=>⟨.ref D,_,hI h' hs',rfl,q⟩⟩
theorem qz4{spos py:Pos}{i:Nat}{y:Str}(hN:X.N.Nodup)(hy:X.N[i]?=some y)(hly:X.env.scope.names.lookup y=some .local)(hcalm:X.calm=true)(S:qz3 X scope N fr)(hi:PI X tg iter wi)(hg:∀ cl C s₂ H₂ fp pn,PG (blk X N scope cl C s₂ H₂ fp pn) tg g)(hgo:zb9 fr g)(ht:∀ cl C s₂ H₂ fp pn,PTs (blk X N scope cl C s₂ H₂ fp pn) ifs tt)(he:∀ cl C s₂ H₂ fp pn,PE (blk X N scope cl C s₂ H₂ fp pn) elt te)(hsw:autoParam (swapsWith (.ListComp elt [⟨tg,iter,ifs,0⟩] scope pos) (some (.Name y py)) spos.line X.env=pure true) zAr)(hs:autoParam (∀ x,foldedSetIterable iter X.env x=pure x) zAi):PS X (.Assign [.Name y py] (.ListComp elt [⟨tg,iter,ifs,0⟩] scope pos) spos) (E4 (Y4 fr wi g tt te) (B3 i)):=by
 intro pins s σ H D I h
 obtain⟨cl,hclos,hclS,hclH⟩:=wb3 (env:=X.env) (scope:=scope) fun y hy hf=>I.ok.has y.1 (S.free y hy hf)
 rw[exec_Assign_Name_used _ _ _ _ hsw]
 refine wpAny_bind (wpAny_standAt (wpAny_bind ?_))
 show wpAny _ X.A (do let _<-comprehension (.ListComp elt [⟨tg,iter,ifs,0⟩] scope pos) scope X.env _ (newList []) false (eval iter X.env) (some (assign (.Name y py) X.env))) _ _ s
 refine wpAny_bind (wpAny_mono (wpAny_comprehension_free (use:=some (assign (.Name y py) X.env)) (Q:=fun _ s'=>SP X pins D .next s') rfl hs hclos S.kind S.names
  (thn (hi pins s σ H _ I h) fun v s1 h1=>thn h1 fun itv s2 h2=>?_)) (fun _ s' hq=>wpAny_pure (wpAny_pure hq)) fun _ _ e=>e)
 obtain⟨it,fp,tn,J,H2,e,I2,T,st2,f2,W,w0,turn⟩:=h2
 subst e
 refine ww6 (Q:=fun x H1=>B3 i x σ H1 D.nx) (RR:=fun acc C=>compPost (model X.prog X.w) X.A X.xe (some (assign (.Name y py) X.env)) (fun _ s'=>SP X pins D .next s') acc C) hcalm S hclS hclH (hg cl) hgo (ht cl) (he cl) I2 T st2 f2 W w0 turn fun C D' s' B=>?_
 obtain⟨ys,H',nD,hC,hDC,hCL,hCc,hCp,hCs,hCf,hCn,hI,q⟩:=B.ex
 obtain⟨m,hn⟩:=hC
 have I1:Inv X pins σ (upd H' D' (.lst ys)) s':=by
  have:=hI s'.heap (.refl ..)
  obtain⟨hh,gg,dd,tt',os'⟩:=s'
  exact this
 show wpAny _ X.A (assign (.Name y py) X.env (.ref D')) _ _ _
 refine wpAny_assign_Name (xp2 I1 hN hy (.inl hly) (v:=.ref D') rfl (fun s2 I3 zq=>?_) (.inr hly))
 obtain⟨a,sb,ha⟩:=zq
 have hCa:C≠a:=by
  rcases ha with rfl|ha
  ·exact hCL
  ·exact fun z=>hCc y a ha z.symm
 refine⟨m,hn.sameBut sb hCa,fun h3 hs3=>?_⟩
 exact⟨_,_,I3.turned (it:=C) (t':=s2.toks) (fun b o hb e=>hs3.extBut b o hb e) hCn hCL (.inr hCs) hCc hCp,q⟩
mutual
def Dv(K:Fg)(H:Hp):PyData->V->Prop
 | .none,v=>v=.non
 | .bool b,v=>v=.bl b
 | .int i,v=>v=.int i
 | .str x,v=>v=.str x
 | .list ds,v=>∃ a vs,v=.ref a/\SqL K H a vs/\Dvs K H ds vs
 | .tuple ds,v=>∃ a vs,v=.ref a/\SqT K H a vs/\Dvs K H ds vs
 | .dict _,_=>False
def Dvs(K:Fg)(H:Hp):List PyData->List V->Prop
 | [],vs=>vs=[]
 | d::ds,vs=>∃ v r,vs=v::r/\Dv K H d v/\Dvs K H ds r
end
theorem Dvs.length:∀ {ds:List PyData} {vs:List V},Dvs K H ds vs->vs.length=ds.length
 | [],_,h=>by rw[Dvs] at h;subst h;rfl
 | d::ds,_,h=>by
   rw[Dvs] at h
   obtain⟨v,r,rfl,_,h⟩:=h
   rw[List.length_cons,List.length_cons,Dvs.length h]
theorem Dvs.get:∀ {ds:List PyData} {vs:List V} {i:Nat} {d:PyData},Dvs K H ds vs->ds[i]?=some d->∃ v,vs[i]?=some v/\Dv K H d v
 | [],_,_,_,_,e=>by simp at e
 | d::ds,_,0,_,h,e=>by
   rw[Dvs] at h
   obtain⟨v,r,rfl,h,_⟩:=h
   cases e
   exact⟨v,rfl,h⟩
 | d::ds,_,i+1,_,h,e=>by
   rw[Dvs] at h
   obtain⟨v,r,rfl,_,h⟩:=h
   exact Dvs.get (i:=i) h (by simpa using e)
theorem Dvs.get':∀ {ds:List PyData} {vs:List V} {i:Nat} {v:V},Dvs K H ds vs->vs[i]?=some v->∃ d,ds[i]?=some d/\Dv K H d v
 | [],_,_,_,h,e=>by rw[Dvs] at h;subst h;simp at e
 | d::ds,_,0,_,h,e=>by
   rw[Dvs] at h
   obtain⟨v,r,rfl,h,_⟩:=h
   cases e
   exact⟨d,rfl,h⟩
 | d::ds,_,i+1,_,h,e=>by
   rw[Dvs] at h
   obtain⟨v,r,rfl,_,h⟩:=h
   exact Dvs.get' (i:=i) h (by simpa using e)
theorem Dvs.append:∀ {ds es:List PyData} {vs ws:List V},Dvs K H ds vs->Dvs K H es ws->Dvs K H (ds++es) (vs++ws)
 | [],_,_,_,h,g=>by rw[Dvs] at h;subst h;exact g
 | d::ds,es,_,_,h,g=>by
   rw[Dvs] at h
   obtain⟨v,r,rfl,h1,h⟩:=h
   show Dvs K H (d::(ds++es)) _
   rw[Dvs]
   exact⟨v,r++_,rfl,h1,Dvs.append h g⟩
theorem E6:Dvs K H [] []:=by rw[Dvs]
variable{ds:List PyData}
theorem E1{d:PyData}(h:Dv K H d v)(t:Dvs K H ds vs):Dvs K H (d::ds) (v::vs):=by rw[Dvs];exact⟨v,vs,rfl,h,t⟩
theorem qq8:Dv K H .none v↔v=.non:=by rw[Dv]
theorem qi0{b:Bool}:Dv K H (.bool b) v↔v=.bl b:=by rw[Dv]
theorem wd3:Dv K H (.int i) v↔v=.int i:=by rw[Dv]
theorem N6:Dv K H (.str x) v↔v=.str x:=by rw[Dv]
theorem P5:Dv K H (.list ds) v↔∃ a vs,v=.ref a/\SqL K H a vs/\Dvs K H ds vs:=by rw[Dv]
theorem C3:Dv K H (.tuple ds) v↔∃ a vs,v=.ref a/\SqT K H a vs/\Dvs K H ds vs:=by rw[Dv]
def sDa(xs:List Str):List PyData:=xs.map .str
def D4(xs:List Str):List V:=xs.map .str
theorem V6:∀ {xs:List Str} {vs:List V},Dvs K H (sDa xs) vs↔vs=D4 xs
 | [],_=>by show Dvs K H [] _↔_=[];rw[Dvs]
 | x::xs,vs=>by
   show Dvs K H (.str x::sDa xs) vs↔vs=V.str x::D4 xs
   rw[Dvs]
   constructor
   ·rintro⟨v,r,rfl,h1,h2⟩
    rw[N6.mp h1,V6.mp h2]
   ·rintro rfl
    exact⟨_,_,rfl,N6.mpr rfl,V6.mpr rfl⟩
def qh4(H H':Hp):Prop:=(∀ b xs,H b=some (.tup xs)->H' b=some (.tup xs))/\∀ b o xs,H b=some (.frz o (.tup xs))->H' b=some (.frz o (.tup xs))
theorem A6.tupK(h:A6 H H'):qh4 H H':=⟨fun b xs e=>h b _ e,fun b o xs e=>h b _ e⟩
theorem qh4.trans(a:qh4 H H1)(b:qh4 H1 H2):qh4 H H2:=⟨fun c xs e=>b.1 c xs (a.1 c xs e),fun c o xs e=>b.2 c o xs (a.2 c o xs e)⟩
theorem qh4.sqT(e:qh4 H H')(h:SqT K H a xs):SqT K H' a xs:=by
 rcases h with(h|⟨o,h⟩)|h
 ·exact .inl (.inl (e.1 _ _ h))
 ·exact .inl (.inr ⟨o,e.2 _ _ _ h⟩)
 ·exact .inr h
theorem A6.sqT(e:A6 H H')(h:SqT K H a xs):SqT K H' a xs:=e.tupK.sqT h
theorem A6.sqL(e:A6 H H')(h:SqL K H a xs):SqL K H' a xs:=e.seq h
theorem A6.new(h:H p=none)(o:HO):A6 H (upd H p o):=fun b u q=>by rw[C6 (T6 q h)];exact q
def But(ps:List Addr)(H H':Hp):Prop:=∀ b o,H b=some o->b∉ps->H' b=some o
theorem But.refl(ps:List Addr)(H:Hp):But ps H H:=fun _ _ e _=>e
theorem But.upd{ps:List Addr}(h:p∈ps)(o:HO):But ps H (upd H p o):=fun b u q n=>by rw[C6 (by rintro rfl;exact n h)];exact q
theorem But.mono{ps qs:List Addr}(a:But ps H H')(h:∀ b∈ps,b∈qs):But qs H H':=fun c o e n=>a c o e fun z=>n (h c z)
mutual
/-- data without lists -/
def fix:PyData->Bool
 | .none=>true | .bool _=>true | .int _=>true | .str _=>true
 | .list _=>false
 | .tuple ds=>Z0 ds
 | .dict _=>false
def Z0:List PyData->Bool
 | []=>true
 | d::ds=>fix d && Z0 ds
end
mutual
theorem Dv.tupK{K:Fg}{H H':Hp}(k:qh4 H H'):∀ (d:PyData) (v:V),fix d=true->Dv K H d v->Dv K H' d v
 | .none,_,_,h=>qq8.mpr (qq8.mp h)
 | .bool _,_,_,h=>qi0.mpr (qi0.mp h)
 | .int _,_,_,h=>wd3.mpr (wd3.mp h)
 | .str _,_,_,h=>N6.mpr (N6.mp h)
 | .list _,_,f,_=>by rw[fix] at f;cases f
 | .tuple ds,v,f,h=>by
   rw[fix] at f
   obtain⟨a,vs,rfl,hq,h⟩:=C3.mp h
   exact C3.mpr ⟨a,vs,rfl,k.sqT hq,Dvs.tupK k ds vs f h⟩
 | .dict _,_,f,_=>by rw[fix] at f;cases f
theorem Dvs.tupK{K:Fg}{H H':Hp}(k:qh4 H H'):∀ (ds:List PyData) (vs:List V),Z0 ds=true->Dvs K H ds vs->Dvs K H' ds vs
 | [],_,_,h=>by rw[Dvs] at h ⊢;exact h
 | d::ds,vs,f,h=>by
   rw[Z0,Bool.and_eq_true] at f
   rw[Dvs] at h ⊢
   obtain⟨v,r,e,h1,h2⟩:=h
   exact⟨v,r,e,Dv.tupK k d v f.1 h1,Dvs.tupK k ds r f.2 h2⟩
end
mutual
theorem Dv.same{K:Fg}{H H':Hp}(k:A6 H H'):∀ (d:PyData) (v:V),Dv K H d v->Dv K H' d v
 | .none,_,h=>qq8.mpr (qq8.mp h)
 | .bool _,_,h=>qi0.mpr (qi0.mp h)
 | .int _,_,h=>wd3.mpr (wd3.mp h)
 | .str _,_,h=>N6.mpr (N6.mp h)
 | .list ds,v,h=>by
   obtain⟨a,vs,rfl,hq,h⟩:=P5.mp h
   exact P5.mpr ⟨a,vs,rfl,k.sqL hq,Dvs.same k ds vs h⟩
 | .tuple ds,v,h=>by
   obtain⟨a,vs,rfl,hq,h⟩:=C3.mp h
   exact C3.mpr ⟨a,vs,rfl,k.sqT hq,Dvs.same k ds vs h⟩
 | .dict _,_,h=>by rw[Dv] at h;exact h.elim
theorem Dvs.same{K:Fg}{H H':Hp}(k:A6 H H'):∀ (ds:List PyData) (vs:List V),Dvs K H ds vs->Dvs K H' ds vs
 | [],_,h=>by rw[Dvs] at h ⊢;exact h
 | d::ds,vs,h=>by
   rw[Dvs] at h ⊢
   obtain⟨v,r,e,h1,h2⟩:=h
   exact⟨v,r,e,Dv.same k d v h1,Dvs.same k ds r h2⟩
end
mutual
theorem Dv.reads{X:Cx}{pins:List (Addr×Obj)}{σ:St}{H:Hp}{s:Shared}(I:Inv X pins σ H s):∀ (d:PyData) (v:V) (u:Value),Dv X.K H d v->M4 v u->∃ as,Reads s.heap u d as
 | .none,_,_,h,r=>by rw[qq8.mp h] at r;cases r;exact⟨_,.none⟩
 | .bool b,_,_,h,r=>by rw[qi0.mp h] at r;cases r;exact⟨_,.bool b⟩
 | .int i,_,_,h,r=>by rw[wd3.mp h] at r;obtain⟨t,rfl⟩:=r;exact⟨_,.int i t⟩
 | .str x,_,_,h,r=>by rw[N6.mp h] at r;obtain⟨t,rfl⟩:=r;exact⟨_,.str x t⟩
 | .list ds,_,_,h,r=>by
   obtain⟨a,vs,rfl,hq,h⟩:=P5.mp h
   cases r
   obtain⟨its,rv,pl,_⟩:=I.list hq
   obtain⟨o,e,c,n,d⟩:=pl.isList
   obtain⟨as,ra⟩:=Dvs.reads I ds vs its h rv
   exact⟨_,.list e c d (by simpa using ra)⟩
 | .tuple ds,_,_,h,r=>by
   obtain⟨a,vs,rfl,hq,h⟩:=C3.mp h
   cases r
   obtain⟨its,rv,pl,_⟩:=I.tuple hq
   obtain⟨o,e,c,n,d⟩:=pl
   obtain⟨as,ra⟩:=Dvs.reads I ds vs its h rv
   exact⟨_,.tuple e c d (by simpa using ra)⟩
 | .dict _,_,_,h,_=>by rw[Dv] at h;exact h.elim
theorem Dvs.reads{X:Cx}{pins:List (Addr×Obj)}{σ:St}{H:Hp}{s:Shared}(I:Inv X pins σ H s):∀ (ds:List PyData) (vs:List V) (us:List Value),Dvs X.K H ds vs->J9 vs us->∃ as,ReadsAll s.heap us ds as
 | [],_,_,h,r=>by rw[Dvs] at h;subst h;cases r;exact⟨_,.nil⟩
 | d :: ds,_,_,h,r=>by
   rw[Dvs] at h
   obtain⟨v,r',rfl,h1,h2⟩:=h
   cases r with
   | cons r1 r2 =>
     obtain⟨as,a1⟩:=Dv.reads I d v _ h1 r1
     obtain⟨bs,a2⟩:=Dvs.reads I ds r' _ h2 r2
     exact⟨_,.cons a1 a2⟩
end
open PySem.SeqAt
mutual
def nd:PyData->Bool
 | .none=>true | .bool _=>true | .int _=>true | .str _=>true
 | .list ds=>nds ds
 | .tuple ds=>nds ds
 | .dict _=>false
def nds:List PyData->Bool
 | []=>true
 | d::ds=>nd d && nds ds
end
mutual
theorem Dv.nd{K:Fg}{H:Hp}:∀ (d:PyData) (v:V),Dv K H d v->nd d=true
 | .none,_,_=>by rw[L2.nd]
 | .bool _,_,_=>by rw[L2.nd]
 | .int _,_,_=>by rw[L2.nd]
 | .str _,_,_=>by rw[L2.nd]
 | .list ds,_,h=>by
   obtain⟨a,vs,_,_,h⟩:=P5.mp h
   rw[L2.nd];exact Dvs.nd ds vs h
 | .tuple ds,_,h=>by
   obtain⟨a,vs,_,_,h⟩:=C3.mp h
   rw[L2.nd];exact Dvs.nd ds vs h
 | .dict _,_,h=>by rw[Dv] at h;exact h.elim
theorem Dvs.nd{K:Fg}{H:Hp}:∀ (ds:List PyData) (vs:List V),Dvs K H ds vs->nds ds=true
 | [],_,_=>by rw[nds]
 | d::ds,vs,h=>by
   rw[Dvs] at h
   obtain⟨v,r,_,h1,h2⟩:=h
   rw[nds,Dv.nd d v h1,Dvs.nd ds r h2];rfl
end
mutual
theorem ww7{h:Heap}:∀ (d d':PyData) (v:Value) (as as':List Addr),nd d=true->Reads h v d as->Reads h v d' as'->d=d'
 | .none,_,_,_,_,_,r,q=>by cases r;cases q;rfl
 | .bool _,_,_,_,_,_,r,q=>by cases r;cases q;rfl
 | .int _,_,_,_,_,_,r,q=>by cases r;cases q;rfl
 | .str _,_,_,_,_,_,r,q=>by cases r;cases q;rfl
 | .dict _,_,_,_,_,n,_,_=>by rw[L2.nd] at n;cases n
 | .list xs,d',_,_,_,n,r,q=>by
   rw[L2.nd] at n
   cases r with
   | list a1 a2 a3 a4 =>
     cases q with
     | list b1 b2 b3 b4=>rw[a1] at b1;cases b1;rw[a3] at b3;cases b3;rw[wj9 xs _ _ _ _ n a4 b4]
     | tuple b1 b2 b3 b4=>rw[a1] at b1;cases b1;rw[a2] at b2;exact absurd b2 (by simp)
     | dict b1 b2=>rw[a1] at b1;cases b1;rw[a2] at b2;exact absurd b2 (by simp)
 | .tuple xs,d',_,_,_,n,r,q=>by
   rw[L2.nd] at n
   cases r with
   | tuple a1 a2 a3 a4 =>
     cases q with
     | tuple b1 b2 b3 b4=>rw[a1] at b1;cases b1;rw[a3] at b3;cases b3;rw[wj9 xs _ _ _ _ n a4 b4]
     | list b1 b2 b3 b4=>rw[a1] at b1;cases b1;rw[a2] at b2;exact absurd b2 (by simp)
     | dict b1 b2=>rw[a1] at b1;cases b1;rw[a2] at b2;exact absurd b2 (by simp)
theorem wj9{h:Heap}:∀ (xs ys:List PyData) (vs:List Value) (as as':List Addr),nds xs=true->ReadsAll h vs xs as->ReadsAll h vs ys as'->xs=ys
 | [],_,_,_,_,_,r,q=>by cases r;cases q;rfl
 | x :: xs,_,_,_,_,n,r,q=>by
   rw[nds,Bool.and_eq_true] at n
   cases r with
   | cons r1 r2 =>
     cases q with
     | cons q1 q2=>rw[ww7 x _ _ _ _ n.1 r1 q1,wj9 xs _ _ _ _ n.2 r2 q2]
end
mutual
theorem qk2:∀ d:PyData,nd d=true->PyData.eqv d d=true
 | .none,_=>rfl
 | .bool b,_=>by simp[PyData.eqv]
 | .int i,_=>by simp[PyData.eqv]
 | .str x,_=>by simp[PyData.eqv]
 | .list xs,h=>by rw[PyData.eqv];rw[L2.nd] at h;exact wk0 xs h
 | .tuple xs,h=>by rw[PyData.eqv];rw[L2.nd] at h;exact wk0 xs h
 | .dict _,h=>by rw[L2.nd] at h;cases h
theorem wk0:∀ xs:List PyData,nds xs=true->PyData.eqvAll xs xs=true
 | [],_=>rfl
 | x::xs,h=>by
   rw[nds,Bool.and_eq_true] at h
   rw[PyData.eqvAll,qk2 x h.1,wk0 xs h.2];rfl
end
theorem N0{h:Heap}:∀ {xs:List PyData} {vs:List Value} {as:List Addr},ReadsAll h vs xs as->vs.length=xs.length
 | [],_,_,r=>by cases r;rfl
 | _::xs,_,_,r=>by
   cases r with
   | cons _ r'=>rw[List.length_cons,List.length_cons,N0 r']
mutual
theorem zc0:∀ (da db:PyData) (A:Around) (s:Shared) (a b:Value) (as bs:List Addr),Reads s.heap a da as->Reads s.heap b db bs->nd da=true->nd db=true->A.units+min da.depth db.depth<cLine->EqAt A s a b (PyData.eqv da db)
 | .none,db,A,s,_,_,_,_,ra,rb,_,hb,hu=>by
   cases ra
   cases rb with
   | none=>exact EqAt.same _
   | bool y=>exact EqAt.none_bool y
   | int y u=>exact EqAt.none_int y u
   | str y u=>exact EqAt.none_str y u
   | list k1 k2 k3 k4=>exact EqAt.none_list ⟨_,k1,k2,_,k3⟩ (room_here hu)
   | tuple k1 k2 k3 k4=>exact EqAt.none_tuple ⟨_,k1,k2,_,k3⟩ (room_here hu)
   | dict=>rw[L2.nd] at hb;cases hb
 | .bool x,db,A,s,_,_,_,_,ra,rb,_,hb,hu=>by
   cases ra
   cases rb with
   | none=>exact EqAt.bool_none x
   | bool y=>exact EqAt.bool_bool x y
   | int y u=>exact EqAt.bool_int x y u
   | str y u=>exact EqAt.bool_str x y u
   | list k1 k2 k3 k4=>exact EqAt.bool_list x ⟨_,k1,k2,_,k3⟩ (room_here hu)
   | tuple k1 k2 k3 k4=>exact EqAt.bool_tuple x ⟨_,k1,k2,_,k3⟩ (room_here hu)
   | dict=>rw[L2.nd] at hb;cases hb
 | .int x,db,A,s,_,_,_,_,ra,rb,_,hb,hu=>by
   cases ra
   cases rb with
   | none=>exact EqAt.int_none x _
   | bool y=>exact EqAt.int_bool x _ y
   | int y u=>exact EqAt.int_int x _ y u
   | str y u=>exact EqAt.int_str x _ y u
   | list k1 k2 k3 k4=>exact EqAt.int_list x _ ⟨_,k1,k2,_,k3⟩ (room_here hu)
   | tuple k1 k2 k3 k4=>exact EqAt.int_tuple x _ ⟨_,k1,k2,_,k3⟩ (room_here hu)
   | dict=>rw[L2.nd] at hb;cases hb
 | .str x,db,A,s,_,_,_,_,ra,rb,_,hb,hu=>by
   cases ra
   cases rb with
   | none=>exact EqAt.str_none x _
   | bool y=>exact EqAt.str_bool x _ y
   | int y u=>exact EqAt.str_int x _ y u
   | str y u=>exact EqAt.str_str x _ y u
   | list k1 k2 k3 k4=>exact EqAt.str_list x _ ⟨_,k1,k2,_,k3⟩ (room_here hu)
   | tuple k1 k2 k3 k4=>exact EqAt.str_tuple x _ ⟨_,k1,k2,_,k3⟩ (room_here hu)
   | dict=>rw[L2.nd] at hb;cases hb
 | .list xs,db,A,s,_,_,_,_,ra,rb,ha,hb,hu=>by
   have ra0:=ra
   have rb0:=rb
   cases ra with
   | @list l o1 vs1 n1 xs as h1 h2 h3 h4 =>
     cases rb with
     | none=>exact EqAt.list_none ⟨_,h1,h2,_,h3⟩ (room_here hu)
     | bool y=>exact EqAt.list_bool y ⟨_,h1,h2,_,h3⟩ (room_here hu)
     | int y u=>exact EqAt.list_int y u ⟨_,h1,h2,_,h3⟩ (room_here hu)
     | str y u=>exact EqAt.list_str y u ⟨_,h1,h2,_,h3⟩ (room_here hu)
     | tuple k1 k2 k3 k4=>exact EqAt.list_tuple ⟨_,h1,h2,_,h3⟩ ⟨_,k1,k2,_,k3⟩ (room_here hu)
     | @list b o vs2 n2 ys bs k1 k2 k3 k4 =>
       by_cases e:l=b
       ·subst e
        rw[ww7 _ _ _ _ _ ha ra0 rb0,qk2 _ hb]
        exact EqAt.same _
       ·refine EqAt.of_refs e ?_
        have l1:=N0 h4
        have l2:=N0 k4
        rw[L2.nd] at ha hb
        by_cases hz:xs.length=ys.length
        ·have:=RcAt.lists (A:=A) (s:=s) (e:=pairEq xs ys) ⟨_,h1,h2,_,h3⟩ ⟨_,k1,k2,_,k3⟩ (by simp at l1 l2;omega) (room_here hu) (fun j h1 h2=>by have q:=qa6 xs ys A.in1 s _ _ _ _ h4 k4 ha hb (room_in (by rw[PyData.depth,PyData.depth] at hu;exact hu)) j (by simpa using h1) (by simpa using h2);rw[Array.getElem_toList,Array.getElem_toList] at q;exact q)
         rw[show PyData.eqv (.list xs) (.list ys)=PyData.eqvAll xs ys by rw[PyData.eqv],<-eqvAll_same_length hz]
         have e1:vs1.size=xs.length:=by simpa using l1
         rw[e1] at this
         exact this
        ·rw[show PyData.eqv (.list xs) (.list ys)=PyData.eqvAll xs ys by rw[PyData.eqv],eqvAll_other_length hz]
         exact RcAt.lists_lengths ⟨_,h1,h2,_,h3⟩ ⟨_,k1,k2,_,k3⟩ (by simp at l1 l2;simp;omega) (room_here hu)
     | dict=>rw[L2.nd] at hb;cases hb
 | .tuple xs,db,A,s,_,_,_,_,ra,rb,ha,hb,hu=>by
   have ra0:=ra
   have rb0:=rb
   cases ra with
   | @tuple l o1 vs1 n1 xs as h1 h2 h3 h4 =>
     cases rb with
     | none=>exact EqAt.tuple_none ⟨_,h1,h2,_,h3⟩ (room_here hu)
     | bool y=>exact EqAt.tuple_bool y ⟨_,h1,h2,_,h3⟩ (room_here hu)
     | int y u=>exact EqAt.tuple_int y u ⟨_,h1,h2,_,h3⟩ (room_here hu)
     | str y u=>exact EqAt.tuple_str y u ⟨_,h1,h2,_,h3⟩ (room_here hu)
     | list k1 k2 k3 k4=>exact EqAt.tuple_list ⟨_,h1,h2,_,h3⟩ ⟨_,k1,k2,_,k3⟩ (room_here hu)
     | @tuple b o vs2 n2 ys bs k1 k2 k3 k4 =>
       by_cases e:l=b
       ·subst e
        rw[ww7 _ _ _ _ _ ha ra0 rb0,qk2 _ hb]
        exact EqAt.same _
       ·refine EqAt.of_refs e ?_
        have l1:=N0 h4
        have l2:=N0 k4
        rw[L2.nd] at ha hb
        have:=RcAt.tuples (A:=A) (s:=s) (e:=pairEq xs ys) ⟨_,h1,h2,_,h3⟩ ⟨_,k1,k2,_,k3⟩ (room_here hu) (fun j h1 h2=>by have q:=qa6 xs ys A.in1 s _ _ _ _ h4 k4 ha hb (room_in (by rw[PyData.depth,PyData.depth] at hu;exact hu)) j (by simpa using h1) (by simpa using h2);rw[Array.getElem_toList,Array.getElem_toList] at q;exact q)
        rw[show PyData.eqv (.tuple xs) (.tuple ys)=PyData.eqvAll xs ys by rw[PyData.eqv],<-eqvAll_eq xs ys]
        have e1:vs1.size=xs.length:=by simpa using l1
        have e2:vs2.size=ys.length:=by simpa using l2
        rw[e1,e2] at this
        exact this
     | dict=>rw[L2.nd] at hb;cases hb
 | .dict _,_,_,_,_,_,_,_,_,_,ha,_,_=>by rw[L2.nd] at ha;cases ha
theorem qa6:∀ (xs ys:List PyData) (A:Around) (s:Shared) (us ws:List Value) (as bs:List Addr),ReadsAll s.heap us xs as->ReadsAll s.heap ws ys bs->nds xs=true->nds ys=true->A.units+min (PyData.depthAll xs) (PyData.depthAll ys)<cLine ->
 ∀ j (h1:j<us.length) (h2:j<ws.length),EqAt A s us[j] ws[j] (pairEq xs ys j)
 | [],_,_,_,_,_,_,_,r,_,_,_,_=>by cases r;intro j h1;simp at h1
 | x :: xs,ys,A,s,_,ws,_,_,r,q,ha,hb,hu=>by
   cases r with
   | @cons u us d ds as1 as2 r1 r2 =>
     cases q with
     | nil=>intro j h1 h2;simp at h2
     | @cons w ws y ys bs1 bs2 q1 q2 =>
       rw[nds,Bool.and_eq_true] at ha hb
       rw[PyData.depthAll,PyData.depthAll] at hu
       intro j h1 h2
       cases j with
       | zero=>exact zc0 x y A s u w _ _ r1 q1 ha.1 hb.1 (room_head hu)
       | succ j =>
         exact qa6 xs ys A s us ws _ _ r2 q2 ha.2 hb.2 (room_tail hu) j (by simpa using h1) (by simpa using h2)
end
variable{db:PyData}
theorem zz0{da:PyData}{a b:Value}{bs:List Addr}(ra:Reads s.heap a da as)(rb:Reads s.heap b db bs)(ha:nd da=true)(hb:nd db=true)(hu:A.units+min da.depth db.depth<cLine):RcAt A s a b (PyData.eqv da db):=by
 cases ra with
 | none =>
   cases rb with
   | none=>exact RcAt.none_none
   | bool y=>exact RcAt.none_bool y
   | int y u=>exact RcAt.none_int y u
   | str y u=>exact RcAt.none_str y u
   | @list l2 o2 ws n2 ys bs k1 k2 k3 k4=>exact RcAt.none_list ⟨_,k1,k2,_,k3⟩ (room_here hu)
   | @tuple l2 o2 ws n2 ys bs k1 k2 k3 k4=>exact RcAt.none_tuple ⟨_,k1,k2,_,k3⟩ (room_here hu)
   | dict=>rw[L2.nd] at hb;cases hb
 | bool x =>
   cases rb with
   | none=>exact RcAt.bool_none x
   | bool y=>exact RcAt.bool_bool x y
   | int y u=>exact RcAt.bool_int x y u
   | str y u=>exact RcAt.bool_str x y u
   | @list l2 o2 ws n2 ys bs k1 k2 k3 k4=>exact RcAt.bool_list x ⟨_,k1,k2,_,k3⟩ (room_here hu)
   | @tuple l2 o2 ws n2 ys bs k1 k2 k3 k4=>exact RcAt.bool_tuple x ⟨_,k1,k2,_,k3⟩ (room_here hu)
   | dict=>rw[L2.nd] at hb;cases hb
 | int x t =>
   cases rb with
   | none=>exact RcAt.int_none x t
   | bool y=>exact RcAt.int_bool x t y
   | int y u=>exact RcAt.int_int x t y u
   | str y u=>exact RcAt.int_str x t y u
   | @list l2 o2 ws n2 ys bs k1 k2 k3 k4=>exact RcAt.int_list x t ⟨_,k1,k2,_,k3⟩ (room_here hu)
   | @tuple l2 o2 ws n2 ys bs k1 k2 k3 k4=>exact RcAt.int_tuple x t ⟨_,k1,k2,_,k3⟩ (room_here hu)
   | dict=>rw[L2.nd] at hb;cases hb
 | str x t =>
   cases rb with
   | none=>exact RcAt.str_none x t
   | bool y=>exact RcAt.str_bool x t y
   | int y u=>exact RcAt.str_int x t y u
   | str y u=>exact RcAt.str_str x t y u
   | @list l2 o2 ws n2 ys bs k1 k2 k3 k4=>exact RcAt.str_list x t ⟨_,k1,k2,_,k3⟩ (room_here hu)
   | @tuple l2 o2 ws n2 ys bs k1 k2 k3 k4=>exact RcAt.str_tuple x t ⟨_,k1,k2,_,k3⟩ (room_here hu)
   | dict=>rw[L2.nd] at hb;cases hb
 | @list l o vs n xs as h1 h2 h3 h4 =>
   cases rb with
   | none=>exact RcAt.list_none ⟨_,h1,h2,_,h3⟩ (room_here hu)
   | bool y=>exact RcAt.list_bool y ⟨_,h1,h2,_,h3⟩ (room_here hu)
   | int y u=>exact RcAt.list_int y u ⟨_,h1,h2,_,h3⟩ (room_here hu)
   | str y u=>exact RcAt.list_str y u ⟨_,h1,h2,_,h3⟩ (room_here hu)
   | @list l2 o2 ws n2 ys bs k1 k2 k3 k4 =>
     have l1:vs.size=xs.length:=by simpa using N0 h4
     have l2:ws.size=ys.length:=by simpa using N0 k4
     rw[L2.nd] at ha hb
     rw[PyData.depth,PyData.depth] at hu
     have hi:∀ j (h1:j<vs.size) (h2:j<ws.size),EqAt A.in1 s vs[j] ws[j] (pairEq xs ys j):=fun j h1 h2=>by
      have q:=qa6 xs ys A.in1 s _ _ _ _ h4 k4 ha hb (room_in hu) j (by simpa using h1) (by simpa using h2)
      rw[Array.getElem_toList,Array.getElem_toList] at q
      exact q
     have hu':A.units<cLine:=room_here hu
     rw[show PyData.eqv (.list xs) (.list ys)=PyData.eqvAll xs ys by rw[PyData.eqv]]
     by_cases hz:xs.length=ys.length
     ·have q:=RcAt.lists (A:=A) (s:=s) (e:=pairEq xs ys) ⟨_,h1,h2,_,h3⟩ ⟨_,k1,k2,_,k3⟩ (by omega) hu' hi
      rw[l1,eqvAll_same_length hz] at q
      exact q
     ·rw[eqvAll_other_length hz]
      exact RcAt.lists_lengths ⟨_,h1,h2,_,h3⟩ ⟨_,k1,k2,_,k3⟩ (by simp;omega) hu'
   | @tuple l2 o2 ws n2 ys bs k1 k2 k3 k4=>exact RcAt.list_tuple ⟨_,h1,h2,_,h3⟩ ⟨_,k1,k2,_,k3⟩ (room_here hu)
   | dict=>rw[L2.nd] at hb;cases hb
 | @tuple l o vs n xs as h1 h2 h3 h4 =>
   cases rb with
   | none=>exact RcAt.tuple_none ⟨_,h1,h2,_,h3⟩ (room_here hu)
   | bool y=>exact RcAt.tuple_bool y ⟨_,h1,h2,_,h3⟩ (room_here hu)
   | int y u=>exact RcAt.tuple_int y u ⟨_,h1,h2,_,h3⟩ (room_here hu)
   | str y u=>exact RcAt.tuple_str y u ⟨_,h1,h2,_,h3⟩ (room_here hu)
   | @list l2 o2 ws n2 ys bs k1 k2 k3 k4=>exact RcAt.tuple_list ⟨_,h1,h2,_,h3⟩ ⟨_,k1,k2,_,k3⟩ (room_here hu)
   | @tuple l2 o2 ws n2 ys bs k1 k2 k3 k4 =>
     have l1:vs.size=xs.length:=by simpa using N0 h4
     have l2:ws.size=ys.length:=by simpa using N0 k4
     rw[L2.nd] at ha hb
     rw[PyData.depth,PyData.depth] at hu
     have hi:∀ j (h1:j<vs.size) (h2:j<ws.size),EqAt A.in1 s vs[j] ws[j] (pairEq xs ys j):=fun j h1 h2=>by
      have q:=qa6 xs ys A.in1 s _ _ _ _ h4 k4 ha hb (room_in hu) j (by simpa using h1) (by simpa using h2)
      rw[Array.getElem_toList,Array.getElem_toList] at q
      exact q
     have hu':A.units<cLine:=room_here hu
     rw[show PyData.eqv (.tuple xs) (.tuple ys)=PyData.eqvAll xs ys by rw[PyData.eqv]]
     have q:=RcAt.tuples (A:=A) (s:=s) (e:=pairEq xs ys) ⟨_,h1,h2,_,h3⟩ ⟨_,k1,k2,_,k3⟩ hu' hi
     rw[l1,l2,eqvAll_eq xs ys] at q
     exact q
   | dict=>rw[L2.nd] at hb;cases hb
 | dict=>rw[L2.nd] at ha;cases ha
theorem zc1{da:PyData}{a b:Value}{bs:List Addr}(ra:Reads s.heap a da as)(rb:Reads s.heap b db bs)(ha:nd da=true)(hb:nd db=true)(hu:A.units+min da.depth db.depth<cLine):RcNeAt A s a b (!PyData.eqv da db):=by
 cases ra with
 | none =>
   cases rb with
   | none=>exact RcNeAt.none_none
   | bool y=>exact RcNeAt.none_bool y
   | int y u=>exact RcNeAt.none_int y u
   | str y u=>exact RcNeAt.none_str y u
   | @list l2 o2 ws n2 ys bs k1 k2 k3 k4=>exact RcNeAt.none_list ⟨_,k1,k2,_,k3⟩ (room_here hu)
   | @tuple l2 o2 ws n2 ys bs k1 k2 k3 k4=>exact RcNeAt.none_tuple ⟨_,k1,k2,_,k3⟩ (room_here hu)
   | dict=>rw[L2.nd] at hb;cases hb
 | bool x =>
   cases rb with
   | none=>exact RcNeAt.bool_none x
   | bool y=>exact RcNeAt.bool_bool x y
   | int y u=>exact RcNeAt.bool_int x y u
   | str y u=>exact RcNeAt.bool_str x y u
   | @list l2 o2 ws n2 ys bs k1 k2 k3 k4=>exact RcNeAt.bool_list x ⟨_,k1,k2,_,k3⟩ (room_here hu)
   | @tuple l2 o2 ws n2 ys bs k1 k2 k3 k4=>exact RcNeAt.bool_tuple x ⟨_,k1,k2,_,k3⟩ (room_here hu)
   | dict=>rw[L2.nd] at hb;cases hb
 | int x t =>
   cases rb with
   | none=>exact RcNeAt.int_none x t
   | bool y=>exact RcNeAt.int_bool x t y
   | int y u=>exact RcNeAt.int_int x t y u
   | str y u=>exact RcNeAt.int_str x t y u
   | @list l2 o2 ws n2 ys bs k1 k2 k3 k4=>exact RcNeAt.int_list x t ⟨_,k1,k2,_,k3⟩ (room_here hu)
   | @tuple l2 o2 ws n2 ys bs k1 k2 k3 k4=>exact RcNeAt.int_tuple x t ⟨_,k1,k2,_,k3⟩ (room_here hu)
   | dict=>rw[L2.nd] at hb;cases hb
 | str x t =>
   cases rb with
   | none=>exact RcNeAt.str_none x t
   | bool y=>exact RcNeAt.str_bool x t y
   | int y u=>exact RcNeAt.str_int x t y u
   | str y u=>exact RcNeAt.str_str x t y u
   | @list l2 o2 ws n2 ys bs k1 k2 k3 k4=>exact RcNeAt.str_list x t ⟨_,k1,k2,_,k3⟩ (room_here hu)
   | @tuple l2 o2 ws n2 ys bs k1 k2 k3 k4=>exact RcNeAt.str_tuple x t ⟨_,k1,k2,_,k3⟩ (room_here hu)
   | dict=>rw[L2.nd] at hb;cases hb
 | @list l o vs n xs as h1 h2 h3 h4 =>
   cases rb with
   | none=>exact RcNeAt.list_none ⟨_,h1,h2,_,h3⟩ (room_here hu)
   | bool y=>exact RcNeAt.list_bool y ⟨_,h1,h2,_,h3⟩ (room_here hu)
   | int y u=>exact RcNeAt.list_int y u ⟨_,h1,h2,_,h3⟩ (room_here hu)
   | str y u=>exact RcNeAt.list_str y u ⟨_,h1,h2,_,h3⟩ (room_here hu)
   | @list l2 o2 ws n2 ys bs k1 k2 k3 k4 =>
     have l1:vs.size=xs.length:=by simpa using N0 h4
     have l2:ws.size=ys.length:=by simpa using N0 k4
     rw[L2.nd] at ha hb
     rw[PyData.depth,PyData.depth] at hu
     have hi:∀ j (h1:j<vs.size) (h2:j<ws.size),EqAt A.in1 s vs[j] ws[j] (pairEq xs ys j):=fun j h1 h2=>by
      have q:=qa6 xs ys A.in1 s _ _ _ _ h4 k4 ha hb (room_in hu) j (by simpa using h1) (by simpa using h2)
      rw[Array.getElem_toList,Array.getElem_toList] at q
      exact q
     have hu':A.units<cLine:=room_here hu
     rw[show PyData.eqv (.list xs) (.list ys)=PyData.eqvAll xs ys by rw[PyData.eqv]]
     by_cases hz:xs.length=ys.length
     ·have q:=RcNeAt.lists (A:=A) (s:=s) (e:=pairEq xs ys) ⟨_,h1,h2,_,h3⟩ ⟨_,k1,k2,_,k3⟩ (by omega) hu' hi
      rw[l1,eqvAll_same_length hz] at q
      exact q
     ·rw[eqvAll_other_length hz]
      exact RcNeAt.lists_lengths ⟨_,h1,h2,_,h3⟩ ⟨_,k1,k2,_,k3⟩ (by simp;omega) hu'
   | @tuple l2 o2 ws n2 ys bs k1 k2 k3 k4=>exact RcNeAt.list_tuple ⟨_,h1,h2,_,h3⟩ ⟨_,k1,k2,_,k3⟩ (room_here hu)
   | dict=>rw[L2.nd] at hb;cases hb
 | @tuple l o vs n xs as h1 h2 h3 h4 =>
   cases rb with
   | none=>exact RcNeAt.tuple_none ⟨_,h1,h2,_,h3⟩ (room_here hu)
   | bool y=>exact RcNeAt.tuple_bool y ⟨_,h1,h2,_,h3⟩ (room_here hu)
   | int y u=>exact RcNeAt.tuple_int y u ⟨_,h1,h2,_,h3⟩ (room_here hu)
   | str y u=>exact RcNeAt.tuple_str y u ⟨_,h1,h2,_,h3⟩ (room_here hu)
   | @list l2 o2 ws n2 ys bs k1 k2 k3 k4=>exact RcNeAt.tuple_list ⟨_,h1,h2,_,h3⟩ ⟨_,k1,k2,_,k3⟩ (room_here hu)
   | @tuple l2 o2 ws n2 ys bs k1 k2 k3 k4 =>
     have l1:vs.size=xs.length:=by simpa using N0 h4
     have l2:ws.size=ys.length:=by simpa using N0 k4
     rw[L2.nd] at ha hb
     rw[PyData.depth,PyData.depth] at hu
     have hi:∀ j (h1:j<vs.size) (h2:j<ws.size),EqAt A.in1 s vs[j] ws[j] (pairEq xs ys j):=fun j h1 h2=>by
      have q:=qa6 xs ys A.in1 s _ _ _ _ h4 k4 ha hb (room_in hu) j (by simpa using h1) (by simpa using h2)
      rw[Array.getElem_toList,Array.getElem_toList] at q
      exact q
     have hu':A.units<cLine:=room_here hu
     rw[show PyData.eqv (.tuple xs) (.tuple ys)=PyData.eqvAll xs ys by rw[PyData.eqv]]
     have q:=RcNeAt.tuples (A:=A) (s:=s) (e:=pairEq xs ys) ⟨_,h1,h2,_,h3⟩ ⟨_,k1,k2,_,k3⟩ hu' hi
     rw[l1,l2,eqvAll_eq xs ys] at q
     exact q
   | dict=>rw[L2.nd] at hb;cases hb
 | dict=>rw[L2.nd] at ha;cases ha
theorem M7{k:Nat}(r:qd6 k A):A.units+190<cLine:=by have:=r.un;omega
def Q7(K:Fg):R2:=fun x y H Q=>rEq x y H Q\/∃ d e,Dv K H d x/\Dv K H e y/\min d.depth e.depth<=190/\Q (.bl (PyData.eqv d e)) H
def W5(K:Fg):R2:=fun x y H Q=>rNe x y H Q\/∃ d e,Dv K H d x/\Dv K H e y/\min d.depth e.depth<=190/\Q (.bl (!PyData.eqv d e)) H
theorem L6(hu:X.A.units+190<cLine):OpR X (compareOp .Eq) (Q7 X.K):=by
 refine Af2.or ?_
 intro pins s σ H x y v u Q I rx ry h
 obtain⟨d,e,hx,hy,hz,q⟩:=h
 obtain⟨as,ra⟩:=Dv.reads I d x v hx rx
 obtain⟨bs,rb⟩:=Dv.reads I e y u hy ry
 have hroom:X.A.units+min d.depth e.depth<cLine:=Nat.lt_of_le_of_lt (Nat.add_le_add_left hz _) hu
 exact zz0 ra rb (Dv.nd d x hx) (Dv.nd e y hy) hroom X.prog X.w X.xe _ ⟨.bl _,H,I,rfl,q⟩
theorem O3(hu:X.A.units+190<cLine):OpR X (compareOp .NotEq) (W5 X.K):=by
 refine Af3.or ?_
 intro pins s σ H x y v u Q I rx ry h
 obtain⟨d,e,hx,hy,hz,q⟩:=h
 obtain⟨as,ra⟩:=Dv.reads I d x v hx rx
 obtain⟨bs,rb⟩:=Dv.reads I e y u hy ry
 have hroom:X.A.units+min d.depth e.depth<cLine:=Nat.lt_of_le_of_lt (Nat.add_le_add_left hz _) hu
 exact zc1 ra rb (Dv.nd d x hx) (Dv.nd e y hy) hroom X.prog X.w X.xe _ ⟨.bl _,H,I,rfl,q⟩
def Y5(K:Fg):R2:=fun x y H Q=>rI0 (fun i j=>.int (i+j)) x y H Q\/(∃ i j,x=.str i/\y=.str j/\i.length+j.length<=sizeLine/\Q (.str (i++j)) H)\/Ag3 x y H Q\/zt5 K x y H Q
theorem R5:OpR X (binaryOp .Add) (Y5 X.K):=zw6.or (yh9.or (zx9.or zl8))
def zt8:R2:=fun x y H Q=>∃ z n,x=.str z/\y=.int n/\0<=n/\n<=1000/\z.length<=1000/\Q (.str (PySem.Txt.mul z n)) H
theorem yj0:OpR X (binaryOp .Mult) zt8:=by
 intro pins s σ H x y v u Q I rx ry h
 obtain⟨z,n,rfl,rfl,h0,h1,h2,q⟩:=h
 obtain⟨t,rfl⟩:=rx
 obtain⟨t',rfl⟩:=ry
 refine wpAny_with_toks (n:=1) I.tk (SB.mul ⟨?_,fun hn _=>?_,fun hn _=>?_⟩ fun t' k ht=>⟨.str _,H,I.tok _ ht,⟨_,rfl⟩,q⟩)
 ·rw[decide_eq_false (by omega),decide_eq_false (by omega)];rfl
 ·have e1:(2 ^ 63-1:Int) / n>=(2 ^ 63-1) / 1000:=by
   have hp:(0:Int)<n:=by omega
   apply Int.le_ediv_of_mul_le hp
   have:(2 ^ 63-1:Int) / 1000*n<=(2 ^ 63-1) / 1000*1000:=Int.mul_le_mul_of_nonneg_left h1 (by decide)
   have e:(2 ^ 63-1:Int) / 1000*1000<=2 ^ 63-1:=by decide
   omega
  have e2:(2 ^ 63-1:Int) / 1000>=1000:=by decide
  omega
 ·have:z.length*n.toNat<=1000*1000:=Nat.mul_le_mul h2 (by omega)
  have hs:sizeLine=16777216:=sizeLine_eq
  unfold Builtin.Str.tooLong
  exact decide_eq_false (by omega)
def qp2:R2:=fun x y H Q=>rI yz9 (fun i j=>.int (i*j)) x y H Q\/zt8 x y H Q\/Ag4 x y H Q
theorem Z9:OpR X (binaryOp .Mult) qp2:=zw7.or (yj0.or zy0)
def Al9:R2:=fun x y H Q=>∃ i j:Str,x=.str i/\y=.str j/\Q (.bl (decide (i.cps.toList<j.cps.toList))) H
def Ag8:R2:=fun x y H Q=>∃ i j:Str,x=.str i/\y=.str j/\Q (.bl (!decide (j.cps.toList<i.cps.toList))) H
def Ag9:R2:=fun x y H Q=>∃ i j:Str,x=.str i/\y=.str j/\Q (.bl (decide (j.cps.toList<i.cps.toList))) H
def Ah0:R2:=fun x y H Q=>∃ i j:Str,x=.str i/\y=.str j/\Q (.bl (!decide (i.cps.toList<j.cps.toList))) H
theorem yv9:OpR X (compareOp .LtE) Ag8:=by
 intro pins s σ H x y v u Q I rx ry h
 obtain⟨i,j,rfl,rfl,q⟩:=h
 obtain⟨t,rfl⟩:=rx
 obtain⟨t',rfl⟩:=ry
 exact PySem.P.le_str ⟨.bl _,H,I,rfl,q⟩
theorem yw0:OpR X (compareOp .Gt) Ag9:=by
 intro pins s σ H x y v u Q I rx ry h
 obtain⟨i,j,rfl,rfl,q⟩:=h
 obtain⟨t,rfl⟩:=rx
 obtain⟨t',rfl⟩:=ry
 exact PySem.P.gt_str ⟨.bl _,H,I,rfl,q⟩
theorem yw1:OpR X (compareOp .GtE) Ah0:=by
 intro pins s σ H x y v u Q I rx ry h
 obtain⟨i,j,rfl,rfl,q⟩:=h
 obtain⟨t,rfl⟩:=rx
 obtain⟨t',rfl⟩:=ry
 exact PySem.P.ge_str ⟨.bl _,H,I,rfl,q⟩
def yj1:R2:=fun x y H Q=>rI0 (fun i j=>.bl (decide (i<j))) x y H Q\/Al9 x y H Q
def zc2:R2:=fun x y H Q=>rI0 (fun i j=>.bl (decide (i<=j))) x y H Q\/Ag8 x y H Q
def ww8:R2:=fun x y H Q=>rI0 (fun i j=>.bl (decide (j<i))) x y H Q\/Ag9 x y H Q
def zm8:R2:=fun x y H Q=>rI0 (fun i j=>.bl (decide (j<=i))) x y H Q\/Ah0 x y H Q
theorem ww9:OpR X (compareOp .Lt) yj1:=Af4.or yu6
theorem yj2:OpR X (compareOp .LtE) zc2:=Af5.or yv9
theorem qh5:OpR X (compareOp .Gt) ww8:=Af6.or yw0
theorem zc3:OpR X (compareOp .GtE) zm8:=Af7.or yw1
def Am0(neg:Bool):R2:=fun x y H Q=>∃ i j:Str,x=.str i/\y=.str j/\Q (.bl (if neg then !(!(Builtin.Str.occurrences j i 0 j.length 1).isEmpty) else !(Builtin.Str.occurrences j i 0 j.length 1).isEmpty)) H
def zc4(K:Fg)(neg:Bool):R2:=fun x y H Q=>rIn K neg x y H Q\/Am0 neg x y H Q
theorem zz1:OpR X (compareOp .In) (zc4 X.K false):=yv4.or yu7
theorem yw2:OpR X (compareOp .NotIn) (zc4 X.K true):=xs9.or xt0
def xt6:R2:=fun x y H Q=>y=.non/\Q (.bl (decide (x=.non))) H
def qm0:R2:=fun x y H Q=>y=.non/\Q (.bl (!decide (x=.non))) H
theorem qv9:OpR X (compareOp .Is) xt6:=zw9
theorem qj6:OpR X (compareOp .IsNot) qm0:=zl3
def P6(K:Fg):List V->Hp->VK->Prop:=fun xs H Q=>(∃ p ys,xs=[.ref p]/\(SqL K H p ys\/SqT K H p ys)/\Q (.int ys.length) H)\/(∃ z,xs=[.str z]/\z.length<=sizeLine/\Q (.int z.length) H) \/
 ∃ a kvs,xs=[V.ref a]/\H a=some (.dK kvs)/\Q (.int kvs.length) H
theorem E7:V3 X (.builtin "len") (P6 X.K):=xt1.or (xt2.or yv8)
def xt7(K:Fg):List V->Hp->VK->Prop:=fun xs H Q=>∃ p ys,xs=[.ref p]/\(SqL K H p ys\/SqT K H p ys)/\∀ l,H l=none->Q (.ref l) (upd H l (.lst ys))
theorem wd4:V3 X (.type "list") (xt7 X.K):=xt3
def qm1(K:Fg):List V->Hp->VK->Prop:=fun xs H Q=>∃ p ys,xs=[.ref p]/\((SqL K H p ys/\∀ l,H l=none->Q (.ref l) (upd H l (.tup ys)))\/(SqT K H p ys/\Q (.ref p) H))
theorem T4:V3 X (.type "tuple") (qm1 X.K):=xh7
def wx0:List V->Hp->VK->Prop:=fun xs H Q=>(∃ i,xs=[.int i]/\Q (.int i) H)\/∃ k,xs=[.bl k]/\Q (.int (if k then 1 else 0)) H
theorem X7:V3 X (.type "int") wx0:=yu9
theorem wf5:∀ {xs:List Str} {us:List Value},J9 (D4 xs) us->StrsAre us xs
 | [],_,h=>by cases h;exact .nil
 | x :: xs,_,h=>by
   have h:J9 (V.str x::D4 xs) _:=h
   cases h with
   | cons r t =>
     obtain⟨t',rfl⟩:=r
     exact .cons x t' (wf5 t)
theorem xq4:∀ {xs:List Str} {us:List Value},StrsAre us xs->J9 (D4 xs) us
 | _,_,.nil=>.nil
 | _,_,.cons y t h=>.cons ⟨t,rfl⟩ (xq4 h)
def yb0(K:Fg):List V->Hp->VK->Prop:=fun xs H Q=>∃ p ys,xs=[.ref p]/\SqL K H p (D4 ys)/\ys.length<64 /\
 ∀ l ys',ys'.Perm ys->sortedS ys'=true->H l=none->Q (.ref l) (upd H l (.lst (D4 ys')))
theorem xt8:V3 X (.builtin "sorted") (yb0 X.K):=by
 intro pins s σ H xs us Q I r h
 obtain⟨p,ys,rfl,hq,hl,q⟩:=h
 obtain⟨u,rfl,rx⟩:=qp0 r
 cases rx
 obtain⟨its,rv,pl,hz⟩:=I.list hq
 have hlen:=rv.length
 have hn:(D4 ys).length=ys.length:=List.length_map _
 refine sorted_strs pl.isList (wf5 rv) (by omega) fun out ss' h1 h2 h3=>?_
 have kp:∀ b o,s.heap.get? b=some o->(sortedAll s.heap its out).get? b=some o:=fun b o e=>sortedAll_old e
 obtain⟨e,he⟩:=sortedAll_at s.heap its out
 have hf:H (s.heap.objs.size+1)=none:=I.hok.fresh (Nat.le_succ _)
 have hz':(D4 ss').length<=sizeLine:=by
  have:=h2.length_eq
  show(ss'.map V.str).length<=_
  rw[List.length_map];rw[hn] at hz;omega
 refine⟨.ref (s.heap.objs.size+1),_,I.laid (t':=s.toks) (o:=.lst (D4 ss')) kp (Nat.le_succ _) ?_,rfl,q _ _ h2 h3 hf⟩
 exact⟨hz',out.toList,e,xq4 h1,by simpa [seqObj] using he⟩
def zt9(K:Fg):V->List V->Hp->VK->Prop:=fun x vs H Q=>∃ z p ys,x=.str z/\vs=[.ref p]/\(SqL K H p (D4 ys)\/SqT K H p (D4 ys))/\(ys.map (·.length)).sum+ys.length*z.length<=16777216/\Q (.str (PySem.Txt.join z ys)) H
theorem zm9:MtR X "str.join" (zt9 X.K):=by
 intro pins s σ H x vs v us Q I rx rv h
 obtain⟨z,p,ys,rfl,rfl,hq,hs,q⟩:=h
 obtain⟨t,rfl⟩:=rx
 obtain⟨u,rfl,ru⟩:=rv.one
 cases ru
 rcases hq with hq|hq
 ·obtain⟨its,r,pl,hz⟩:=I.list hq
  exact wpAny_with_toks (n:=1) I.tk (join_list pl.isList (by simpa using wf5 r) hs fun t' k ht=>⟨.str _,H,I.tok _ ht,⟨_,rfl⟩,q⟩)
 ·obtain⟨its,r,pl,hz⟩:=I.tuple hq
  exact wpAny_with_toks (n:=1) I.tk (join_tuple pl (by simpa using wf5 r) hs fun t' k ht=>⟨.str _,H,I.tok _ ht,⟨_,rfl⟩,q⟩)
def Y6{α:Type}(xs:List α)(k:Nat)(y:α):List α:=xs.take k++y::xs.drop k
def xt9:V->List V->Hp->VK->Prop:=fun x vs H Q=>∃ (l:Addr) (xs:List V) (i:Int) (y:V),x=.ref l/\vs=[.int i,y]/\H l=some (.lst xs)/\0<=i/\i<=xs.length/\xs.length<sizeLine/\Q .non (upd H l (.lst (Y6 xs i.toNat y)))
theorem yw3:MtR X "list.insert" xt9:=by
 intro pins s σ H x vs v us Q I rx rv h
 obtain⟨l,xs,i,y,rfl,rfl,hH,h0,h1,hz,q⟩:=h
 cases rx
 obtain⟨u,w',rfl,ru,rw'⟩:=rv.two
 obtain⟨t,rfl⟩:=ru
 obtain⟨z,its,n,r,hl,e⟩:=I.lstM hH
 have hs:sizeLine=16777216:=sizeLine_eq
 refine call_meets F.slot_list_insert ⟨_,e,rfl⟩ F.entry_list_insert (F.args_list_insert_3 _ _ _) (AutoListH.list_insert_list_int_val_1 l its.toArray n i t w' (by rw[fitsIndex_both (by omega) (by omega)];exact Bool.false_ne_true) (by rw[List.size_toArray];omega)) ⟨e,?_⟩
 refine⟨.non,_,I.lset (its':=Y6 its i.toNat w') (t':=s.toks) hH e ?_ ?_ ?_,rfl,q⟩
 ·have hi:¬i<0:=by omega
  have hm:min i.toNat its.length=i.toNat:=by omega
  simp only[hi,if_false,List.size_toArray,hm]
  unfold Y6
  apply Array.toList_inj.mp
  simp
  exact List.take_of_length_le (by rw[List.length_drop];exact Nat.le_refl _)
 ·exact J9.append (r.take i.toNat) (.cons rw' (r.drop i.toNat))
 ·unfold Y6
  rw[List.length_append,List.length_cons,List.length_take,List.length_drop]
  omega
def qi1(K:Fg)(tl:TE):TI:=fun σ H R=>tl σ H fun x H1=>∃ a,x=.ref a/\(((∃ xs,SqL K H1 a xs)/\R (Itl K a) H1)\/((∃ xs,SqT K H1 a xs)/\R (Itt K a) H1))
theorem R0{l:Expr}{tl:TE}(hl:PE X l tl):PI X tg l (qi1 X.K tl):=by
 intro pins s σ H R I h
 refine thn (hl pins s σ H _ I h) fun v s1 zq=>?_
 obtain⟨x,H1,I1,r1,q1⟩:=zq
 obtain⟨a,e,q⟩:=q1
 subst e
 cases r1
 rcases q with⟨⟨xs,hq⟩,q⟩|⟨⟨xs,hq⟩,q⟩
 ·obtain⟨its,rv,p,hz⟩:=I1.list hq
  refine wpAny_pyIter_list p.isList ?_
  refine⟨s1.heap.objs.size,[s1.heap.objs.size],_,_,H1,rfl,I1.kept (t':=s1.toks) fun b o e=>Heap.get?_push_of_some _ e,yu2 a _,⟨_,Heap.get?_push_size _ rfl,rfl,rfl⟩,fun b hb=>?_,q⟩
  have e:b=s1.heap.objs.size:=by simpa using hb
  subst e
  exact I1.fpOk (Nat.le_refl _) (I1.hok.fresh (Nat.le_refl _))
 ·obtain⟨its,rv,p,hz⟩:=I1.tuple hq
  refine wpAny_pyIter_tuple (show s1.heap.IsTuple a its.toArray from p) ?_
  refine⟨s1.heap.objs.size,[s1.heap.objs.size],_,_,H1,rfl,I1.kept (t':=s1.toks) fun b o e=>Heap.get?_push_of_some _ e,yh6 a _,⟨_,Heap.get?_push_size _ rfl,rfl,rfl⟩,fun b hb=>?_,q⟩
  have e:b=s1.heap.objs.size:=by simpa using hb
  subst e
  exact I1.fpOk (Nat.le_refl _) (I1.hok.fresh (Nat.le_refl _))
theorem zc5 (h:wi σ H fun J H1=>∃ W:Nat->Nat->St->Hp->Prop,(∃ m,W 0 m σ H1)/\∀ i m σ H,W i m σ H ->
 (J.stop i H/\D.nx σ H)\/(J.go i H/\∃ N:St->Hp->Prop,(∀ σ' H',N σ' H'->∃ m',m'<m/\W (i+1) m' σ' H')/\∀ x H',J.yld i H x H'->g x σ H' fun σ2 H2=>tb {D with nx:=N,ct:=N,bk:=D.nx} σ2 H2)):qh9 wi g tb D σ H:=h
abbrev wx1(g:TG)(tb:TS)(D:V0)(σ:St)(J:It)(H1:Hp):Prop:=∃ W:Nat->Nat->St->Hp->Prop,(∃ m,W 0 m σ H1)/\∀ i m σ H,W i m σ H ->
 (J.stop i H/\D.nx σ H)\/(J.go i H/\∃ N:St->Hp->Prop,(∀ σ' H',N σ' H'->∃ m',m'<m/\W (i+1) m' σ' H')/\∀ x H',J.yld i H x H'->g x σ H' fun σ2 H2=>tb {D with nx:=N,ct:=N,bk:=D.nx} σ2 H2)
theorem yp6(hq:SqL K H a xs\/SqT K H a xs)(Pv:Nat->St->Hp->Prop)(h0:Pv 0 σ H)(hl:SqL K H a xs->∀ i σ H,i<=xs.length->Pv i σ H->SqL K H a xs)(ht:SqT K H a xs->∀ i σ H,i<=xs.length->Pv i σ H->SqT K H a xs)(hs:∀ i x σ H,xs[i]?=some x->Pv i σ H->g x σ H fun σ2 H2=>tb {D with nx:=PAt Pv (i+1),ct:=PAt Pv (i+1),bk:=D.nx} σ2 H2)(hd:∀ σ H,Pv xs.length σ H->D.nx σ H) :
 ∃ b,V.ref a=.ref b/\(((∃ xs,SqL K H b xs)/\wx1 g tb D σ (Itl K b) H)\/((∃ xs,SqT K H b xs)/\wx1 g tb D σ (Itt K b) H)):=by
 refine⟨a,rfl,?_⟩
 rcases hq with hq|hq
 ·exact .inl ⟨⟨xs,hq⟩,we9 Pv h0 (hl hq) hs hd⟩
 ·exact .inr ⟨⟨xs,hq⟩,yo5 Pv h0 (ht hq) hs hd⟩
theorem qg8{n:Int}(h0:0<=n)(hn:n<2 ^ 62)(Pv:Nat->St->Hp->Prop)(p0:Pv 0 σ H)(hs:∀ (i:Nat) σ H,(i:Int)<n->Pv i σ H->g (.int i) σ H fun σ2 H2=>tb {D with nx:=PAt Pv (i+1),ct:=PAt Pv (i+1),bk:=D.nx} σ2 H2)(hd:∀ σ H,Pv n.toNat σ H->D.nx σ H) :
 ∃ j:Int,[V.int n]=[.int j]/\-(2 ^ 62)<=j/\j<2 ^ 62/\wx1 g tb D σ (Itr 0 j.toNat) H :=
 ⟨n,rfl,by omega,hn,yu5 (lo:=0) (n:=n.toNat) Pv p0 (fun i σ H hi p=>by rw[Int.zero_add];exact hs i σ H (by omega) p) hd⟩
abbrev qw0(g:TG)(tt:TT)(te:TE)(σ':St)(Q:VK)(J:It)(H1:Hp):Prop:=∃ W:Nat->Nat->List V->Hp->Prop,(∃ m,W 0 m [] H1)/\∀ i m ys H,W i m ys H->ys.length<=sizeLine /\
 ((J.stop i H/\∀ p,H p=none->Q (.ref p) (upd H p (.lst ys))) \/
  (J.go i H/\∃ NN:List V->Hp->Prop,(∀ ys' H',NN ys' H'->∃ m',m'<m/\W (i+1) m' ys' H')/\∀ x H',J.yld i H x H'->g x σ' H' fun σ2 H2=>tt σ2 H2 fun b H3 =>
   if b=true then te σ2 H3 fun y H4=>NN (ys++[y]) H4 else NN ys H3))
theorem zn0{Q:VK}(h:wi σ H (qw0 g tt te (qv8 fr σ) Q)):Y4 fr wi g tt te σ H Q:=h
variable{σ':St}
theorem wf6{Q:VK}(item:Nat->V->Prop)(Pv:Nat->List V->Hp->Prop)(h0:Pv 0 [] H)(hlen:∀ i ys H,i<=n->Pv i ys H->ys.length<=sizeLine)(hgo:∀ i ys H,i<n->Pv i ys H->J.go i H)(hy:∀ i ys H x H',i<n->Pv i ys H->J.yld i H x H'->H'=H/\item i x)(hst:∀ ys H,Pv n ys H->J.stop n H)(hs:∀ i x ys H,i<n->item i x->Pv i ys H->g x σ' H fun σ2 H2=>tt σ2 H2 fun b H3=>if b=true then te σ2 H3 fun y H4=>PAt Pv (i+1) (ys++[y]) H4 else PAt Pv (i+1) ys H3)(hd:∀ ys H,Pv n ys H->∀ p,H p=none->Q (.ref p) (upd H p (.lst ys))):qw0 g tt te σ' Q J H:=by
 refine⟨fun i m ys H=>m=n-i/\i<=n/\Pv i ys H,⟨n,by simp,Nat.zero_le _,h0⟩,?_⟩
 rintro i m ys H ⟨rfl,hi,p⟩
 refine⟨hlen i ys H hi p,?_⟩
 by_cases hlt:i<n
 ·refine .inr ⟨hgo i ys H hlt p,Pv (i+1),fun ys' H' q=>⟨n-(i+1),by omega,rfl,hlt,q⟩,fun x H' y=>?_⟩
  obtain⟨rfl,hx⟩:=hy i ys H x H' hlt p y
  exact hs i x ys _ hlt hx p
 ·have e:i=n:=by omega
  subst e
  exact .inl ⟨hst ys H p,hd ys H p⟩
theorem qe0{Q:VK}(hq:SqL K H a xs)(Pv:Nat->List V->Hp->Prop)(h0:Pv 0 [] H)(hlen:∀ i ys H,i<=xs.length->Pv i ys H->ys.length<=sizeLine)(hl:∀ i ys H,i<=xs.length->Pv i ys H->SqL K H a xs)(hs:∀ i x ys H,xs[i]?=some x->Pv i ys H->g x σ' H fun σ2 H2=>tt σ2 H2 fun b H3=>if b=true then te σ2 H3 fun y H4=>PAt Pv (i+1) (ys++[y]) H4 else PAt Pv (i+1) ys H3)(hd:∀ ys H,Pv xs.length ys H->∀ p,H p=none->Q (.ref p) (upd H p (.lst ys))) :
 ∃ b,V.ref a=.ref b/\(((∃ xs,SqL K H b xs)/\qw0 g tt te σ' Q (Itl K b) H)\/((∃ xs,SqT K H b xs)/\qw0 g tt te σ' Q (Itt K b) H)):=by
 refine⟨a,rfl,.inl ⟨⟨xs,hq⟩,wf6 (n:=xs.length) (fun i x=>xs[i]?=some x) Pv h0 hlen (fun i ys H hi p=>?_) (fun i ys H x H' hi p y=>?_) (fun ys H p=>?_) (fun i x ys H _ hx p=>hs i x ys H hx p) hd⟩⟩
 ·exact⟨xs,xs[i],hl i ys H (Nat.le_of_lt hi) p,by simp[hi]⟩
 ·exact⟨y.1,y.2 xs (hl i ys H (Nat.le_of_lt hi) p)⟩
 ·exact⟨xs,hl _ ys H (Nat.le_refl _) p,Nat.le_refl _⟩
theorem zc6(hq:SqL K H a xs)(Pv:Nat->St->Hp->Prop)(h0:Pv 0 σ H)(hl:∀ i σ H,i<=xs.length->Pv i σ H->SqL K H a xs)(hs:∀ i x σ H,xs[i]?=some x->Pv i σ H->g x σ H fun σ2 H2=>tb {D with nx:=PAt Pv (i+1),ct:=PAt Pv (i+1),bk:=D.nx} σ2 H2)(hd:∀ σ H,Pv xs.length σ H->D.nx σ H) :
 ∃ b,V.ref a=.ref b/\(((∃ xs,SqL K H b xs)/\wx1 g tb D σ (Itl K b) H)\/((∃ xs,SqT K H b xs)/\wx1 g tb D σ (Itt K b) H)) :=
 ⟨a,rfl,.inl ⟨⟨xs,hq⟩,we9 Pv h0 hl hs hd⟩⟩
theorem qp3{Q:VK}{n:Int}(h0:0<=n)(hn:n<2 ^ 62)(Pv:Nat->List V->Hp->Prop)(p0:Pv 0 [] H)(hlen:∀ (i:Nat) ys H,(i:Int)<=n->Pv i ys H->ys.length<=sizeLine)(hs:∀ (i:Nat) ys H,(i:Int)<n->Pv i ys H->g (.int i) σ' H fun σ2 H2=>tt σ2 H2 fun b H3=>if b=true then te σ2 H3 fun y H4=>PAt Pv (i+1) (ys++[y]) H4 else PAt Pv (i+1) ys H3)(hd:∀ ys H,Pv n.toNat ys H->∀ p,H p=none->Q (.ref p) (upd H p (.lst ys))) :
 ∃ j:Int,[V.int n]=[.int j]/\-(2 ^ 62)<=j/\j<2 ^ 62/\qw0 g tt te σ' Q (Itr 0 j.toNat) H :=
 ⟨n,rfl,by omega,hn,wf6 (n:=n.toNat) (fun i x=>x=.int i) Pv p0 (fun i ys H hi p=>hlen i ys H (by omega) p) (fun i ys H hi _=>hi) (fun i ys H x H' hi _ y=>⟨y.1,by rw[y.2,Int.zero_add]⟩) (fun ys H _=>Nat.le_refl _)
  (fun i x ys H hi hx p=>by subst hx;exact hs i ys H (by omega) p) hd⟩
theorem yw4{Q:VK}{lo hi:Int}(h1:-(2 ^ 62)<=lo)(h2:lo<=hi)(h3:hi<2 ^ 62)(Pv:Nat->List V->Hp->Prop)(p0:Pv 0 [] H)(hlen:∀ (i:Nat) ys H,lo+i<=hi->Pv i ys H->ys.length<=sizeLine)(hs:∀ (i:Nat) ys H,lo+i<hi->Pv i ys H->g (.int (lo+i)) σ' H fun σ2 H2=>tt σ2 H2 fun b H3=>if b=true then te σ2 H3 fun y H4=>PAt Pv (i+1) (ys++[y]) H4 else PAt Pv (i+1) ys H3)(hd:∀ ys H,Pv (hi-lo).toNat ys H->∀ p,H p=none->Q (.ref p) (upd H p (.lst ys))) :
 ∃ i j:Int,[V.int lo,V.int hi]=[.int i,.int j]/\(-(2 ^ 62)<=i/\i<2 ^ 62/\-(2 ^ 62)<=j/\j<2 ^ 62)/\qw0 g tt te σ' Q (Itr i (j-i).toNat) H :=
 ⟨lo,hi,rfl,⟨h1,by omega,by omega,h3⟩,wf6 (n:=(hi-lo).toNat) (fun i x=>x=.int (lo+i)) Pv p0 (fun i ys H hi' p=>hlen i ys H (by omega) p) (fun i ys H hi' _=>hi') (fun i ys H x H' hi' _ y=>y) (fun ys H _=>Nat.le_refl _)
  (fun i x ys H hi' hx p=>by subst hx;exact hs i ys H (by omega) p) hd⟩
section
variable{Q:VK}
theorem xu0{t u:TS}(h:t {D with nx:=u D} σ H):C1 t u D σ H:=h
theorem wf7(h:D.nx σ H):E8 D σ H:=h
theorem zz2(h:te σ H fun x H1=>g x σ H1 D.nx):E4 te g D σ H:=h
theorem N1{i:Nat}{R:St->Hp->Prop}(h:R (σ.set i (some v)) H):B3 i v σ H R:=h
theorem xu1{i:Nat}(e:σ[i]?=some (some v))(h:Q v H):A4 i σ H Q:=⟨v,e,h⟩
theorem Ah1(h:Q v H):tC v σ H Q:=h
theorem zc7{r:R2}{tb:TE}(h:ta σ H fun x H1=>tb σ H1 fun y H2=>r x y H2 Q):tOp r ta tb σ H Q:=h
theorem Ah2{r:V->Hp->VK->Prop}(h:ta σ H fun x H1=>r x H1 Q):tUn r ta σ H Q:=h
theorem zz3(h:te σ H D.rt):G9 te D σ H:=h
theorem yp7(h:te σ H fun _ H1=>D.nx σ H1):qh6 te D σ H:=h
theorem zu0{c:TT}{t u:TS}(h:c σ H fun b H1=>if b=true then t D σ H1 else u D σ H1):M3 c t u D σ H:=h
theorem zz4{c:TT}{tb:TE}(h:c σ H fun b H1=>if b=true then ta σ H1 Q else tb σ H1 Q):tIf c ta tb σ H Q:=h
theorem yp8{t:TE}{R:Bool->Hp->Prop}(h:t σ H fun x H'=>∃ k,x=.bl k/\R k H'):D6 t σ H R:=h
theorem Am1{t:TE}{R:Bool->Hp->Prop}(h:t σ H fun x H'=>∃ k,x=.bl k/\R k H'):tB t σ H R:=h
theorem Ah3{b:Bool}{R:Bool->Prop}(h:R b):∃ k,V.bl b=.bl k/\R k:=⟨b,rfl,h⟩
theorem zz5{t u:TT}{R:Bool->Hp->Prop}(h:t σ H fun c H1=>if c=true then u σ H1 R else R false H1):wa6 t u σ H R:=h
theorem Ah4{t u:TT}{R:Bool->Hp->Prop}(h:t σ H fun c H1=>if c=true then R true H1 else u σ H1 R):tOr t u σ H R:=h
theorem zz6{t:TT}{R:Bool->Hp->Prop}(h:t σ H fun c H1=>R (!c) H1):wj3 t σ H R:=h
theorem zn1{tb:TE}(h:ta σ H fun x H1=>∃ c,x=.bl c/\if c=true then tb σ H1 Q else Q (.bl false) H1):xp3 ta tb σ H Q:=h
theorem zz7{R:List V->Hp->Prop}(h:R [] H):B0 σ H R:=h
theorem zn2{tr:TA}{R:List V->Hp->Prop}(h:ta σ H fun x H1=>tr σ H1 fun xs H2=>R (x::xs) H2):A2 ta tr σ H R:=h
theorem zz8{t:TA}(h:t σ H fun xs H1=>xs.length<=sizeLine/\∀ p,H1 p=none->Q (.ref p) (upd H1 p (.tup xs))):M6 t σ H Q:=h
theorem zz9{t:TA}(h:t σ H fun xs H1=>xs.length<=sizeLine/\∀ p,H1 p=none->Q (.ref p) (upd H1 p (.lst xs))):Y8 t σ H Q:=h
theorem zn3{dvs:List V}{E:XK}{t:TA}(h:t σ H fun vs H1=>sp (vs++dvs) H1 Q E):C2 sp dvs E t σ H Q:=h
theorem Ah5{r:List V->Hp->VK->Prop}{t:TA}(h:t σ H fun vs H1=>r vs H1 Q):tCB r t σ H Q:=h
theorem Ah6{R:Bool->Hp->Prop}(h:R true H):tTT σ H R:=h
theorem zc8{tl:TE}(h:tl σ H fun x H1=>∃ a,x=.ref a/\(((∃ xs,SqL K H1 a xs)/\R (Itl K a) H1)\/((∃ xs,SqT K H1 a xs)/\R (Itt K a) H1))):qi1 K tl σ H R:=h
theorem zn4{ta:TA}(h:ta σ H fun vs H1=>∃ j:Int,vs=[.int j]/\-(2 ^ 62)<=j/\j<2 ^ 62/\R (Itr 0 j.toNat) H1):qh7 ta σ H R:=h
theorem zn5{ta:TA}(h:ta σ H fun vs H1=>∃ i j:Int,vs=[.int i,.int j]/\(-(2 ^ 62)<=i/\i<2 ^ 62/\-(2 ^ 62)<=j/\j<2 ^ 62)/\R (Itr i (j-i).toNat) H1):yz8 ta σ H R:=h
theorem Aa0{t:yz7}{R:St->Hp->Prop}(h:to σ H fun o H1=>ti σ H1 fun i H2=>t o i v H2 fun H3=>R σ H3):yu1 to ti t v σ H R:=h
theorem Ah7{r:V->List V->Hp->VK->Prop}{t:TA}(h:to σ H fun x H1=>tyV K T x H1/\t σ H1 fun xs H2=>r x xs H2 Q):tBM K T r to t σ H Q:=h
theorem zc9{r r':R2}{tb:TE}(h:ta σ H fun x H1=>tb σ H1 fun y H2=>r x y H2 fun z H3=>∃ k,z=.bl k/\(if k=true then tc σ H3 fun w' H4=>r' y w' H4 Q else Q (.bl false) H3)):wv9 r r' ta tb tc σ H Q:=h
end
variable{z:Str}
section
variable{Q:VK}
theorem qq9(h:Q (.int (i+j)) H):Y5 K (.int i) (.int j) H Q:=.inl ⟨i,j,rfl,rfl,h⟩
theorem zd0{i j:Str}(hz:i.length+j.length<=sizeLine)(h:Q (.str (i++j)) H):Y5 K (.str i) (.str j) H Q:=.inr (.inl ⟨i,j,rfl,rfl,hz,h⟩)
theorem zd1(h1:H a=some (.lst xs))(h2:H b=some (.lst ys))(hz:xs.length+ys.length<=sizeLine)(h:∀ p,H p=none->Q (.ref p) (upd H p (.lst (xs++ys)))):Y5 K (.ref a) (.ref b) H Q:=.inr (.inr (.inl ⟨a,b,xs,ys,rfl,rfl,h1,h2,hz,h⟩))
theorem Aa1(h:Q (.int (i-j)) H):rI0 (fun i j=>.int (i-j)) (.int i) (.int j) H Q:=⟨i,j,rfl,rfl,h⟩
theorem wx2(c:yz9 i j)(h:Q (.int (i*j)) H):qp2 (.int i) (.int j) H Q:=.inl ⟨i,j,rfl,rfl,c,h⟩
theorem yj3{n:Int}(h0:0<=n)(h1:n<=1000)(h2:z.length<=1000)(h:Q (.str (PySem.Txt.mul z n)) H):qp2 (.str z) (.int n) H Q:=.inr (.inl ⟨z,n,rfl,rfl,h0,h1,h2,h⟩)
theorem Aa2(c:xs6 i j)(h:Q (.int (i / j)) H):rI xs6 (fun i j=>.int (i / j)) (.int i) (.int j) H Q:=⟨i,j,rfl,rfl,c,h⟩
theorem Ah8(c:0<j)(h:Q (.int (i % j)) H):rI (fun _ j=>0<j) (fun i j=>.int (i % j)) (.int i) (.int j) H Q:=⟨i,j,rfl,rfl,c,h⟩
theorem Ah9(h:Q (.bl (decide (i<j))) H):yj1 (.int i) (.int j) H Q:=.inl ⟨i,j,rfl,rfl,h⟩
theorem Ai0(h:Q (.bl (decide (i<=j))) H):zc2 (.int i) (.int j) H Q:=.inl ⟨i,j,rfl,rfl,h⟩
theorem Ai1(h:Q (.bl (decide (j<i))) H):ww8 (.int i) (.int j) H Q:=.inl ⟨i,j,rfl,rfl,h⟩
theorem Ai2(h:Q (.bl (decide (j<=i))) H):zm8 (.int i) (.int j) H Q:=.inl ⟨i,j,rfl,rfl,h⟩
theorem yw5{x:V}(c:zl2 x y=true)(h:Q (.bl (decide (x=y))) H):Q7 K x y H Q:=.inl ⟨c,h⟩
theorem Aa3{x:V}(c:zl2 x y=true)(h:Q (.bl (!decide (x=y))) H):W5 K x y H Q:=.inl ⟨c,h⟩
theorem wx3{x:V}{d e:PyData}(h1:Dv K H d x)(h2:Dv K H e y)(hz:min d.depth e.depth<=190)(h:Q (.bl (PyData.eqv d e)) H):Q7 K x y H Q:=.inr ⟨d,e,h1,h2,hz,h⟩
theorem Ai3{x:V}{d e:PyData}(h1:Dv K H d x)(h2:Dv K H e y)(hz:d.depth<=64)(h:Q (.bl (!PyData.eqv d e)) H):W5 K x y H Q:=.inr ⟨d,e,h1,h2,by omega,h⟩
theorem wx4{x:V}{d e:PyData}(h1:Dv K H d x)(h2:Dv K H e y)(hz:min d.depth e.depth<=190)(h:Q (.bl (!PyData.eqv d e)) H):W5 K x y H Q:=.inr ⟨d,e,h1,h2,hz,h⟩
theorem Am2{x:V}(h:Q (.bl (decide (x=.non))) H):xt6 x .non H Q:=⟨rfl,h⟩
theorem zn6{x:V}(h:Q (.bl (!decide (x=.non))) H):qm0 x .non H Q:=⟨rfl,h⟩
theorem S5(h1:SqL K H p xs)(e:atI xs i=some v)(h:Q v H):rIx K (.ref p) (.int i) H Q:=.inl ⟨p,xs,i,v,rfl,rfl,h1,e,h⟩
theorem G7(h1:SqT K H p xs)(e:atI xs i=some v)(h:Q v H):rIx K (.ref p) (.int i) H Q:=.inr (.inl ⟨p,xs,i,v,rfl,rfl,h1,e,h⟩)
theorem zd2{c:Nat}(hz:z.length<=sizeLine)(e:atI z.cps.toList i=some c)(h:Q (.str ⟨#[c]⟩) H):rIx K (.str z) (.int i) H Q:=.inr (.inr ⟨z,i,c,rfl,rfl,hz,e,h⟩)
theorem yj4{x:V}(h1:SqL K H p xs\/SqT K H p xs)(fx:ql8 x=true)(fs:xs.all ql8=true)(h:Q (.bl (inV x xs)) H):zc4 K false x (.ref p) H Q:=.inl ⟨p,xs,rfl,h1,fx,fs,h⟩
theorem yp9{x:V}(h1:SqL K H p xs\/SqT K H p xs)(fx:ql8 x=true)(fs:xs.all ql8=true)(h:Q (.bl (!inV x xs)) H):zc4 K true x (.ref p) H Q:=.inl ⟨p,xs,rfl,h1,fx,fs,h⟩
theorem O1(h1:SqL K H p xs\/SqT K H p xs)(h:Q (.int xs.length) H):P6 K [.ref p] H Q:=.inl ⟨p,xs,rfl,h1,h⟩
theorem Aa4(hz:z.length<=sizeLine)(h:Q (.int z.length) H):P6 K [.str z] H Q:=.inr (.inl ⟨z,rfl,hz,h⟩)
theorem zd3{k:Int}{j:Nat}{R:Hp->Prop}(h1:H p=some (.lst xs))(e:ixN xs.length k=some j)(h:R (upd H p (.lst (xs.set j v)))):za2 (.ref p) (.int k) v H R:=⟨p,xs,k,j,rfl,rfl,h1,e,h⟩
theorem W6(h1:H p=some (.lst xs))(hz:xs.length<sizeLine)(h:Q .non (upd H p (.lst (xs++[y])))):X6 (.ref p) [y] H Q:=⟨p,xs,y,rfl,rfl,h1,hz,h⟩
theorem zd4(h1:H p=some (.lst xs))(h0:0<=i)(hi:i<=xs.length)(hz:xs.length<sizeLine)(h:Q .non (upd H p (.lst (Y6 xs i.toNat y)))):xt9 (.ref p) [.int i,y] H Q:=⟨p,xs,i,y,rfl,rfl,h1,h0,hi,hz,h⟩
end
def Itv(n:Nat):It:=⟨fun i _=>i<n,fun i H x H'=>H'=H/\x=.int ((n:Int)-1-i),fun i _=>n<=i⟩
theorem zd5(it:Addr)(n:Nat):xz9 P w K tg (Itv n) [it] it (fun i h=>IsRangeIter h it ((n:Int)-1+(i:Nat)*(-1)) ((n:Int)-(i:Nat)) (-1)) where
 mem:=by simp
 obj:=fun i h st b hb=>by
  have e:b=it:=by simpa using hb
  subst e
  exact⟨_,st,fun v z=>by
   have z':Data.fields _=Data.cell v:=z
   cases z'⟩
 keep:=fun i h h' st k=>k it (by simp) _ st
 item:=by
  intro X hP hw hK hc i pins s σ H E I hf st hg
  subst hP hw hK
  obtain⟨f0,f1,f2,f3,f4,f5⟩:=hf it (by simp)
  have W:=Walks.range (prog:=X.prog) (w:=X.w) (I.ok.hd hc) it ((n:Int)-1) (-1) n
  refine wpAny_with_toks (n:=1) I.tk (W.item i s _ _ hg st fun v h' tk hv st' kk ht=>?_)
  have ht:0<tk:=ht
  obtain⟨t,rfl⟩:=hv
  have I1:Inv X pins σ H {s with heap:=h',toks:=tk}:=I.turned (fun b o hb e=>kk b o (by simpa using hb) e) f0 f1 f3 f4 f5
  refine⟨_,rfl,ya0 (s:={s with heap:=h',toks:=tk}) (n := "range_iterator") st' rfl rfl (by decide) ⟨.int ((n:Int)-1-i),H,I1,⟨t,?_⟩,⟨rfl,rfl⟩,st',fun b hb=>(hf b hb).1⟩⟩
  have e:(n:Int)-1+(i:Int)*(-1)=(n:Int)-1-i:=by omega
  rw[e]
 done:=by
  intro X hP hw hK hc i pins s σ H E I hf st hg
  subst hP hw hK
  obtain⟨f0,f1,f2,f3,f4,f5⟩:=hf it (by simp)
  exact wpAny_pyNext_range_end (I.ok.hd hc) st (by have:n<=i:=hg;omega) fun h' eb=>⟨rfl,I.turned (t':=s.toks) (fun b o hb e=>eb b o hb e) f0 f1 f3 f4 f5⟩
 self:=fun _ _ _ _ _ st h=>wpAny_pyIter_rangeiter st h
theorem zn7(hn:(n:Int)<2 ^ 62)(Pv:Nat->St->Hp->Prop)(p0:Pv 0 σ H)(hs:∀ (i:Nat) σ H,i<n->Pv i σ H->g (.int ((n:Int)-1-i)) σ H fun σ2 H2=>tb {D with nx:=PAt Pv (i+1),ct:=PAt Pv (i+1),bk:=D.nx} σ2 H2)(hd:∀ σ H,Pv n σ H->D.nx σ H) :
 ∃ m:Nat,[V.int n]=[.int m]/\(m:Int)<2 ^ 62/\wx1 g tb D σ (Itv m) H:=by
 refine⟨n,rfl,hn,fun i m σ H=>m=n-i/\i<=n/\Pv i σ H,⟨n,by simp,Nat.zero_le _,p0⟩,?_⟩
 rintro i m σ H ⟨rfl,hi,p⟩
 by_cases hlt:i<n
 ·refine .inr ⟨hlt,Pv (i+1),fun σ' H' p'=>⟨n-(i+1),by omega,rfl,hlt,p'⟩,fun x H' y=>?_⟩
  obtain⟨e,y⟩:=y
  subst e y
  exact hs i σ _ hlt p
 ·have e:i=n:=by omega
  subst e
  exact .inl ⟨Nat.le_refl _,hd σ H p⟩
def xq5:yz7:=fun o i v H Q=>za2 o i v H Q\/∃ a H',o=.ref a/\ya7 H a i v H'/\Q H'
theorem wf8(hu:X.A.units+1<cLine):zw4 X xq5:=by
 intro pins s σ H o i v ov iv u Q I ro ri rv h
 rcases h with h|⟨a,H',rfl,g,q⟩
 ·exact za3 pins s σ H o i v ov iv u Q I ro ri rv h
 ·cases ro
  exact yv7 hu I g ri rv fun s' I'=>⟨H',I',q⟩
def I9(K:Fg):R2:=rIx K
theorem B1(hu:X.A.units+1<cLine):IxR X (I9 X.K):=zx7
def Am3(neg:Bool):R2:=fun x y H Q=>∃ a o,y=.ref a/\wa8 H a x o/\Q (.bl (if neg then !o.isSome else o.isSome)) H
def wd5(K:Fg)(neg:Bool):R2:=fun x y H Q=>zc4 K neg x y H Q\/Am3 neg x y H Q
theorem qr0(hu:X.A.units+1<cLine):OpR X (compareOp .In) (wd5 X.K false):=by
 refine zz1.or ?_
 intro pins s σ H x y v u Q I rx ry h
 obtain⟨a,o,rfl,g,q⟩:=h
 cases ry
 exact Al8 hu I g rx fun s' I'=>⟨.bl o.isSome,H,I',rfl,q⟩
theorem wk1(hu:X.A.units+1<cLine):OpR X (compareOp .NotIn) (wd5 X.K true):=by
 refine yw2.or ?_
 intro pins s σ H x y v u Q I rx ry h
 obtain⟨a,o,rfl,g,q⟩:=h
 cases ry
 exact zm4 hu I g rx fun s' I'=>⟨.bl (!o.isSome),H,I',rfl,q⟩
theorem m1(base:autoParam (attributeBase o m X.env (eval o X.env)=eval o X.env) zAr) (few:((backTo cpos (starEach [e] X.env)).all (fun x=>!x.1) && (backToKw cpos (keywordEach [] X.env)).all (fun x=>x.1.isSome)
 && decide (([e]:List Expr).length+([]:List Keyword).length+(if([]:List Keyword).isEmpty then 0 else 1)<30))=true:=by rfl) (line:autoParam ((apos.endLine == cpos.line)=true) zAr) (trees:autoParam (backTo cpos (starEach [e] X.env)=[(false,eval e X.env)]) zAr):M1 X o m apos e cpos:=⟨base,few,line,trees⟩
def wa9(K:Fg):List V->Hp->VK->Prop:=fun xs H Q=>(∃ (x:V) (T:String) (t:Value) (b:Bool),xs=[x,.ty T]/\wf0 K H x t/\PySem.W.kitOne K t (.type T)=some b/\Q (.bl b) H) \/
 ∃ (a:Addr) (ys:List V) (T:String) (b:Bool),xs=[.ref a,.ty T]/\SqT K H a ys/\PySem.W.kitOne K (.type "tuple") (.type T)=some b/\Q (.bl b) H
theorem I0:V3 X (.builtin "isinstance") (wa9 X.K):=by
 intro pins s σ H xs us Q I r h
 rcases h with⟨x,T,t,b,rfl,ty,e,q⟩|⟨a,ys,T,b,rfl,hq,e,q⟩
 ·obtain⟨u,w',rfl,r1,r2⟩:=xp4 r
  cases r2
  exact wpAny_with_toks (n:=1) I.tk (yv2 I r1 ty e fun tk ht=>⟨.bl b,H,I.tok _ ht,rfl,q⟩)
 ·obtain⟨u,w',rfl,r1,r2⟩:=xp4 r
  cases r2
  cases r1
  obtain⟨its,rv,pl,hz⟩:=I.tuple hq
  obtain⟨o,h1,h2,_⟩:=pl
  exact wpAny_with_toks (n:=1) I.tk (PySem.W.kia_one PySem.W.kitx_tuple I.kIn ⟨o,h1,h2⟩ e (fun z=>nomatch z) fun tk ht=>⟨.bl b,H,I.tok _ ht,rfl,q⟩)
theorem yb1{Q:VK}{x:V}{t:Value}{b:Bool}(ty:wf0 K H x t)(e:PySem.W.kitOne K t (.type T)=some b)(h:Q (.bl b) H):wa9 K [x,.ty T] H Q:=.inl ⟨x,T,t,b,rfl,ty,e,h⟩
theorem wx5{Q:VK}{b:Bool}(hq:SqT K H a ys)(e:PySem.W.kitOne K (.type "tuple") (.type T)=some b)(h:Q (.bl b) H):wa9 K [.ref a,.ty T] H Q:=.inr ⟨a,ys,T,b,rfl,hq,e,h⟩
example (K:Fg):PySem.W.kitOne K (.type "str") (.type "str")=some true:=by rfl
example (K:Fg):PySem.W.kitOne K (.type "bool") (.type "int")=some true:=by rfl
example (K:Fg):PySem.W.kitOne K (.type "int") (.type "bool")=some false:=by rfl
example (K:Fg):PySem.W.kitOne K (.type "list") (.type "list")=some true:=by rfl
section
variable{σ:List (Option V)}
theorem Inv.turnLaid{o:HO}{ch:List Addr}(I:Inv X pins σ H s)(hf:∀ b∈ch,xh5 X pins H b)(k:∀ b u,b∉ch->s.heap.get? b=some u->h'.get? b=some u)(hp:s.heap.objs.size<=a)(new:O8 X.prog X.w (upd H a o) h' a o)(ht:0<t') :
 Inv X pins σ (upd H a o) {s with heap:=h',toks:=t'}:=by
 have hn:H a=none:=I.hok.fresh hp
 have nit:∀ b u,H b=some u->b∉ch:=fun b u e z=>by rw[(hf b z).1] at e;cases e
 have up:∀ {b:Addr} {u:HO},H b=some u->upd H a o b=some u:=fun{b u} e=>by rw[C6 (T6 e hn)];exact e
 have neA:∀ b u,s.heap.get? b=some u->b≠a:=fun b u e=>Nat.ne_of_lt (Nat.lt_of_lt_of_le (Heap.lt_size e) hp)
 refine I.step (g':=s.gens) (d':=s.drawn) (ch:=ch) (fun b hb=>?_) (fun b u _ _ hc e _=>k b u hc e) (fun b u _ _ hc e _=>⟨u.slots,k b u hc e⟩) (fun b u _ e n=>by rw[C6 (neA b u e)];exact n)
  (fun b u hc e=>⟨u,k b u hc e⟩) (fun _ _ e=>up e) (fun _ _ _ e=>up e) (fun b ps e=>⟨#[],by rw[up e];simp⟩) (fun m hm=>?_) (fun b u e=>?_) I.bare ht
 ·obtain⟨f0,f1,f2,f3,f4,f5⟩:=hf b hb
  exact⟨f3,f1,f4,f5⟩
 ·obtain⟨ob,es,ep,ho,r⟩:=hm
  exact⟨ob,es,ep,k _ ob (fun z=>(hf _ z).2.1 rfl) ho,r⟩
 ·by_cases hb:b=a
  ·subst hb;rw[A7] at e;cases e;exact new
  ·rw[C6 hb] at e
   refine(I.hok b u e).stay (fun c v hc q=>k c v ?_ q) (fun _ q=>up q) fun _ _ q=>up q
   rcases hc with z|z
   ·rw[z];exact nit b u e
   ·exact nit c _ z
end
section
variable{σ:List (Option V)}
theorem Inv.turnedL{ch:List Addr}(I:Inv X pins σ H s)(hf:∀ b∈ch,xh5 X pins H b)(k:∀ b u,b∉ch->s.heap.get? b=some u->h'.get? b=some u)(ht:0<t') :
 Inv X pins σ H {s with heap:=h',toks:=t'}:=by
 have nit:∀ b u,H b=some u->b∉ch:=fun b u e z=>by rw[(hf b z).1] at e;cases e
 refine I.step (g':=s.gens) (d':=s.drawn) (ch:=ch) (fun b hb=>?_) (fun b u _ _ hc e _=>k b u hc e) (fun b u _ _ hc e _=>⟨u.slots,k b u hc e⟩) (fun _ _ _ _ n=>n)
  (fun b u hc e=>⟨u,k b u hc e⟩) (fun _ _ e=>e) (fun _ _ _ e=>e) (fun b ps e=>⟨#[],by rw[e];simp⟩) (fun m hm=>?_) (fun b u e=>?_) I.bare ht
 ·obtain⟨f0,f1,f2,f3,f4,f5⟩:=hf b hb
  exact⟨f3,f1,f4,f5⟩
 ·obtain⟨ob,es,ep,ho,r⟩:=hm
  exact⟨ob,es,ep,k _ ob (fun z=>(hf _ z).2.1 rfl) ho,r⟩
 ·refine(I.hok b u e).stay (fun c v hc q=>k c v ?_ q) (fun _ q=>q) fun _ _ q=>q
  rcases hc with z|z
  ·rw[z];exact nit b u e
  ·exact nit c _ z
end
def yj5(x:Str)(lo hi:Option Int):Str:=⟨((x.cps.toList.drop (HT.sIx x.cps.toList.length 0 lo)).take (HT.sIx x.cps.toList.length x.cps.toList.length hi-HT.sIx x.cps.toList.length 0 lo)).toArray⟩
def Ai4:V->Option Int->Option Int->Hp->VK->Prop:=fun x lo hi H Q=>∃ z,x=.str z/\z.length<=sizeLine/\Q (.str (yj5 z lo hi)) H
theorem yw6(x:Str)(lo hi:Option Int):(⟨((Builtin.Str.strSliceIndices lo hi 1 x.length).filterMap (x.cps[·]?)).toArray⟩:Str)=yj5 x lo hi:=by
 obtain⟨h1,h2,h3⟩:=qq6 lo hi x.length
 have e:Builtin.Str.strSliceIndices lo hi 1 x.length=sliceRange (sliceBounds lo hi none x.length).1 (sliceBounds lo hi none x.length).2.1 (sliceBounds lo hi none x.length).2.2:=rfl
 rw[e,h1,h2,h3]
 unfold yj5
 rw[sliceRange_one,pick_run]
 rfl
theorem yi3(n d:Nat)(o:Option Int)(h:d<=n):HT.sIx n d o<=n:=by
 cases o with
 | none=>exact h
 | some v =>
   show(if v<0 then(v+(n:Int)).toNat else min v.toNat n)<=n
   split <;> omega
theorem Aa5:SlR X Ai4:=by
 intro pins s σ H x v vl vu lo hi sl Q I rx hs pl pu h
 obtain⟨z,rfl,hz,q⟩:=h
 obtain⟨t,rfl⟩:=rx
 refine⟨"str",_,PySem.F.slot_str_getitem.lookup,typeIs_str _ _ _,?_⟩
 have part:∀ {v:Value} {k:Option Int},IsPart v k->∃ l:Option (Int×Tok),v=partValue l/\l.map (·.1)=k:=fun{v k} h=>by
  cases h with
  | none=>exact⟨none,rfl,rfl⟩
  | int i t=>exact⟨some (i,t),rfl,rfl⟩
 obtain⟨l,rfl,el⟩:=part pl
 obtain⟨u,rfl,eu⟩:=part pu
 refine wpAny_getItem_str_slice (l:=l) (u:=u) (st:=none) hs rfl ?_
 have ep:slicePicked z l u none=Builtin.Str.strSliceIndices lo hi 1 z.length:=by unfold slicePicked;rw[el,eu];rfl
 have ec:=yw6 z lo hi
 unfold sliceMade
 rw[ep]
 split
 ·rename_i hc
  have hlen:(Builtin.Str.strSliceIndices lo hi 1 z.length).length=z.length:=by simpa using hc
  have:yj5 z lo hi=z:=by
   obtain⟨h1,h2,h3⟩:=qq6 lo hi z.length
   have e:Builtin.Str.strSliceIndices lo hi 1 z.length=sliceRange (sliceBounds lo hi none z.length).1 (sliceBounds lo hi none z.length).2.1 (sliceBounds lo hi none z.length).2.2:=rfl
   rw[e,h1,h2,h3,sliceRange_one,List.length_map,List.length_range] at hlen
   have hb:=yi3 z.length z.length hi (Nat.le_refl _)
   have el:z.cps.toList.length=z.length:=Array.length_toList
   obtain⟨⟨l⟩⟩:=z
   unfold yj5
   rw[el,hlen]
   by_cases h0:HT.sIx (Str.length ⟨⟨l⟩⟩) 0 lo=0
   ·rw[h0,List.drop_zero,List.take_of_length_le (Nat.le_of_eq el)]
   ·have:Str.length ⟨⟨l⟩⟩=0:=by omega
    rw[this,List.take_zero]
    have:l=[]:=List.eq_nil_of_length_eq_zero (by rw[<-this];exact el.symm▸rfl)
    rw[this]
  rw[this] at q
  exact⟨.str z,H,I,⟨_,rfl⟩,q⟩
 ·rw[ec]
  refine⟨?_,.str _,H,I.tok _,⟨_,rfl⟩,q⟩
  have:(yj5 z lo hi).length<=z.length:=by
   unfold yj5 Str.length
   simp only[List.size_toArray,List.length_take,List.length_drop,Array.length_toList]
   omega
  omega
def zd6(K:Fg):V->Option Int->Option Int->Hp->VK->Prop:=fun x lo hi H Q=>Ai4 x lo hi H Q\/Af8 K x lo hi H Q\/Ag2 K x lo hi H Q
theorem yj6:SlR X (zd6 X.K):=Aa5.or (zx4.or zm1)
variable{hi lo:Option Int}
section
variable{Q:VK}
theorem zu1(hx:SqL K H a xs)(h:∀ p,H p=none->Q (.ref p) (upd H p (.lst (qg7 xs lo hi)))):zd6 K (.ref a) lo hi H Q:=.inr (.inr ⟨a,xs,rfl,hx,h⟩)
theorem Ai5{tl:TO}(h:te σ H fun x H1=>tl σ H1 fun l H2=>th σ H2 fun u H3=>r x l u H3 Q):tSl r te tl th σ H Q:=h
theorem zn8{t:TE}{R:Option Int->Hp->Prop}(h:t σ H fun x H1=>∃ i,x=.int i/\R (some i) H1):Z1 t σ H R:=h
theorem yw7{R:Option Int->Hp->Prop}(h:R none H):Q1 σ H R:=h
theorem Aa6{R:Int->Prop}(h:R i):∃ j,V.int i=.int j/\R j:=⟨i,rfl,h⟩
theorem yq0{y:Str}(h:Q (.bl (decide (x=y))) H):Q7 K (.str x) (.str y) H Q:=by
 refine yw5 rfl ?_
 have e:(decide ((V.str x)=V.str y))=decide (x=y):=by simp
 rw[e];exact h
theorem yb2{y:Str}(h:Q (.bl (!decide (x=y))) H):W5 K (.str x) (.str y) H Q:=by
 refine Aa3 rfl ?_
 have e:(decide ((V.str x)=V.str y))=decide (x=y):=by simp
 rw[e];exact h
theorem zu2{x y:Int}(h:Q (.bl (decide (x=y))) H):Q7 K (.int x) (.int y) H Q:=by
 refine yw5 rfl ?_
 have e:(decide ((V.int x)=V.int y))=decide (x=y):=by simp
 rw[e];exact h
theorem Ai6{x y:Int}(h:Q (.bl (!decide (x=y))) H):W5 K (.int x) (.int y) H Q:=by
 refine Aa3 rfl ?_
 have e:(decide ((V.int x)=V.int y))=decide (x=y):=by simp
 rw[e];exact h
end
def yb3(xs:List Str):TA:=fun _ H R=>R (D4 xs) H
theorem Ai7:PA X [] (yb3 []):=A3
theorem wp4{xs:List Str}{j:Nat}{p:Pos}(h:PA X es (yb3 xs)):PA X (.Constant (.str x) j p::es) (yb3 (x::xs)):=A0 (te:=tC (.str x)) E3 h
theorem zn9{xs:List Str}{R:List V->Hp->Prop}(h:R (D4 xs) H):yb3 xs σ H R:=h
section
open PySem.Builtin PySem.Builtin.Str
theorem zd7:∀ {bs:List Bool} {us:List Value},J9 (bs.map V.bl) us->us=bs.map Value.bool
 | [],_,h=>by cases h;rfl
 | b::bs,_,h=>by
   have h:J9 (V.bl b::bs.map V.bl) _:=h
   cases h with
   | cons r t=>rw[zd7 t];cases (show _=Value.bool b from r);rfl
theorem yw8(bs:List Bool):(List.range bs.length).any (fun i=>(bs[i]?).getD false)=bs.any id:=by
 rw[Bool.eq_iff_iff,List.any_eq_true,List.any_eq_true]
 constructor
 ·rintro⟨i,hi,h⟩
  have hi:=List.mem_range.mp hi
  rw[List.getElem?_eq_getElem hi] at h
  exact⟨_,List.getElem_mem hi,h⟩
 ·rintro⟨b,hb,h⟩
  obtain⟨i,hi,e⟩:=List.getElem_of_mem hb
  exact⟨i,List.mem_range.mpr hi,by rw[List.getElem?_eq_getElem hi,e];exact h⟩
def zd8(K:Fg):List V->Hp->VK->Prop:=fun xs H Q=>∃ (p:Addr) (bs:List Bool),xs=[.ref p]/\SqL K H p (bs.map V.bl)/\Q (.bl (bs.any id)) H
theorem yw9(hc:X.calm=true):V3 X (.builtin "any") (zd8 X.K):=by
 intro pins s σ H xs us Q I r h
 obtain⟨p,bs,rfl,hq,q⟩:=h
 obtain⟨u,rfl,ru⟩:=qp0 r
 cases ru
 obtain⟨its,rv,pl,hz⟩:=I.list hq
 have ei:=zd7 rv
 subst ei
 refine wpAny_with_toks (n:=1) I.tk (call_any_walk (wpAny_pyIter_list pl.isList ?_))
 have ne:p≠s.heap.objs.size:=Nat.ne_of_lt (by obtain⟨o,e,_⟩:=pl.isList;exact Heap.lt_size e)
 refine⟨_,_,_,_,_,_,fun i=>(bs[i]?).getD false,rfl,Walks.list (show X.A.in1.handled=none from I.ok.hd hc) s.heap.objs.size p ne _,⟨⟨_,Heap.get?_push_size _ rfl,rfl,rfl⟩,pl.isList.at fun o e=>Heap.get?_push_of_some _ e⟩,?_,fun h' tk hk ht=>?_⟩
 ·intro i v s Q E hP hQ
  have hP:(bs.map Value.bool)[i]?=some v:=by simpa using hP
  rw[List.getElem?_map] at hP
  obtain⟨b,hb,rfl⟩:=Option.map_eq_some_iff.mp hP
  have hQ:Q ((bs[i]?).getD false) s:=hQ
  rw[hb] at hQ
  exact wpAny_pure hQ
 ·refine⟨.bl (bs.any id),H,I.kept (fun b o e=>hk b o ?_ (Heap.get?_push_of_some _ e)) ht,?_,q⟩
  ·intro z
   have:b=s.heap.objs.size:=by simpa using z
   exact absurd (Heap.lt_size e) (by rw[this];exact Nat.lt_irrefl _)
  ·show Value.bool _=Value.bool _
   rw[<-yw8 bs]
   congr 2
   simp
section
variable{Q:VK}
theorem Ai8{bs:List Bool}(h:SqL K H p (bs.map V.bl))(q:Q (.bl (bs.any id)) H):zd8 K [.ref p] H Q:=⟨p,bs,rfl,h,q⟩
end
end
theorem yx0(n:Nat):((List.range n).map fun(k:Nat)=>((n:Int)-1 + -1*(k:Int)).toNat)=(List.range n).reverse:=by
 apply List.ext_getElem
 ·simp
 ·intro i h1 h2
  simp only[List.getElem_map,List.getElem_range,List.getElem_reverse,List.length_range]
  simp only[List.length_map,List.length_range] at h1
  omega
theorem yj7(xs:List α):(List.range xs.length).filterMap (xs[·]?)=xs:=by
 induction xs with
 | nil=>rfl
 | cons x xs ih =>
   rw[List.length_cons,List.range_succ_eq_map,List.filterMap_cons,List.filterMap_map]
   show x::_=_
   congr 1
theorem xh8(items:List Value):slicePick items.toArray none none (some (-1))=items.reverse.toArray:=by
 unfold slicePick sliceBounds sliceRange
 simp only[Option.getD_some,List.size_toArray]
 have h:¬((-1:Int) > 0):=by decide
 simp only[if_neg h]
 have ec:(if(items.length:Int)-1 > -1 then((items.length:Int)-1 - -1 - -1-1) / (- -1) else 0).toNat=items.length:=by
  by_cases h0:(items.length:Int)-1 > -1
  ·rw[if_pos h0]
   have:(- -1:Int)=1:=by decide
   rw[this,Int.ediv_one];omega
  ·rw[if_neg h0];omega
 rw[ec,yx0,List.filterMap_reverse]
 congr 2
 have:(fun(x:Nat)=>(items.toArray)[x]?)=fun(x:Nat)=>items[x]?:=by funext x;simp
 rw[this,yj7]
def zd9(K:Fg)(te:TE):TE:=fun σ H Q=>te σ H fun x H1=>∃ a xs,x=.ref a/\SqL K H1 a xs/\∀ p,H1 p=none->Q (.ref p) (upd H1 p (.lst xs.reverse))
theorem zo0{k:Expr}(he:PE X e te)(hk:PE X k (tUn (rU fun i=>.int (-i)) (tC (.int 1)))):PE X (.Subscript e (.Slice none none (some k) p2) pos) (zd9 X.K te):=by
 intro pins s σ H Q I h
 refine Subscript_ (thn (he pins s σ H _ I h) fun v s1 zq=>?_)
 obtain⟨x,H1,I1,r1,q1⟩:=zq
 obtain⟨a,xs,rfl,hx,q⟩:=q1
 refine wpAny_Slice ?_
 rw[evalPart_none]
 refine wpAny_pure (wpAny_pure ?_)
 rw[evalPart_some]
 refine thn (hk pins s1 σ H1 (fun y H2=>y=.int (-1)/\H2=H1) I1 ⟨1,rfl,rfl,rfl⟩) fun vk s2 zq=>?_
 obtain⟨y,H2,I2,r2,ey,eH⟩:=zq
 subst ey
 subst eH
 obtain⟨tk,rfl⟩:=r2
 have I4:Inv X pins σ H2 {s2 with heap:=s2.heap.push {cls:=.type "slice",data:=.fields #[.none,.none,.int (-1) tk]}}:=I2.kept (t':=s2.toks) fun b ob q=>Heap.get?_push_of_some _ q
 cases r1
 obtain⟨its,r,ht,hz⟩:=I4.list hx
 have hlen:=r.length
 refine tail_any (ops:=[.ref a,.ref s2.heap.objs.size]) ht.isList.typeIs slot_list_getitem.lookup ?_ (by with_unfolding_all rfl)
 refine wpAny_getItem_list_slice ht.isList (Heap.IsSliceOf.new ..) .none .none (.int (-1) tk) (by simp) ?_ (by rw[List.size_toArray] <;> omega)
 rw[xh8]
 refine⟨.ref _,_,I4.laid (t':=s2.toks) (o:=.lst xs.reverse) (fun b ob q=>Heap.get?_push_of_some _ q) (Nat.le_refl _) ?_,rfl,q _ (I4.hok.fresh (Nat.le_refl _))⟩
 exact⟨by rw[List.length_reverse];exact hz,_,0,J9.reverse r,Heap.get?_push_size _ rfl⟩
def ze0(_:Fg):List V->Hp->VK->Prop:=fun xs H Q=>∃ i j,xs=[.int i,.int j]/\Q (.int (if j > i then j else i)) H
theorem yx1(hc:X.calm=true):V3 X (.builtin "max") (ze0 X.K):=yu8 hc
section
variable{Q:VK}
theorem zo1(h:te σ H fun x H1=>∃ a xs,x=.ref a/\SqL K H1 a xs/\∀ p,H1 p=none->Q (.ref p) (upd H1 p (.lst xs.reverse))):zd9 K te σ H Q:=h
theorem Aa7{r:V->List V->Hp->VK->Prop}(h:to σ H fun x H1=>tyV K T x H1/\r x [] H1 Q):zm2 K T r to σ H Q:=h
theorem zu3(h1:H p=some (.lst (xs++[y])))(h:Q y (upd H p (.lst xs))):zm3 (.ref p) [] H Q :=
 ⟨p,xs++[y],y,rfl,rfl,h1,by simp,by rw[List.dropLast_concat];exact h⟩
theorem Ai9(h:Q (.int (if j > i then j else i)) H):ze0 K [.int i,.int j] H Q:=⟨i,j,rfl,h⟩
end
variable{items:Array Value}
theorem wb0{t sl:Addr}{vl vu:Value}(ht:IsTup s.heap t items)(hs:s.heap.IsSliceOf sl vl vu .none)(pl:IsPart vl lo)(pu:IsPart vu hi)(hw:HT.sIx items.size 0 lo=0/\HT.sIx items.size items.size hi=items.size)(h:Q (.ref t) s):wpAny (model prog w) A (getItem (.ref t) (.ref sl)) Q E s:=by
 obtain⟨os,hos,hcs,hds⟩:=id hs
 have hTs:s.TypeIs (.ref sl) "slice":=⟨os,hos,hcs⟩
 unfold getItem
 try with_reducible refine wpAny_holding ?_
 first|refine wpAny_bind (wpAny_pure ?_)|skip
 refine wpAny_bind (wpAny_sequenceKey ht.typeIs (by decide) ?_)
 refine wpAny_bind (wpAny_callSpecial?_slot (name:=Str.ofString "__getitem__") ht.typeIs PyProof.Rows.slot_tuple_getitem
  (wpAny_call_entry PyProof.Rows.slot_tuple_getitem ht.typeIs entry_tuple_getitem ?_ (args_tuple_getitem _ _)))
 show wpAny _ _ (Builtin.Tuple.tupleItemsOf (.ref t) >>= _) _ _ s
 refine wpAny_bind (tupleItemsOf_ ht ?_)
 refine wpAny_bind (wpAny_typeOf hTs ?_)
 rw[if_pos (by decide)]
 refine wpAny_bind (HT.qp1 hs pl pu ?_)
 have hyes:((((HT.sIx items.size 0 lo:Nat):Int) == 0 && (1:Int) == 1 && (HT.sIx items.size items.size hi-HT.sIx items.size 0 lo) == items.size)=true):=by
  rw[hw.1,hw.2];simp
 show wpAny _ _ (if(((HT.sIx items.size 0 lo:Nat):Int) == 0 && (1:Int) == 1 && (HT.sIx items.size items.size hi-HT.sIx items.size 0 lo) == items.size)=true then _ else _) _ _ s
 rw[if_pos hyes]
 refine wpAny_bind (m:=Builtin.Tuple.tupleIsExact (.ref t)) ?_
 unfold Builtin.Tuple.tupleIsExact
 refine wpAny_bind (wpAny_typeOf ht.typeIs (wpAny_pure ?_))
 rw[if_pos (by decide)]
 first
  | exact wpAny_bind (wpAny_rule (wpAny_bind (wpAny_pure ⟨_,rfl,wpAny_pure h⟩)))
  | exact wpAny_bind (wpAny_rule (wpAny_pure ⟨_,rfl,wpAny_pure h⟩))
  | exact wpAny_bind (wpAny_rule (wpAny_pure (wpAny_pure ⟨_,rfl,wpAny_pure h⟩)))
def Aj0(K:Fg):V->Option Int->Option Int->Hp->VK->Prop:=fun x lo hi H Q=>∃ a xs,x=.ref a/\SqT K H a xs/\(HT.sIx xs.length 0 lo=0/\HT.sIx xs.length xs.length hi=xs.length)/\Q (.ref a) H
theorem zo2:SlR X (Aj0 X.K):=by
 intro pins s σ H x v vl vu lo hi sl Q I rx hs pl pu h
 obtain⟨a,xs,rfl,hx,hw,q⟩:=h
 cases rx
 obtain⟨its,r,ht,hz⟩:=I.tuple hx
 have hlen:its.toArray.size=xs.length:=by rw[List.size_toArray];exact r.length.symm
 refine⟨"tuple",_,PyProof.Rows.slot_tuple_getitem.lookup,ht.typeIs,?_⟩
 exact wb0 ht hs pl pu (by rw[hlen];exact hw) ⟨.ref a,H,I,rfl,q⟩
def qr1(K:Fg):V->Option Int->Option Int->Hp->VK->Prop:=fun x lo hi H Q=>zd6 K x lo hi H Q\/Aj0 K x lo hi H Q
theorem Q4:SlR X (qr1 X.K):=yj6.or zo2
def zu4(K:Fg):R2:=fun x y H Q=>∃ a b ys,x=.ref a/\y=.ref b/\SqT K H a []/\SqT K H b ys/\Q (.ref b) H
theorem zo3:OpR X (binaryOp .Add) (zu4 X.K):=by
 intro pins s σ H x y v u Q I rx ry h
 obtain⟨a,b,ys,rfl,rfl,ha,hb,q⟩:=h
 cases rx
 cases ry
 obtain⟨its,r1,p1,_⟩:=I.tuple ha
 obtain⟨its2,r2,p2,_⟩:=I.tuple hb
 cases r1
 obtain⟨⟨cls,dd,data,sl⟩,ho,hc,n,hd⟩:=id p1
 obtain⟨⟨cls2,dd2,data2,sl2⟩,ho2,hc2,n2,hd2⟩:=id p2
 simp only at hc hd hc2 hd2
 subst hc hd hc2 hd2
 exact concat_meets ⟨_,ho,rfl⟩ ⟨_,ho2,rfl⟩ noFill_tuple_add seq_tuple_add PySem.F.slot_tuple_add PySem.F.entry_tuple_add (PySem.F.args_tuple_add_2 _ _)
  (tuple_addW0 a b _ its2.toArray n n2 dd dd2 sl sl2 (by simp)) ⟨ho,ho2,⟨.ref b,H,I,rfl,q⟩⟩
def R1(K:Fg):R2:=fun x y H Q=>Y5 K x y H Q\/zu4 K x y H Q
theorem L9:OpR X (binaryOp .Add) (R1 X.K):=R5.or zo3
section
variable{Q:VK}
theorem qe1(h1:SqT K H a xs)(h2:SqT K H b ys)(hz:xs.length+ys.length<=sizeLine)(h:∀ p H',A6 H H'->SqT K H' p (xs++ys)->Q (.ref p) H'):R1 K (.ref a) (.ref b) H Q:=by
 by_cases hx:xs=[]
 ·subst hx
  exact .inr ⟨a,b,ys,rfl,rfl,h1,h2,h b H (fun _ _ e=>e) h2⟩
 ·refine .inl (.inr (.inr (.inr ⟨a,b,xs,ys,rfl,rfl,h1,h2,hx,hz,fun hy=>?_,fun hy p hp=>h p _ (A6.new hp _) (SqT.of A7)⟩)))
  subst hy
  exact h a H (fun _ _ e=>e) (by rw[List.append_nil];exact h1)
theorem qk3(h1:SqT K H a xs)(h:∀ p H',A6 H H'->SqT K H' p (qg7 xs lo hi)->Q (.ref p) H'):qr1 K (.ref a) lo hi H Q:=by
 by_cases hw:HT.sIx xs.length 0 lo=0/\HT.sIx xs.length xs.length hi=xs.length
 ·refine .inr ⟨a,xs,rfl,h1,hw,h a H (fun _ _ e=>e) ?_⟩
  unfold qg7
  rw[hw.1,hw.2,List.drop_zero,Nat.sub_zero,List.take_length];exact h1
 ·exact .inl (.inr (.inl ⟨a,xs,rfl,h1,hw,fun p hp=>h p _ (A6.new hp _) (SqT.of A7)⟩))
end
def yq1(ta:TA):TI:=fun σ H R=>ta σ H fun vs H1=>∃ n:Nat,vs=[.int ((n:Int)-1),.int (-1),.int (-1)]/\(n:Int)<2 ^ 62/\R (Itv n) H1
theorem xq6(n:Nat):Builtin.Range.rangeSize ((n:Int)-1) (-1) (-1)=n:=by
 unfold Builtin.Range.rangeSize
 rw[if_neg (by decide)]
 have e:(- (-1):Int)=1:=by decide
 rw[e,Int.ediv_one]
 split <;> omega
theorem xq7 {a b:Expr} {ta:TA} {p:Pos} (hg:Gl X "range") (hm:X.mg "range"=none) (ha:PA X [a,b,c] ta) (hs:autoParam (starEach [a,b,c] X.env=(false,eval a X.env)::starEach [b,c] X.env) zAr) (hs2:autoParam (starEach [b,c] X.env=[(false,eval b X.env),(false,eval c X.env)]) zAr) :
 PI X tg (.Call (.Name "range" p) [a,b,c] [] pos) (yq1 ta):=by
 intro pins s σ H R I h
 refine Call_ (qv3 I hg hm boot_range (PyProof.Rows.callWith_type1 (thn (ha pos pins s σ H _ I h) fun us s1 zq=>?_) hs (by rw[hs2];rfl)))
 obtain⟨vs,H1,I1,r1,q1⟩:=zq
 obtain⟨n,e,q1,q⟩:=q1
 subst e
 cases r1 with
 | cons r rr =>
   cases rr with
   | cons r' rr =>
     cases rr with
     | cons r'' rr =>
       cases rr
       obtain⟨t,rfl⟩:=r
       obtain⟨t',rfl⟩:=r'
       obtain⟨t'',rfl⟩:=r''
       refine call_range_3 (by decide) ?_ (Or.inl (PyProof.noPylong_small (by decide)))
       have I2:Inv X pins σ H1 {s1 with heap:=s1.heap.push {cls:=.type "range",data:=.fields #[.int ((n:Int)-1) t,.int (-1) t',.int (-1) t'']},toks:=s1.toks}:=I1.kept (t':=s1.toks) fun b o e=>Heap.get?_push_of_some _ e
       refine wpAny_pyIter_range (IsRange.new ..) ?_ ?_
       ·unfold Builtin.Range.small
        rw[xq6]
        simp only[Builtin.Range.rangeFitsLong,Bool.and_eq_true,Bool.or_eq_true,decide_eq_true_eq,beq_iff_eq,show ¬((-1:Int) > 0) by decide,if_false]
        omega
       refine⟨_,[_],_,_,H1,rfl,I2.kept (t':=s1.toks) fun b o e=>Heap.get?_push_of_some _ e,zd5 _ n,?_,fun b hb=>?_,q⟩
       ·have e1:(n:Int)-1+((0:Nat):Int)*(-1)=(n:Int)-1:=by simp
        have e2:(n:Int)-((0:Nat):Int)=n:=by simp
        rw[e1,e2]
        have:=Heap.get?_push_size (s1.heap.push {cls:=.type "range",data:=.fields #[.int ((n:Int)-1) t,.int (-1) t',.int (-1) t'']}) (o:={cls:=.type "range_iterator",data:=.fields #[rawInt ((n:Int)-1),rawInt (Builtin.Range.rangeSize ((n:Int)-1) (-1) (-1)),rawInt (-1)]}) rfl
        rw[xq6] at this ⊢
        exact this
       ·have e:b=(s1.heap.push {cls:=.type "range",data:=.fields #[.int ((n:Int)-1) t,.int (-1) t',.int (-1) t'']}).objs.size:=by simpa using hb
        subst e
        exact I2.fpOk (Nat.le_refl _) (I2.hok.fresh (Nat.le_refl _))
theorem zo4{ta:TA}(h:ta σ H fun vs H1=>∃ n:Nat,vs=[.int ((n:Int)-1),.int (-1),.int (-1)]/\(n:Int)<2 ^ 62/\R (Itv n) H1):yq1 ta σ H R:=h
theorem wf9{i:Nat}{items}{x:Value}(hit:s.heap.IsTupleIter it l i)(hl:s.heap.IsTuple l items)(hx:items[i]?=some x)(hQ:∀ h',h'.IsTupleIter it l (i+1)->Heap.SameBut it s.heap h'->Q x {s with heap:=h'}) :
 wpAny (model prog w) A (Builtin.SmallTypes.nextOf (.ref it)) Q E s:=by
 obtain⟨o,ho,hc,hd⟩:=id hit
 obtain⟨ol,hol,_,nl,hdl⟩:=hl
 unfold Builtin.SmallTypes.nextOf
 refine wpAny_bind (wpAny_callSpecial?_slot (name:=Str.ofString "__next__") hit.typeIs F.slot_tuple_iterator_next
  (wpAny_call_entry F.slot_tuple_iterator_next hit.typeIs F.entry_tuple_iterator_next ?_ (F.args_tuple_iterator_next_1 _)))
 show wpAny _ _ (field (.ref it) 0 >>= _) _ _ s
 refine wpAny_bind (wpAny_field ho hd (x:=.ref l) rfl ?_)
 show wpAny _ _ (if(Value.ref l == Value.none)=true then _ else _) _ _ s
 rw[if_neg (show ¬((Value.ref l == Value.none)=true) from Bool.false_ne_true)]
 show wpAny _ _ (field (.ref it) 1 >>= _) _ _ s
 refine wpAny_bind (wpAny_field ho hd (x:=.int i 0) rfl ?_)
 show wpAny _ _ (seqItems? (.ref l) >>= _) _ _ s
 refine wpAny_bind (wpAny_seqItems hol hdl ?_)
 simp only[Int.toNat_natCast,hx]
 refine wpAny_bind (wpAny_setField ho hd (by simp) (wpAny_pure ⟨x,rfl,wpAny_pure (hQ _ ?_ (Heap.SameBut.update ..))⟩))
 exact⟨_,Heap.get?_update_self _ ho (Obj.isFreed_of_fields (Obj.data_mapFields hd _)),(Obj.cls_mapFields ..).trans hc,by
  rw[Obj.data_mapFields hd];simp[rawInt]⟩
theorem qp4{i:Nat}{items}(hh:A.handled=none)(hit:s.heap.IsTupleIter it l i)(hl:s.heap.IsTuple l items)(hx:items[i]?=none)(hE:∀ h' e,Heap.ExtBut it s.heap h'->(∃ o,h'.get? e=some o/\o.cls=.type "StopIteration")->E (.ref e) {s with heap:=h'}) :
 wpAny (model prog w) A (Builtin.SmallTypes.nextOf (.ref it)) Q E s:=by
 obtain⟨o,ho,hc,hd⟩:=id hit
 obtain⟨ol,hol,_,nl,hdl⟩:=hl
 unfold Builtin.SmallTypes.nextOf
 refine wpAny_bind (wpAny_callSpecial?_slot (name:=Str.ofString "__next__") hit.typeIs F.slot_tuple_iterator_next
  (wpAny_call_entry F.slot_tuple_iterator_next hit.typeIs F.entry_tuple_iterator_next ?_ (F.args_tuple_iterator_next_1 _)))
 show wpAny _ _ (field (.ref it) 0 >>= _) _ _ s
 refine wpAny_bind (wpAny_field ho hd (x:=.ref l) rfl ?_)
 show wpAny _ _ (if(Value.ref l == Value.none)=true then _ else _) _ _ s
 rw[if_neg (show ¬((Value.ref l == Value.none)=true) from Bool.false_ne_true)]
 show wpAny _ _ (field (.ref it) 1 >>= _) _ _ s
 refine wpAny_bind (wpAny_field ho hd (x:=.int i 0) rfl ?_)
 show wpAny _ _ (seqItems? (.ref l) >>= _) _ _ s
 refine wpAny_bind (wpAny_seqItems hol hdl ?_)
 simp only[Int.toNat_natCast,hx]
 refine wpAny_bind (wpAny_rule (wpAny_bind (wpAny_setField ho hd (by simp) ?_)))
 show wpAny _ _ (newExc (.type "StopIteration") [] >>= _) _ _ _
 refine wpAny_bind ?_
 simp only[newExc,newTuple]
 refine wpAny_bind (wpAny_newObj_type ?_ (by size_fits))
 refine wpAny_bind (m:=firstArgMember _ _) (wpAny_of_eq (a:=Value.none) (by first|rfl|(simp only[firstArgMember];rfl)) ?_)
 refine wpAny_newObj_type ?_ (by size_fits)
 simp only[raiseNew]
 refine wpAny_bind (wpAny_handled ?_)
 first|rw[show A.in1.handled=none from hh]|rw[hh]
 refine wpAny_bind (wpAny_pure (wpAny_throw ?_))
 exact hE _ _ (((Heap.SameBut.update ..).extBut.push _).push _) ⟨_,Heap.get?_push_size _ rfl,rfl⟩
theorem yb4(hh:A.handled=none)(it l:Addr)(hne:l≠it)(items:Array Value) :
 Draws prog w A it [it,l] items.size (fun i v=>items[i]?=some v) (fun i h=>h.IsTupleIter it l i/\h.IsTuple l items) where
 live:=fun _ _ st=>let ⟨o,ho,_⟩:=st.1;⟨o,ho⟩
 frame:=fun _ _ _ st hk=>⟨st.1.at fun o e=>hk it (by simp) o e,st.2.at fun o e=>hk l (by simp) o e⟩
 item:=fun i s Q E hi st hQ=>by
  refine wf9 st.1 st.2 (x:=items[i]) (by simp[hi]) fun h' hit' hs'=>?_
  exact hQ _ h' s.toks (by simp[hi]) ⟨hit',st.2.extBut hs'.extBut hne⟩ hs'
 done:=fun s Q E st hE=>qp4 hh st.1 st.2 (by simp) hE
set_option maxHeartbeats 1000000 in
theorem qw1(l:Addr)(items:Array Value)(n:Nat)(dct:Option Addr)(sl:Array (Option Value)) :
 Meets (Builtin.«enumerate.__new__» ⟨[.type "enumerate",.ref l],[]⟩) (fun _ R s=>s.heap.get? l=some {cls:=.type "tuple",dict:=dct,data:=.seq items n,slots:=sl} /\
  R (.ok (.ret (.ref (s.heap.push {cls:=.type "tuple_iterator",data:=.fields #[.ref l,.int 0 0]}).objs.size)))
   {s with heap:=(s.heap.push {cls:=.type "tuple_iterator",data:=.fields #[.ref l,.int 0 0]}).push {cls:=.type "enumerate",data:=.fields #[.none,.bool false,.ref s.heap.objs.size,rawInt 0,.none,.none]}}) :=
 .of_wp fun prog w A R s h=>by
  obtain⟨hp,g,d,tk,os⟩:=s;obtain⟨hl,h⟩:=h
  have hsub:=sub_enumerate
  have hL:Heap.IsTuple (Shared.heap ⟨hp,g,d,tk,os⟩) l items:=⟨_,hl,rfl,n,rfl⟩
  wp_walk using AutoSeq1.wpAny_loadPart' hl
  refine wpAny_stack_any fun st=>wpAny_pure ?_
  split
  ·rename_i c _ _ _ _ _
   cases (c == Value.type "enumerate")
   ·wp_walk using AutoSeq1.wpAny_loadPart' hl,wpAny_pyIter_tuple hL
    exact⟨_,rfl,h⟩
   ·wp_walk using AutoSeq1.wpAny_loadPart' hl,wpAny_pyIter_tuple hL
    exact⟨_,rfl,h⟩
  ·wp_walk using AutoSeq1.wpAny_loadPart' hl,wpAny_pyIter_tuple hL
   exact⟨_,rfl,h⟩
theorem qw2(hL:s.heap.IsTuple l items) (h:∀ h',IsEnum h' (s.heap.objs.size+1) s.heap.objs.size 0 .none->h'.IsTupleIter s.heap.objs.size l 0->h'.objs.size=s.heap.objs.size+2 ->
  (∀ b o,s.heap.get? b=some o->h'.get? b=some o)->Q (.ref (s.heap.objs.size+1)) {s with heap:=h'}) :
 wpAny (model prog w) A (call (.type "enumerate") [.ref l]) Q E s:=by
 obtain⟨⟨c,dct,dt,sl⟩,hl,hc,n,hd⟩:=hL
 replace hc:c=.type "tuple":=hc
 replace hd:dt=.seq items n:=hd
 subst hc hd
 refine callType_new F.called_enumerate (by decide) (F.typeCall_enumerate_1 _) (F.newCall_enumerate_1 _) (fun obj=>F.args_object_init_2 obj _) F.entry_enumerate_new
  (qw1 l items n dct sl) ⟨hl,?_⟩
 have hz:(s.heap.push {cls:=.type "tuple_iterator",data:=.fields #[.ref l,.int 0 0]}).objs.size=s.heap.objs.size+1:=Heap.size_push ..
 show _/\_
 rw[hz]
 have he:IsEnum ((s.heap.push {cls:=.type "tuple_iterator",data:=.fields #[.ref l,.int 0 0]}).push
  {cls:=.type "enumerate",data:=.fields #[.none,.bool false,.ref s.heap.objs.size,rawInt 0,.none,.none]}) (s.heap.objs.size+1) s.heap.objs.size 0 .none:=by
  have:=Heap.get?_push_size (s.heap.push {cls:=.type "tuple_iterator",data:=.fields #[.ref l,.int 0 0]})
   (o:={cls:=.type "enumerate",data:=.fields #[.none,.bool false,.ref s.heap.objs.size,rawInt 0,.none,.none]}) rfl
  rw[hz] at this;exact this
 refine⟨⟨_,he,rfl⟩,h _ he ⟨_,Heap.get?_push_of_some _ (Heap.get?_push_size _ rfl),rfl,rfl⟩ (by rw[Heap.size_push,hz]) fun b o y=>Heap.get?_push_of_some _ (Heap.get?_push_of_some _ y)⟩
def Ite(K:Fg)(a:Addr):It:=⟨fun i H=>∃ xs x,SqT K H a xs/\xs[i]?=some x,fun i H x H'=>∃ p y,x=.ref p/\H p=none/\(∀ xs,SqT K H a xs->xs[i]?=some y)/\H'=upd H p (.tup [.int i,y]),fun i H=>∃ xs,SqT K H a xs/\xs.length<=i⟩
variable{elts:List Expr}
theorem yj8{k:Nat}(a e it:Addr)(hei:e≠it) :
 xz9 P w K (.Tuple elts k pos) (Ite K a) [e,it] e (fun i h=>(∃ old,IsEnum h e it i old)/\h.IsTupleIter it a i) where
 mem:=by simp
 obj:=by
  rintro i h ⟨⟨old,e1⟩,o2,e2,_,d2⟩ b hb
  have hb:b=e\/b=it:=by simpa using hb
  rcases hb with rfl|rfl
  ·exact⟨_,e1,fun v z=>by cases (show Data.fields _=Data.cell v from z)⟩
  ·exact⟨_,e2,fun v z=>by rw[d2] at z;cases z⟩
 keep:=fun i h h' st kk=>⟨let ⟨old,e1⟩:=st.1;⟨old,kk e (by simp) _ e1⟩,st.2.at fun o q=>kk it (by simp) o q⟩
 item:=by
  intro X hP hw hK hc i pins s σ H E I hf st hg
  subst hP hw hK
  obtain⟨xs,x,hq,hx⟩:=hg
  obtain⟨its,rv,p,hz⟩:=I.tuple hq
  obtain⟨u,hu,ru⟩:=rv.get hx
  have hil:i<its.toArray.size:=by rw[List.size_toArray];exact(List.getElem?_eq_some_iff.mp hu).1
  have pT:s.heap.IsTuple a its.toArray:=p
  have nea:a≠it:=fun z=>by
   obtain⟨o1,h1,c1,_⟩:=pT
   obtain⟨o2,h2,c2,_⟩:=st.2
   rw[z,h2] at h1
   cases h1
   rw[c1] at c2
   exact absurd c2 (by decide)
  have nee:e≠a:=fun z=>by
   obtain⟨o1,h1,c1,_⟩:=pT
   obtain⟨old,h2⟩:=st.1
   rw[<-z] at h1
   have h2:s.heap.get? e=some _:=h2
   rw[h2] at h1
   cases h1
   exact absurd c1 (show ¬(Value.type "enumerate"=Value.type "tuple") by decide)
  have W:=WalksT.enumerateD (prog:=X.prog) (w:=X.w) (A:=X.A) (yb4 (A:=X.A.in1) (show X.A.in1.handled=none from I.ok.hd hc) it a nea its.toArray) e hei (by simp[hei,nee]) (by simp)
  refine wpAny_with_toks (n:=1) I.tk (W.item i s _ _ hil ⟨st.1,st.2,pT⟩ fun T vs h' tk hv hT htup hmid kk ht=>?_)
  have ht:0<tk:=ht
  obtain⟨tk1,y,hy,rfl⟩:=hv
  have hy:its[i]?=some y:=by simpa using hy
  rw[hu] at hy
  injection hy with hy
  subst hy
  have hap:=W.apart i T h' hmid
  refine⟨_,rfl,W.go elts k pos i T {s with heap:=h',toks:=tk} _ _ hmid fun h2 st2 k2=>?_⟩
  have htup2:IsTup h2 T [Value.int i tk1,u].toArray:=by
   obtain⟨o,e,c⟩:=htup
   exact⟨o,k2 T o hap e,by simpa using c⟩
  have I1:Inv X pins σ (upd H T (.tup [.int i,x])) {s with heap:=h2,toks:=tk}:=I.turnLaid (ch:=[e,it]) (fun b hb=>hf b hb) (fun b u hb e=>k2 b u hb (kk b u hb e)) hT ⟨by rw[sizeLine_eq];simp,[Value.int i tk1,u],.cons ⟨tk1,rfl⟩ (.cons ru .nil),htup2⟩ ht
  refine⟨.ref T,_,I1,rfl,⟨T,x,rfl,I.hok.fresh hT,fun ys hy=>by rw[I.tuple_inj hy hq];exact hx,rfl⟩,⟨st2.1,st2.2.1⟩,fun b hb=>?_⟩
  have hb2:∃ o,s.heap.get? b=some o:=by
   have hb:b=e\/b=it:=by simpa using hb
   rcases hb with rfl|rfl
   ·obtain⟨old,e1⟩:=st.1;exact⟨_,e1⟩
   ·obtain⟨o,e1,_⟩:=st.2;exact⟨_,e1⟩
  obtain⟨o,e⟩:=hb2
  rw[C6 (Nat.ne_of_lt (Nat.lt_of_lt_of_le (Heap.lt_size e) hT))]
  exact(hf b hb).1
 done:=by
  intro X hP hw hK hc i pins s σ H E I hf st hg
  subst hP hw hK
  obtain⟨xs,hq,hx⟩:=hg
  obtain⟨its,rv,p,hz⟩:=I.tuple hq
  have pT:s.heap.IsTuple a its.toArray:=p
  have hno:its.toArray[i]?=none:=by
   have:=rv.length
   simp;omega
  obtain⟨old,he⟩:=st.1
  have D:Draws X.prog X.w X.A.in1 it [it,a] 0 (fun _ _=>True) (fun _ h=>h.IsTupleIter it a i/\h.IsTuple a its.toArray) :=
   { live:=fun _ _ st=>let ⟨o,ho,_⟩:=st.1;⟨o,ho⟩
     frame:=fun _ _ _ st hk=>⟨st.1.at fun o e=>hk it (by simp) o e,st.2.at fun o e=>hk a (by simp) o e⟩
     item:=fun j s Q E hj=>absurd hj (Nat.not_lt_zero _)
     done:=fun s Q E st hE=>qp4 (show X.A.in1.handled=none from I.ok.hd hc) st.1 st.2 hno hE}
  exact wpAny_pyNext_enum_endD D he ⟨st.2,pT⟩ fun h' hx=>⟨rfl,I.turnedL (ch:=[e,it]) (t':=s.toks) (fun b hb=>hf b hb) (fun b o hb y=>hx b o (fun z=>hb (by simp[z])) y) I.tk⟩
 self:=fun A i s Q E st h=>let ⟨old,e1⟩:=st.1;wpAny_pyIter_enum e1 h
def yj9(K:Fg)(ta:TA):TI:=fun σ H R=>ta σ H fun vs H1=>∃ a xs,vs=[.ref a]/\SqT K H1 a xs/\R (Ite K a) H1
theorem ze1{k:Nat}{p:Pos}{l:Expr}{ta:TA}(hg:Gl X "enumerate")(hm:X.mg "enumerate"=none)(ha:PA X [l] ta)(hs:autoParam (starEach [l] X.env=[(false,eval l X.env)]) zAr) :
 PI X (.Tuple elts k tpos) (.Call (.Name "enumerate" p) [l] [] pos) (yj9 X.K ta):=by
 intro pins s σ H R I h
 refine Call_ (qv3 I hg hm boot_enumerate (PyProof.Rows.callWith_type1 (thn (ha pos pins s σ H _ I h) fun us s1 zq=>?_) hs rfl))
 obtain⟨vs,H1,I1,r1,q1⟩:=zq
 obtain⟨a,xs,e,hq,q⟩:=q1
 subst e
 obtain⟨v,rfl,rv⟩:=qp0 r1
 cases rv
 obtain⟨its,rv,pT,hz⟩:=I1.tuple hq
 refine qw2 (show s1.heap.IsTuple a its.toArray from pT) fun h' he hit hz hk=>?_
 have I2:Inv X pins σ H1 {s1 with heap:=h'}:=I1.kept (t':=s1.toks) hk
 refine wpAny_pyIter_enum he ?_
 have ne:s1.heap.objs.size+1≠s1.heap.objs.size:=by omega
 refine⟨s1.heap.objs.size+1,_,_,_,H1,rfl,I2,yj8 a (s1.heap.objs.size+1) s1.heap.objs.size ne,⟨⟨_,he⟩,hit⟩,fun b hb=>?_,q⟩
 have hb:b=s1.heap.objs.size+1\/b=s1.heap.objs.size:=by simpa using hb
 rcases hb with rfl|rfl
 ·exact I1.fpOk (Nat.le_succ _) (I1.hok.fresh (Nat.le_succ _))
 ·exact I1.fpOk (Nat.le_refl _) (I1.hok.fresh (Nat.le_refl _))
theorem ze2{ta:TA}(h:ta σ H fun vs H1=>∃ a xs,vs=[.ref a]/\SqT K H1 a xs/\R (Ite K a) H1):yj9 K ta σ H R:=h
theorem yx2(hq:SqT K H a xs)(Pv:Nat->St->Hp->Prop)(h0:Pv 0 σ H)(hk:∀ i σ H',Pv i σ H'->SqT K H' a xs)(hs:∀ i x σ H p,xs[i]?=some x->Pv i σ H->H p=none->g (.ref p) σ (upd H p (.tup [.int i,x])) fun σ2 H2=>tb {D with nx:=PAt Pv (i+1),ct:=PAt Pv (i+1),bk:=D.nx} σ2 H2)(hd:∀ σ H,Pv xs.length σ H->D.nx σ H) :
 ∃ b ys,[V.ref a]=[.ref b]/\SqT K H b ys/\wx1 g tb D σ (Ite K b) H:=by
 refine⟨a,xs,rfl,hq,fun i m σ H=>m=xs.length-i/\i<=xs.length/\Pv i σ H,⟨xs.length,by simp,Nat.zero_le _,h0⟩,?_⟩
 rintro i m σ H ⟨rfl,hi,p⟩
 have sq:=hk i σ H p
 by_cases hlt:i<xs.length
 ·refine .inr ⟨⟨xs,xs[i],sq,by simp[hlt]⟩,Pv (i+1),fun σ' H' p'=>⟨xs.length-(i+1),by omega,rfl,hlt,p'⟩,fun x H' y=>?_⟩
  obtain⟨t,z,rfl,ht,hz,rfl⟩:=y
  exact hs i z σ H t (hz xs sq) p ht
 ·have e:i=xs.length:=by omega
  subst e
  exact .inl ⟨⟨xs,sq,Nat.le_refl _⟩,hd σ H p⟩
theorem ze3(hn:(n:Int)<2 ^ 62)(Pv:Nat->St->Hp->Prop)(p0:Pv 0 σ H)(hs:∀ (i:Nat) σ H,i<n->Pv i σ H->g (.int ((n:Int)-1-i)) σ H fun σ2 H2=>tb {D with nx:=PAt Pv (i+1),ct:=PAt Pv (i+1),bk:=D.nx} σ2 H2)(hd:∀ σ H,Pv n σ H->D.nx σ H) :
 ∃ m:Nat,[V.int ((n:Int)-1),V.int (-1),V.int (-1)]=[.int ((m:Int)-1),.int (-1),.int (-1)]/\(m:Int)<2 ^ 62/\wx1 g tb D σ (Itv m) H:=by
 obtain⟨m,e,h1,h2⟩:=zn7 hn Pv p0 hs hd
 injection e with e
 injection e with e
 have:n=m:=by omega
 subst this
 exact⟨n,rfl,h1,h2⟩
theorem yq2:∀ {js:List Int} {us:List Value},J9 (js.map V.int) us->∃ ps:List (Int×Tok),us=ps.map (fun p=>Value.int p.1 p.2)/\ps.map (·.1)=js
 | [],_,h=>by cases h;exact⟨[],rfl,rfl⟩
 | j :: js,_,h=>by
   have h:J9 (V.int j::js.map V.int) _:=h
   cases h with
   | cons r t =>
     obtain⟨k,rfl⟩:=r
     obtain⟨ps,rfl,e⟩:=yq2 t
     exact⟨(j,k)::ps,rfl,by simp[e]⟩
def ze4(K:Fg):List V->Hp->VK->Prop:=fun xs H Q=>∃ (p:Addr) (js:List Int),xs=[.ref p]/\SqL K H p (js.map V.int)/\∀ j:Int,Q (.int j) H
theorem yx3(hc:X.calm=true):V3 X (.builtin "sum") (ze4 X.K):=by
 intro pins s σ H xs us Q I r h
 obtain⟨p,js,rfl,hq,q⟩:=h
 obtain⟨u,rfl,ru⟩:=qp0 r
 cases ru
 obtain⟨its,rv,pl,hz⟩:=I.list hq
 obtain⟨ps,rfl,e⟩:=yq2 rv
 have hl:s.heap.IsList p (intItems ps.toArray):=by
  have:=pl.isList
  rw[show intItems ps.toArray=(ps.map (fun p=>Value.int p.1 p.2)).toArray by unfold intItems;simp]
  exact this
 refine wpAny_with_toks (n:=1) I.tk (sum_intListG (I.ok.hd hc) hl fun h' tk t' hk ht=>?_)
 exact⟨.int _,H,I.kept hk ht,⟨_,rfl⟩,q _⟩
variable{js:List Int}
section
variable{Q:VK}
theorem Aj1(h:SqL K H p (js.map V.int))(q:∀ j:Int,Q (.int j) H):ze4 K [.ref p] H Q:=⟨p,js,rfl,h,q⟩
theorem Aa8(h1:H p=some (.lst (y::xs)))(h:Q y (upd H p (.lst xs))):yi8 (.ref p) [.int 0] H Q :=
 ⟨p,y::xs,0,0,y,rfl,rfl,h1,by decide,by decide,by unfold seqIndex?;simp,rfl,h⟩
theorem ze5(h1:H p=some (.lst xs))(h2:H b=some (.lst zs))(hz:xs.length+zs.length<=sizeLine)(h:Q .non (upd H p (.lst (xs++zs)))):xt5 (.ref p) [.ref b] H Q:=⟨p,b,xs,zs,rfl,rfl,h1,h2,hz,h⟩
end
def yb5(i j:Int):Prop:=0<j/\j<2 ^ 200
theorem yb6:OpR X (binaryOp .FloorDiv) (rI yb5 fun i j=>.int (i / j)):=opI fun i j _ _ _ _ _ hc q=>by
 have h1:(0:Int)<j:=hc.1
 have h2:j<2 ^ 200:=hc.2
 refine floordiv_int (by omega) (by rw[Int.fdiv_eq_ediv_of_nonneg i (by omega)];exact q) (.inl (PyProof.noPylong_of_log2 ?_))
 refine Nat.lt_trans ((Nat.log2_lt (by omega)).mpr (?_:j.natAbs<2 ^ 200)) (by decide)
 have:((j.natAbs:Nat):Int)<((2 ^ 200:Nat):Int):=by
  rw[Int.natAbs_of_nonneg (by omega)]
  have e:((2 ^ 200:Nat):Int)=(2:Int) ^ 200:=by decide +kernel
  rw[e];exact h2
 exact Int.ofNat_lt.mp this
theorem yq3{Q:VK}(c:yb5 i j)(h:Q (.int (i / j)) H):rI yb5 (fun i j=>.int (i / j)) (.int i) (.int j) H Q:=⟨i,j,rfl,rfl,c,h⟩
theorem wx6:plainId "proto.contains_iter"=true:=by decide +kernel
theorem yb7:entryFor table "proto.contains_iter"=some Builtin.«proto.contains_iter»:=entryFor_of_fast (by kernel_rfl)
theorem qw3:typeLookup (.type "dict_values") "__contains__"=pure none:=by rw[typeLookup_type,builtinLookup_eq_fast];kernel_rfl
variable{ep:Nat}
section
variable[DecidableEq κ]{knd:KeyKind prog w κ}
theorem zo5{d:Addr}{kvs:List (κ×Value)}{x:Int}{tx:Tok}{R:Result->Shared->Prop}(hne:it≠d)(hh:A.in1.handled=none)(hj:∀ (i:Nat) (k:κ) (v:Value),kvs[i]?=some (k,v)->∃ (j:Int) (t:Tok),js[i]?=some j/\v=Value.int j t)(hl:js.length=kvs.length) :
 ∀ (m i:Nat) (s:Shared),kvs.length-i=m->i<=kvs.length->s.heap.IsValIter it d i kvs.length ep->s.heap.DictAt knd d kvs ep ->
  (∀ h',Heap.ExtBut it s.heap h'->R (.ok (.ret (.bool (decide (x∈js.drop i))))) {s with heap:=h'})->codeAny (model prog w) A (.builtin "proto.contains_iter" ⟨[.ref it,.int x tx],[]⟩) R s:=by
 intro m
 induction m with
 | zero =>
   intro i s hm hi st hd hR
   refine codeAny_builtin yb7 ?_
   rw[Around.under_plainId wx6 _]
   show wpAny _ A.in1 (pyNext (.ref it) >>= _) _ _ s
   refine wpAny_bind (wpAny_pyNext_values_end hh st hd (by rw[List.getElem?_eq_none];omega) fun h' hb=>?_)
   refine wpAny_bind (wpAny_rule (wpAny_pure ?_))
   have:=hR h' hb
   rw[List.drop_eq_nil_of_le (by omega)] at this
   simpa using this
 | succ m ih =>
   intro i s hm hi st hd hR
   have hlt:i<kvs.length:=by omega
   refine codeAny_builtin yb7 ?_
   rw[Around.under_plainId wx6 _]
   show wpAny _ A.in1 (pyNext (.ref it) >>= _) _ _ s
   obtain⟨⟨k,v⟩,hkv⟩:∃ p,kvs[i]?=some p:=⟨_,List.getElem?_eq_getElem hlt⟩
   obtain⟨j,t,ej,rfl⟩:=hj i k v hkv
   refine wpAny_bind (wpAny_pyNext_values_item st hd hkv fun h' st' sb=>?_)
   refine wpAny_bind (wpAny_eqBool_int ?_)
   have ed:js.drop i=j::js.drop (i+1):=by
    obtain⟨hi',e⟩:=List.getElem?_eq_some_iff.mp ej
    rw[<-e,<-List.drop_eq_getElem_cons]
   by_cases e:j=x
   ·subst e
    rw[show(j == j)=true by simp,if_pos rfl]
    refine wpAny_bind (wpAny_rule (wpAny_pure ?_))
    have:=hR h' sb.extBut
    rw[ed] at this
    simpa using this
   ·rw[show(j == x)=false by simpa using e,if_neg (by decide)]
    refine wpAny_pure ⟨plainId_quiet wx6 _,ih (i+1) _ (by omega) hlt st' ?_ fun h'' hb=>?_⟩
    ·obtain⟨o,es,ho,r⟩:=hd
     exact⟨o,es,sb.extBut d o (Ne.symm hne) ho,r⟩
    ·have:=hR h'' (fun b o hb' e'=>hb b o hb' (sb.extBut b o hb' e'))
     rw[ed] at this
     have e':¬x=j:=fun z=>e z.symm
     simpa [e'] using this
theorem yk0{v d:Addr}{kvs:List (κ×Value)}{x:Int}{tx:Tok}{Q:Bool->Shared->Prop}(hh:A.in1.handled=none)(hv:s.heap.IsValuesView v d)(hd:s.heap.DictAt knd d kvs ep)(hj:∀ (i:Nat) (k:κ) (v:Value),kvs[i]?=some (k,v)->∃ (j:Int) (t:Tok),js[i]?=some j/\v=Value.int j t)(hl:js.length=kvs.length)(h:∀ h',(∀ b o,s.heap.get? b=some o->h'.get? b=some o)->Q (decide (x∈js)) {s with heap:=h'}):wpAny (model prog w) A (contains (.ref v) (.int x tx)) Q E s:=by
 unfold contains
 refine wpAny_holding ?_
 rw[stdlibNamesSay?_of_typeIs hv.typeIs]
 refine wpAny_bind (wpAny_specialOf hv.typeIs qw3 ?_)
 show wpAny _ A (if((none:Option Value) == some Value.none)=true then _ else _) Q E s
 rw[if_neg (by simp)]
 refine wpAny_bind (wpAny_callSpecialUnlessNone?_none hv.typeIs qw3 ?_)
 refine wpAny_bind (wpAny_rule ?_)
 refine wpAny_bind (wpAny_tryCatch (wpAny_pyIter_values hv hd ?_))
 refine wpAny_bind (wpAny_runValue ?_)
 have dlt:d<s.heap.objs.size:=by obtain⟨o,es,ho,_⟩:=hd;exact Heap.lt_size ho
 refine zo5 (knd:=knd) (js:=js) (Nat.ne_of_gt dlt) hh hj hl _ 0 _ rfl (Nat.zero_le _) ⟨_,Heap.get?_push_size _ rfl,rfl,rfl⟩ ?_ fun h' hb=>?_
 ·obtain⟨o,es,ho,r⟩:=hd
  exact⟨o,es,Heap.get?_push_of_some _ ho,r⟩
 ·refine wpAny_pure ?_
  exact h h' fun b o e=>hb b o (Nat.ne_of_lt (Heap.lt_size e)) (Heap.get?_push_of_some _ e)
end
def yk1(neg:Bool)(tx td:TE):TE:=fun σ H Q=>tx σ H fun x H1=>td σ H1 fun y H2=>∃ (i:Int) (a:Addr) (kvs:List (Key×V)) (js:List Int),x=.int i/\y=.ref a/\H2 a=some (.dK kvs)/\kvs.map (·.2)=js.map V.int/\Q (.bl (if neg then !decide (i∈js) else decide (i∈js))) H2
theorem yq4:∀ {kvs:List (Key×V)} {vs:List (Key×Value)} {js:List Int},KV kvs vs->kvs.map (·.2)=js.map V.int->js.length=vs.length/\∀ (i:Nat) (k:Key) (v:Value),vs[i]?=some (k,v)->∃ (j:Int) (t:Tok),js[i]?=some j/\v=Value.int j t
 | [],vs,js,h,e=>by
   cases h
   cases js with
   | nil=>exact⟨rfl,fun i k v h=>by simp at h⟩
   | cons _ _=>cases e
 | (k0,v0)::kvs,vs,js,h,e=>by
   cases h with
   | cons r t =>
     rename_i q qs
     cases js with
     | nil=>cases e
     | cons j js =>
       injection e with e1 e2
       obtain⟨h1,h2⟩:=yq4 t e2
       refine⟨by simp[h1],fun i k v h=>?_⟩
       cases i with
       | zero =>
         have h:q=(k,v):=by simpa using h
         subst h
         obtain⟨_,r⟩:=r
         have e1:v0=V.int j:=e1
         rw[e1] at r
         obtain⟨t,rfl⟩:=r
         exact⟨j,t,rfl,rfl⟩
       | succ i=>exact h2 i k v (by simpa using h)
theorem wx7{Q:Bool->Shared->Prop}(hc:X.calm=true)(I:Inv X pins σ H s){t:Tok}{kvs:List (Key×V)}(e:H a=some (.dK kvs))(ej:kvs.map (·.2)=js.map V.int)(q:∀ s',Inv X pins σ H s'->Q (decide (i∈js)) s'):wpAny (model X.prog X.w) X.A (call (.builtin "dict.values") [.ref a]) (fun u s1=>wpAny (model X.prog X.w) X.A (contains u (.int i t)) Q X.xe s1) X.xe s:=by
 obtain⟨z,hm,vs,kv,dd⟩:=zt7 I.hok e
 obtain⟨o,es,ep,ho,hx,hdat,hk,hp,hn⟩:=id dd
 refine call_meetsIn PySem.F.slot_dict_values dd.typeIs PySem.F.entry_dict_values (PySem.F.args_dict_values_1 _) (meets_dict_values (R4 X.prog X.w) a hm) ⟨⟨vs,dd⟩,?_⟩
 obtain⟨h1,h2⟩:=yq4 kv ej
 refine yk0 (knd:=R4 X.prog X.w) (d:=a) (kvs:=vs) (ep:=ep) (js:=js) (show X.A.in1.handled=none from I.ok.hd hc) ⟨_,Heap.get?_push_size _ rfl,rfl,rfl⟩ ⟨o,es,Heap.get?_push_of_some _ ho,hx,hdat,hk,hp,hn⟩ h2 h1 fun h' hb=>?_
 exact q _ (I.kept (t':=s.toks) (h':=h') fun b o e=>hb b o (Heap.get?_push_of_some _ e))
theorem ze6{kvs:List (Key×V)}(e:H a=some (.dK kvs)):tyV K "dict" (.ref a) H:=.inr (.inr (.inl ⟨rfl,.inl ⟨kvs,e⟩⟩))
theorem Aa9(hc:X.calm=true)(hx:PE X e tx)(ho:PE X o td)(hm:behindInMarks .In (.Call (.Attribute o "values" apos) [] [] cpos)=false:=by with_unfolding_all rfl)(hbase:autoParam (attributeBase o "values" X.env (eval o X.env)=eval o X.env) zAr)(hline:autoParam ((apos.endLine == cpos.line)=true) zAr):PE X (.Compare e [.In] [.Call (.Attribute o "values" apos) [] [] cpos] pos) (yk1 false tx td):=by
 intro pins s σ H Q I h
 refine wpAny_Compare1 (thn (hx pins s σ H _ I h) fun v s1 zq=>?_) hm
 obtain⟨x,H1,I1,r1,q1⟩:=zq
 refine wpAny_Call_method0_late hbase hline (thn (ho pins s1 σ H1 _ I1 q1) fun u s2 zq=>?_)
 obtain⟨y,H2,I2,r2,i,a,kvs,js,ex,ey,ed,ej,q⟩:=zq
 subst ex ey
 obtain⟨t,rfl⟩:=r1
 obtain⟨h1,h2⟩:=xt4 I2 r2 (ze6 ed)
 cases r2
 refine⟨"dict",_,PySem.F.plainAttrs_dict,PySem.F.slot_dict_values,PySem.F.type_dict_values,h1,h2,Calls.callWith_builtin rfl (PySem.evalArgs_none ?_)⟩
 exact thn (wx7 (Q:=fun bb s'=>EP X pins σ Q (.bool bb) s') hc I2 ed ej fun s' I'=>⟨.bl _,H2,I',rfl,q⟩) fun u s3 hu=>wpAny_bind (wpAny_mono hu (fun bb s4 h4=>wpAny_pure h4) fun _ _ z=>z)
theorem wk2(hc:X.calm=true)(hx:PE X e tx)(ho:PE X o td)(hm:behindInMarks .NotIn (.Call (.Attribute o "values" apos) [] [] cpos)=false:=by with_unfolding_all rfl)(hbase:autoParam (attributeBase o "values" X.env (eval o X.env)=eval o X.env) zAr)(hline:autoParam ((apos.endLine == cpos.line)=true) zAr):PT X (.Compare e [.NotIn] [.Call (.Attribute o "values" apos) [] [] cpos] pos) (D6 (yk1 true tx td)):=by
 intro pins s σ H Q I h
 refine wpAny_isTrue_Compare1 (thn (hx pins s σ H _ I h) fun v s1 zq=>?_) hm
 obtain⟨x,H1,I1,r1,q1⟩:=zq
 refine wpAny_Call_method0_late hbase hline (thn (ho pins s1 σ H1 _ I1 q1) fun u s2 zq=>?_)
 obtain⟨y,H2,I2,r2,i,a,kvs,js,ex,ey,ed,ej,kk,ek,q⟩:=zq
 subst ex ey
 obtain⟨t,rfl⟩:=r1
 obtain⟨h1,h2⟩:=xt4 I2 r2 (ze6 ed)
 cases r2
 refine⟨"dict",_,PySem.F.plainAttrs_dict,PySem.F.slot_dict_values,PySem.F.type_dict_values,h1,h2,Calls.callWith_builtin rfl (PySem.evalArgs_none ?_)⟩
 exact thn (wx7 (Q:=fun bb s'=>TP X pins σ Q (!bb) s') hc I2 ed ej fun s' I'=>⟨H2,I',by injection ek with ek;subst ek;exact q⟩) fun u s3 hu=>wpAny_bind (wpAny_mono hu (fun bb s4 h4=>wpAny_pure (wpAny_truthy_bool h4)) fun _ _ z=>z)
section
variable{Q:VK}
theorem zo6(h:td σ H fun x H1=>ty σ H1 fun y H2=>∃ a v,x=.ref a/\wa8 H2 a y (some v)/\Q v H2):zb0 td ty σ H Q:=h
theorem Ab0{neg:Bool}(h:tx σ H fun x H1=>td σ H1 fun y H2=>∃ (i:Int) (a:Addr) (kvs:List (Key×V)) (js:List Int),x=.int i/\y=.ref a/\H2 a=some (.dK kvs)/\kvs.map (·.2)=js.map V.int/\Q (.bl (if neg then !decide (i∈js) else decide (i∈js))) H2):yk1 neg tx td σ H Q:=h
end
def Ab1(K:Fg)(ta tb:TE):TE:=fun σ H Q=>ta σ H fun x H1=>∃ k,zx0 K x H1 k/\if k=true then Q x H1 else tb σ H1 Q
theorem Ab2{a b:Expr}{rest:List Expr}{tb:TE}(ha:PE X a ta)(hb:PE X (.BoolOp .Or (b::rest) pos) tb):PE X (.BoolOp .Or (a::b::rest) pos) (Ab1 X.K ta tb):=by
 intro pins s σ H Q I h
 refine BoolOp_or (thn (ha pins s σ H _ I h) fun v s1 zq=>?_)
 obtain⟨x,H1,I1,r1,k,tv,q1⟩:=zq
 refine thn (zx1 pins s1 σ H1 x v (fun b H'=>H'=H1/\b=k) I1 r1 ⟨k,tv,rfl,rfl⟩) fun b' s2 zq=>?_
 obtain⟨H2,I2,e1,e2⟩:=zq
 subst e1 e2
 cases b' with
 | false=>exact hb pins s2 σ H2 Q I2 q1
 | true=>exact⟨x,H2,I2,r1,q1⟩
section
variable{Q:VK}
theorem Ab3{tb:TE}(h:ta σ H fun x H1=>∃ k,zx0 K x H1 k/\if k=true then Q x H1 else tb σ H1 Q):Ab1 K ta tb σ H Q:=h
theorem yk2(h1:H a=some (.tup xs))(h2:H b=some (.tup ys))(hz:xs.length+ys.length<=sizeLine)(h:∀ p H',A6 H H'->H' p=some (.tup (xs++ys))->Q (.ref p) H'):R1 K (.ref a) (.ref b) H Q:=by
 by_cases hx:xs=[]
 ·subst hx
  exact .inr ⟨a,b,ys,rfl,rfl,SqT.of h1,SqT.of h2,h b H (fun _ _ e=>e) h2⟩
 ·refine .inl (.inr (.inr (.inr ⟨a,b,xs,ys,rfl,rfl,SqT.of h1,SqT.of h2,hx,hz,fun hy=>?_,fun hy p hp=>h p _ (A6.new hp _) A7⟩)))
  subst hy
  exact h a H (fun _ _ e=>e) (by rw[List.append_nil];exact h1)
theorem Aj2(h1:H a=some (.tup xs))(h:∀ p H',A6 H H'->H' p=some (.tup (qg7 xs lo hi))->Q (.ref p) H'):qr1 K (.ref a) lo hi H Q:=by
 by_cases hw:HT.sIx xs.length 0 lo=0/\HT.sIx xs.length xs.length hi=xs.length
 ·refine .inr ⟨a,xs,rfl,SqT.of h1,hw,h a H (fun _ _ e=>e) ?_⟩
  unfold qg7
  rw[hw.1,hw.2,List.drop_zero,Nat.sub_zero,List.take_length];exact h1
 ·exact .inl (.inr (.inl ⟨a,xs,rfl,SqT.of h1,hw,fun p hp=>h p _ (A6.new hp _) A7⟩))
end
theorem qe2:fillsNumberSlot (.type "tuple") "mul"=pure false :=
 PySem.fillsNumberSlot_seq (id := "tuple.__mul__") (r:=some (.builtin "tuple.__rmul__")) F.slot_tuple_mul.lookup (by decide +kernel) F.slot_tuple_rmul.lookup (by decide +kernel)
theorem qr2:seqRepeat? (.type "tuple")=pure (some (.builtin "tuple.__mul__")):=by
 unfold seqRepeat?
 rw[PySem.seqSlot_of (T := "tuple") (name := "__mul__") (id := "tuple.__mul__") F.slot_tuple_mul.lookup (by decide +kernel),PySem.seqSlot_of (T := "tuple") (name := "__rmul__") (id := "tuple.__rmul__") F.slot_tuple_rmul.lookup (by decide +kernel)]
 rfl
theorem qk4(a:Int)(t:Tok)(l:Addr)(items:Array Value)(n:Nat)(dd:Option Addr)(sl:Array (Option Value)) :
 Meets (Builtin.«int.__rmul__» ⟨[.int a t,.ref l],[]⟩) (fun _ R s=>s.heap.get? l=some {cls:=.type "tuple",dict:=dd,data:=.seq items n,slots:=sl}/\R (.ok (.ret Value.notImplemented)) s) :=
 .of_wp fun prog w A R s h=>by obtain⟨hp,g,d,tk,os⟩:=s;obtain⟨hl,h⟩:=h;wp_walk;exact⟨_,rfl,h⟩
theorem yk3(l:Addr)(items:Array Value)(n:Nat)(dd:Option Addr)(sl:Array (Option Value))(u:Tok) :
 Meets (Builtin.«tuple.__mul__» ⟨[.ref l,.int 1 u],[]⟩) (fun _ R s=>s.heap.get? l=some {cls:=.type "tuple",dict:=dd,data:=.seq items n,slots:=sl}/\R (.ok (.ret (Value.ref l))) s) :=
 .of_wp fun prog w A R s h=>by
  obtain⟨hp,g,d,tk,os⟩:=s;obtain⟨hl,h⟩:=h
  have f1:=AutoSeq1.idx_int;have f2:=AutoSeq1.sub_tuple_tuple
  have e1:(decide ((1:Int) < -(2 ^ 63)) || decide ((1:Int)>=2 ^ 63))=false:=by decide
  have e2:(items.isEmpty || (1:Int) == 1)=true:=by simp
  wp_walk using AutoSeq1.wpAny_loadPart' hl
  exact⟨_,rfl,h⟩
theorem yk4(l:Addr)(items:Array Value)(n:Nat)(dd:Option Addr)(sl:Array (Option Value))(x:Int)(u:Tok)(hx:2<=x)(hx2:x<2 ^ 63)(hne:items.isEmpty=false)(hsz:(items.size:Int)*x<=(sizeLine:Int)) :
 Meets (Builtin.«tuple.__mul__» ⟨[.ref l,.int x u],[]⟩) (fun _ R s=>s.heap.get? l=some {cls:=.type "tuple",dict:=dd,data:=.seq items n,slots:=sl} /\
  R (.ok (.ret (Value.ref s.heap.objs.size))) {s with heap:=s.heap.push {cls:=Value.type "tuple",data:=Data.seq (List.foldl (fun x1 x2=>x1++x2) #[] (List.replicate x.toNat items))}}) :=
 .of_wp fun prog w A R s h=>by
  obtain⟨hp,g,d,tk,os⟩:=s;obtain⟨hl,h⟩:=h
  have f1:=AutoSeq1.idx_int;have f2:=AutoSeq1.sub_tuple_tuple
  have e1:¬(decide (x < -(2 ^ 63)) || decide (x>=2 ^ 63))=true:=by simp;omega
  have e2:¬(items.isEmpty || x == 1)=true:=by rw[hne];simp;omega
  have e3:¬(decide (x<=0) || items.isEmpty)=true:=by rw[hne];simp;omega
  have e4:¬(items.size:Int)*x > (2 ^ 63-1) / 8:=by
   have:(sizeLine:Int)<=(2 ^ 63-1) / 8:=by decide
   omega
  have e5:¬Builtin.Tuple.tupleTooMany ((items.size:Int)*x)=true:=by unfold Builtin.Tuple.tupleTooMany;simp;omega
  have e6:(List.foldl (fun x1 x2=>x1++x2) #[] (List.replicate x.toNat items)).size<=sizeLine:=by
   rw[AutoSeq1.size_joined]
   have a1:((x.toNat:Nat):Int)=x:=by omega
   have a2:((x.toNat*items.size:Nat):Int)<=(sizeLine:Int):=by push_cast;rw[a1,Int.mul_comm];exact hsz
   simp;omega
  wp_walk using AutoSeq1.wpAny_loadPart' hl
  refine wpAny_ite_false (by simpa using e1) ?_
  wp_walk using AutoSeq1.wpAny_loadPart' hl
  refine wpAny_ite_false (decide_eq_false e2) ?_
  show wpAny _ _ (if _ then _ else _) _ _ _
  refine wpAny_ite_false (decide_eq_false e3) ?_
  show wpAny _ _ (if _ then _ else _) _ _ _
  refine wpAny_ite_false (decide_eq_false e4) ?_
  show wpAny _ _ (if _ then _ else _) _ _ _
  refine wpAny_ite_false (decide_eq_false e5) ?_
  wp_walk using AutoSeq1.wpAny_loadPart' hl
  exact⟨_,rfl,h⟩
def zu5(K:Fg):R2:=fun x y H Q=>∃ a k xs,x=.ref a/\y=.int k/\SqT K H a xs/\xs≠[]/\1<=k/\k<2 ^ 63/\xs.length*k.toNat<=sizeLine /\
 (k=1->Q (.ref a) H)/\(k≠1->∀ p,H p=none->Q (.ref p) (upd H p (.tup (List.replicate k.toNat xs).flatten)))
theorem zo7:OpR X (binaryOp .Mult) (zu5 X.K):=by
 intro pins s σ H x y v u Q I rx ry h
 obtain⟨a,k,xs,rfl,rfl,ha,hne,h1,h2,hz,q1,q2⟩:=h
 cases rx
 obtain⟨t,rfl⟩:=ry
 obtain⟨its,r,p,_⟩:=I.tuple ha
 obtain⟨⟨cls,dd,data,sl⟩,ho,hc,n,hd⟩:=id p
 simp only at hc hd
 subst hc hd
 have hlen:=r.length
 refine wpAny_binaryOp_repeat_ref (T := "tuple") (U := "int") (by decide) ⟨_,ho,rfl⟩ (fun s'=>typeIs_int s' k t) qe2 F.fills_int_mul F.slot_int_rmul qr2 F.slot_int_index.lookup
  (call_meets F.slot_int_rmul (typeIs_int s k t) F.entry_int_rmul (F.args_int_rmul_2 _ _) (qk4 k t a its.toArray n dd sl)
   ⟨ho,rfl,⟨_,ho,rfl⟩,?_⟩)
 by_cases hk:k=1
 ·subst hk
  exact call_meets F.slot_tuple_mul ⟨_,ho,rfl⟩ F.entry_tuple_mul (F.args_tuple_mul_2 _ _) (yk3 a its.toArray n dd sl t) ⟨ho,.ref a,H,I,rfl,q1 rfl⟩
 ·have hi:its≠[]:=fun z=>hne (r.nil_iff.mp z)
  refine call_meets F.slot_tuple_mul ⟨_,ho,rfl⟩ F.entry_tuple_mul (F.args_tuple_mul_2 _ _) (yk4 a its.toArray n dd sl k t (by omega) h2 (by simpa using hi) ?_) ⟨ho,?_⟩
  ·have a1:((k.toNat:Nat):Int)=k:=by omega
   rw[List.size_toArray,<-hlen,<-a1]
   exact_mod_cast hz
  ·have hnew:List.foldl (fun x1 x2=>x1++x2) #[] (List.replicate k.toNat its.toArray)=(List.replicate k.toNat its).flatten.toArray:=by
    have:=wj7 its k.toNat []
    rw[List.nil_append] at this
    exact this
   rw[hnew]
   refine⟨.ref s.heap.objs.size,_,I.laid (t':=s.toks) (o:=.tup (List.replicate k.toNat xs).flatten) (fun b ob q=>Heap.get?_push_of_some _ q) (Nat.le_refl _) ?_,rfl,q2 hk _ (I.hok.fresh (Nat.le_refl _))⟩
   exact⟨by rw[yp1,Nat.mul_comm];exact hz,_,r.rep k.toNat,IsTup.new _ _⟩
def ze7(K:Fg):R2:=fun x y H Q=>qp2 x y H Q\/zu5 K x y H Q
theorem zo8:OpR X (binaryOp .Mult) (ze7 X.K):=Z9.or zo7
section
variable{Q:VK}
theorem Ab4{k:Int}(h:H a=some (.tup xs))(hx:xs≠[])(h1:1<=k)(h2:k<2 ^ 63)(hz:xs.length*k.toNat<=sizeLine)(q:∀ p H',A6 H H'->H' p=some (.tup (List.replicate k.toNat xs).flatten)->Q (.ref p) H'):ze7 K (.ref a) (.int k) H Q:=by
 refine .inr ⟨a,k,xs,rfl,rfl,SqT.of h,hx,h1,h2,hz,fun e=>?_,fun e p hp=>q p _ (A6.new hp _) A7⟩
 subst e
 refine q a H (fun _ _ e=>e) ?_
 rw[h];simp
end
def Dk{α:Type}:Sem α->Prop
 | .pure _=>True
 | .raise _=>True
 | .unsupported _=>True
 | .finish _=>True
 | .rule _ k=>Dk (k ())
 | .at _ k=>Dk (k ())
 | .load _ _ k=>∀ o,Dk (k o)
 | .update _ _ f k=>(∀ o:Obj,(f o).dict=o.dict)/\Dk (k ())
 | .loadIfAlive _ k=>∀ o,Dk (k o)
 | .point _ k=>Dk (k ())
 | .alloc _ k=>∀ a,Dk (k a)
 | .fresh k=>∀ a,Dk (k a)
 | .ask k=>∀ a,Dk (k a)
 | .handled _ k=>∀ a,Dk (k a)
 | .stack k=>∀ a,Dk (k a)
 | .thread k=>∀ a,Dk (k a)
 | _=>False
def wx8(e:Addr)(od:Option Addr)(s:Shared):Prop:=∃ o,s.heap.objs[e]?=some o/\o.dict=od
theorem wx8.at{e:Addr}{o:Obj}(h:wx8 e od s)(g:s.heap.get? e=some o):o.dict=od:=by
 obtain⟨o',e1,e2⟩:=h
 have:=(Heap.get?_some_iff.mp g).1
 rw[e1] at this;cases this;exact e2
theorem wx8.of{e:Addr}{o:Obj}(g:s.heap.get? e=some o)(h:o.dict=od):wx8 e od s:=⟨o,(Heap.get?_some_iff.mp g).1,h⟩
variable{Γ:PySem.Ctx}
theorem Aj3{e:Addr}{E:Value->Pos->Shared->Prop}{t:Sem α}(d:Dk t):∀ {Q:α->Pos->Shared->Prop} {p:Pos} {s:Shared},wx8 e od s->Sem.wp M Γ t Q E p s->Sem.wp M Γ t (fun a p s=>Q a p s/\wx8 e od s) E p s:=by
 induction t with
 | pure a=>intro Q p s h w;exact⟨w,h⟩
 | raise v=>intro Q p s h w;exact w
 | unsupported v=>intro Q p s h w;exact w
 | finish v=>intro Q p s h w;exact w
 | rule _ k ih=>intro Q p s h w;exact ih () d h w
 | «at» _ k ih=>intro Q p s h w;exact ih () d h w
 | load a _ k ih=>intro Q p s h w;obtain⟨o,ho,w⟩:=w;exact⟨o,ho,ih o (d o) h w⟩
 | update a _ f k ih =>
   intro Q p s h w
   obtain⟨ha,w⟩:=w
   refine⟨ha,ih () d.2 ?_ w⟩
   obtain⟨o,h1,h2⟩:=h
   obtain⟨⟨objs,l⟩,g,dr,tk,os⟩:=s
   show ∃ o,(objs.modify a f)[e]?=some o/\o.dict=od
   have h1:objs[e]?=some o:=h1
   rw[Array.getElem?_modify]
   by_cases z:a=e
   ·rw[if_pos z,h1];exact⟨_,rfl,(d.1 o).trans h2⟩
   ·rw[if_neg z];exact⟨o,h1,h2⟩
 | loadIfAlive a k ih=>intro Q p s h w;exact ih _ (d _) h w
 | point _ k ih=>intro Q p s h w;exact ih () d h w
 | alloc ob k ih =>
   intro Q p s h w
   refine ih _ (d _) ?_ w
   obtain⟨o,h1,h2⟩:=h
   obtain⟨⟨objs,l⟩,g,dr,tk,os⟩:=s
   show ∃ o,(objs.push ob)[e]?=some o/\o.dict=od
   have h1:objs[e]?=some o:=h1
   have hlt:e<objs.size:=(Array.getElem?_eq_some_iff.mp h1).1
   refine⟨o,?_,h2⟩
   rw[Array.getElem?_push,if_neg (Nat.ne_of_lt hlt)];exact h1
 | fresh k ih=>intro Q p s h w;exact ih _ (d _) h w
 | ask k ih=>intro Q p s h w;exact ih _ (d _) h w
 | handled _ k ih=>intro Q p s h w;exact ih _ (d _) h w
 | stack k ih=>intro Q p s h w;exact ih _ (d _) h w
 | thread k ih=>intro Q p s h w;exact ih _ (d _) h w
 | register|choose|os|call|newGen|genState|resume|yield|fork|await=>exact False.elim d
theorem wx9{e:Addr}{t:Sem α}{Q:α->Shared->Prop}(d:Dk t)(h:wx8 e od s)(w:wpAny M A t Q E s):wpAny M A t (fun a s=>Q a s/\wx8 e od s) E s :=
 fun Γ p hΓ=>Aj3 d h (w Γ p hΓ)
variable{β:Type}
theorem N8{t:Sem α}{k:α->Sem β}(h:Dk t)(hk:∀ a,Dk (k a)):Dk (t >>= k):=by
 show Dk (t.bind k)
 induction t with
 | pure a=>exact hk a
 | raise v=>exact True.intro
 | unsupported v=>exact True.intro
 | finish v=>exact True.intro
 | rule _ k ih=>exact ih () h
 | «at» _ k ih=>exact ih () h
 | load a _ k ih=>exact fun o=>ih o (h o)
 | update a _ f k ih=>exact⟨h.1,ih () h.2⟩
 | loadIfAlive a k ih=>exact fun o=>ih o (h o)
 | point _ k ih=>exact ih () h
 | alloc ob k ih=>exact fun o=>ih o (h o)
 | fresh k ih=>exact fun o=>ih o (h o)
 | ask k ih=>exact fun o=>ih o (h o)
 | handled _ k ih=>exact fun o=>ih o (h o)
 | stack k ih=>exact fun o=>ih o (h o)
 | thread k ih=>exact fun o=>ih o (h o)
 | register|choose|os|call|newGen|genState|resume|yield|fork|await=>exact False.elim h
theorem R6{a:α}:Dk (pure a:Sem α):=True.intro
theorem qo3{w:String}:Dk (unsupported w:Sem α):=True.intro
theorem xu2:Dk (load a):=fun _=>True.intro
theorem wy1:Dk stack:=fun _=>True.intro
theorem yb8(v:Value):Dk (fieldsOf v):=by
 unfold fieldsOf
 split
 ·refine N8 xu2 fun o=>?_
  split
  ·exact R6
  ·exact qo3
 ·exact qo3
theorem wg0(v:Value)(i:Nat):Dk (field v i):=by
 unfold field
 refine N8 (yb8 v) fun o=>?_
 split
 ·exact R6
 ·exact qo3
theorem wy2(f:Array Value->Array Value)(o:Obj):(Obj.mapFields f o).dict=o.dict:=by
 unfold Obj.mapFields
 split <;> rfl
theorem qw4(v:Value)(i:Nat)(x:Value):Dk (setField v i x):=by
 unfold setField
 split
 ·unfold updateField
  refine N8 xu2 fun o=>?_
  split
  ·split
   ·exact⟨fun o=>wy2 _ o,True.intro⟩
   ·exact qo3
  ·exact qo3
 ·exact qo3
theorem qr3(e:Value)(f:Option Addr):Dk (setFlight e f):=by
 unfold setFlight
 refine N8 (wg0 _ _) fun tb=>?_
 split
 ·exact qw4 _ _ _
 ·exact R6
theorem yx4(env:Env)(outer:List Env):Dk (behindIsImport env outer):=by
 unfold behindIsImport
 split
 ·exact R6
 ·split
  ·exact R6
  ·exact N8 (wg0 _ _) fun _=>R6
theorem ze8:Dk underTheClaimsCaller:=by
 unfold underTheClaimsCaller
 exact N8 wy1 fun _=>R6
theorem zo9(env:Env)(i:Bool):∀ outer:List Env,Dk (keptBack env i outer)
 | []=>by
   show Dk (if(env.scope.isGenerator || env.scope.isCoroutine)=true then pure Value.none else do return if<-underTheClaimsCaller then .notImplemented else .none)
   split
   ·exact R6
   ·exact N8 ze8 fun b=>R6
 | c::l=>R6
theorem yb9:∀ l:List Env,Dk (readyFrames l)
 | []=>R6
 | env::outer=>by
   unfold readyFrames
   split
   ·refine N8 xu2 fun o=>?_
    split
    ·exact R6
    ·exact N8 (yx4 _ _) fun b=>N8 (zo9 _ _ _) fun v=>N8 ⟨fun o=>rfl,True.intro⟩ fun _=>yb9 outer
   ·exact qo3
theorem wy3(l:List Env):Dk (frameObject l):=by
 cases l with
 | nil=>exact R6
 | cons env outer=>unfold frameObject;exact N8 (yb9 _) fun _=>R6
theorem yk5(env:Env):Dk (PySem.frameOf env):=by
 unfold PySem.frameOf frameEnvs
 refine N8 (N8 wy1 fun _=>R6) fun l=>N8 (wy3 _) fun o=>?_
 split
 ·exact R6
 ·exact qo3
theorem ze9(f:Addr)(b:Bool):Dk (entryPlaceOf f b):=by
 unfold entryPlaceOf
 refine N8 wy1 fun l=>?_
 split <;> exact R6
theorem yc0(a b c d e:Value)(l:List Value):Dk (EntryCells.newEntry a b c d e l):=by
 unfold EntryCells.newEntry newFields
 have last:∀ dt:Data,Dk (newObjAsIs (.type "traceback") dt):=fun dt=>by unfold newObjAsIs;exact fun a=>True.intro
 have two:∀ vs:List Value,Dk (newObj (.type "traceback") (.fields vs.toArray)):=fun vs=>by
  show Dk (if vs.toArray.size > sizeLine+2 then(unsupported "record:memory" >>= fun _=>newObjAsIs (.type "traceback") (.fields vs.toArray)) else newObjAsIs (.type "traceback") (.fields vs.toArray))
  split
  ·exact N8 qo3 fun _=>last _
  ·exact last _
 exact two _
theorem yq5(e:Value)(env:Env):Dk (noteFrame e env):=by
 unfold noteFrame
 split
 ·refine N8 (wg0 _ _) fun head=>?_
  have last:∀ f,Dk (do setField e 1 (<-EntryCells.newEntry head (<-PySem.frameOf env) .none (rawInt f) .none (<-entryPlaceOf f (head != .none)))):=fun f =>
   N8 (yk5 _) fun a=>N8 (ze9 _ _) fun b=>N8 (yc0 _ _ _ _ _ _) fun c=>qw4 _ _ _
  split
  ·refine N8 (wg0 _ _) fun x=>?_
   split
   ·exact R6
   ·exact N8 (qw4 _ _ _) fun _=>last _
  ·exact last _
 ·exact qo3
theorem wy4(env:Env)(e:Value):Dk (leaving env e):=N8 (yq5 _ _) fun _=>qr3 _ _
variable{cls:Value}
section
variable{T:Addr}{o:HO}{l:List Env}
theorem O8.lies(x:O8 P w H h a o):∃ u,h.get? a=some u:=by
 cases o with
 | lst xs=>obtain⟨_,_,_,_,e⟩:=x;exact⟨_,e⟩
 | tup xs=>obtain⟨_,_,_,_,e,_⟩:=x;exact⟨_,e⟩
 | dK kvs=>obtain⟨_,_,_,_,o,_,_,e,_⟩:=x;exact⟨_,e⟩
 | dT kvs=>obtain⟨_,_,_,_,o,_,_,e,_⟩:=x;exact⟨_,e⟩
 | set S n=>obtain⟨o,_,_,_,e,_⟩:=x;exact⟨_,e⟩
 | ins C dx fs=>obtain⟨_,_,_,e,_⟩:=x;exact⟨_,e⟩
 | own y=>obtain⟨_,e⟩:=x;exact⟨_,e⟩
 | xd fs=>obtain⟨_,⟨_,_,_,e,_⟩,_⟩:=x;exact⟨_,e⟩
 | rng lo hi=>obtain⟨_,_,_,e⟩:=x;exact⟨_,e⟩
 | frz ob u=>obtain⟨e,_⟩:=x;exact⟨_,e⟩
 | tbl ps=>exact⟨_,(show h.get? a=some _ from x)⟩
 | met f y=>exact⟨_,(show h.get? a=some _ from x)⟩
 | ext φ=>obtain⟨_,⟨_,e⟩,_⟩:=x;exact⟨_,e⟩
theorem HOk.gone(x:HOk P w H h)(e:h.get? a=none):H a=none:=by
 cases q:H a with
 | none=>rfl
 | some u =>
   obtain⟨v,z⟩:=(x a u q).lies
   rw[e] at z;cases z
structure Aw(l:List Env)(a T:Addr)(h h':Heap):Prop where
 keep:∀ b o,h.get? b=some o->b≠a->b≠T->b∉frs l->h'.get? b=some o
 slot:∀ b o,h.get? b=some o->b∈frs l->∃ sl,h'.get? b=some {o with slots:=sl}
theorem Un.away(u:Un (frs l) [] H H' h h1)(na:h.get? a=none)(nT:h.get? T=none)(w:Aw l a T h1 h2):Un (frs l) [] H H' h h2:=by
 have ne:∀ {b o c},h.get? b=some o->h.get? c=none->b≠c:=fun e n z=>by rw[z,n] at e;cases e
 refine⟨fun b o q n hb hx=>w.keep b o (u.keep b o q n hb hx) (ne q na) (ne q nT) hb,fun b o q n hb hx=>?_,u.free,fun b o q hx=>?_,u.tups,u.frzs,u.tbls⟩
 ·obtain⟨sl,e⟩:=u.slot b o q n hb hx
  obtain⟨sl',e'⟩:=w.slot b _ e hb
  exact⟨sl',e'⟩
 ·obtain⟨o',e⟩:=u.there b o q hx
  by_cases hb:b∈frs l
  ·obtain⟨sl,e'⟩:=w.slot b o' e hb
   exact⟨_,e'⟩
  ·exact⟨o',w.keep b o' e (ne q na) (ne q nT) hb⟩
theorem HOk.away(x:HOk P w H h1)(nf:∀ b∈frs l,H b=none)(na:H a=none)(nT:H T=none)(y:Aw l a T h1 h2):HOk P w H h2:=fun b u e=>by
 have ne:∀ {b o c},H b=some o->H c=none->b≠c:=fun e n z=>by rw[z,n] at e;cases e
 refine(x b u e).stay (fun c v hc q=>?_) (fun _ q=>q) fun _ _ q=>q
 have hs:∃ o,H c=some o:=by
  rcases hc with rfl|hc
  ·exact⟨_,e⟩
  ·exact⟨_,hc⟩
 obtain⟨o,e'⟩:=hs
 exact y.keep c v q (ne e' na) (ne e' nT) fun hb=>by rw[nf c hb] at e';cases e'
theorem Aj4{B:Heap}:∀ {l:List Env},h.FunFrames base l->(∀ b∈frs l,B.get? b=none)->(∀ b o,h.get? b=some o->b∈frs l->∃ sl,h1.get? b=some {o with slots:=sl})->h1.FunFrames B l:=by
 intro l
 induction l with
 | nil=>intro _ _ _;trivial
 | cons env r ih =>
   intro hl hB hs
   obtain⟨hk,⟨L,o,hf,hn,ho,hd⟩,hr⟩:=hl
   have sub:∀ b∈frs r,b∈frs (env::r):=fun b hb=>by unfold frs;rw[List.filterMap_cons,hf];exact List.mem_cons_of_mem _ hb
   have hL:L∈frs (env::r):=by unfold frs;rw[List.filterMap_cons,hf];exact List.mem_cons_self
   obtain⟨sl,e⟩:=hs L o ho hL
   exact⟨hk,⟨L,_,hf,hB L hL,e,hd⟩,ih hr (fun b hb=>hB b (sub b hb)) fun b o q hb=>hs b o q (sub b hb)⟩
structure Trc(h h':Heap)(H:Hp)(a:Addr)(cls:Value)(od:Option Addr):Prop where
 new:h.get? a=none
 nH:H a=none
 ex:∃ oe vs a0 T oT ts,h'.get? a=some oe/\oe.cls=cls/\vs[0]?=some a0/\oe.data=Data.fields vs/\vs[1]?=some (Value.ref T)/\T≠a/\h'.get? T=some oT/\oT.data=Data.fields ts/\ts[3]?=some Value.none/\h.get? T=none/\H T=none/\oe.dict=od
def Fly(P:Program)(w:World):CXT:=fun outer H s E e s' =>
 ∃ a cls od H',e=Value.ref a/\0<s'.toks/\s'.os=s.os/\AllBare s'.gens/\Un (frs outer) [] H H' s.heap s'.heap/\HOk P w H' s'.heap/\Trc s.heap s'.heap H' a cls od/\E cls od H'
abbrev qr4(h:Heap)(a T:Addr)(l:List Env):Heap:=PySem.W.hideAll h (a::T::frs l)
theorem wd6(h:Heap)(a T:Addr)(l:List Env):(qr4 h a T l).StaysIn h:=fun b o e=>PySem.W.of_hideAll _ e
theorem yk6:(qr4 h a T l).get? a=none:=PySem.W.hideAll_none _ (by simp)
theorem zf0:(qr4 h a T l).get? T=none:=PySem.W.hideAll_none _ (by simp)
theorem xu3:∀ b∈frs l,(qr4 h a T l).get? b=none:=fun b hb=>PySem.W.hideAll_none _ (by simp[hb])
theorem zf1(hs:(qr4 h a T l).StaysIn h2)(hf:∀ b o,h.get? b=some o->(∀ vs:Array Value,o.data≠Data.fields vs)->∃ sl,h2.get? b=some {cls:=o.cls,dict:=o.dict,data:=o.data,slots:=sl})(ff:h.FunFrames base l):Aw l a T h h2:=by
 refine⟨fun b o e n1 n2 n3=>hs b o (PySem.W.hideAll_get _ e (by simp[n1,n2,n3])),fun b o e hb=>?_⟩
 obtain⟨_,o',e',d⟩:=ff.mem hb
 rw[e] at e';cases e'
 exact hf b _ e d
theorem zf2{a0:Value}{h0:Heap}(new:h0.get? a=none)(nH:H a=none)(nT0:h0.get? T=none)(nT:H T=none)(hu:∀ b o,h0.get? b=some o->∃ o',h.get? b=some o')(hok:HOk P w H h)(ff:h2.FunFrames base l)(t:h2.TracedW (qr4 h a T l) a cls a0)(hd:∀ o,h2.get? a=some o->o.dict=od):Trc h0 h2 H a cls od:=by
 obtain⟨oe,vs,T',oT,ts,e1,⟨e2,e3⟩,e4,e5,e6,e7,e8,e9,e10⟩:=t
 have q:h0.get? T'=none/\H T'=none:=by
  by_cases z:T'=T
  ·rw[z];exact⟨nT0,nT⟩
  ·have hb:T'∉frs l:=fun hb=>by
    obtain⟨_,o,eo,d⟩:=ff.mem hb
    rw[e8] at eo;cases eo
    exact d _ e9
   have hh:h.get? T'=none:=by
    cases q:h.get? T' with
    | none=>rfl
    | some u =>
      have:=PySem.W.hideAll_get (a::T::frs l) q (by simp[z,e7,hb])
      rw[e6] at this;cases this
   refine⟨?_,hok.gone hh⟩
   cases q:h0.get? T' with
   | none=>rfl
   | some u =>
     obtain⟨_,r⟩:=hu _ _ q
     rw[hh] at r;cases r
 exact⟨new,nH,oe,vs,a0,T',oT,ts,e1,e2,e3,e4,e5,e7,e8,e9,e10,q.1,q.2,hd _ e1⟩
end
variable{d:Drawn}{Q':Value->Shared->Prop}
section
variable{E:XK}
theorem zf3(I:Inv X pins σ H s)(u:Un (frs X.stack) [] H H' s.heap h'):∀ b∈frs X.stack,H' b=none:=fun b hb=>by
 obtain⟨_,o,e,_⟩:=I.stack.mem hb
 exact u.free b o e (I.stkFree b hb) (by simp)
theorem yk7(I:Inv X pins σ H s){B:Heap}(u:Un (frs X.stack) [] H H' s.heap h')(hB:∀ b∈frs X.stack,B.get? b=none):h'.FunFrames B X.stack :=
 Aj4 I.stack hB fun b o e hb=>u.slot b o e (I.stkFree b hb) hb (by simp)
theorem Inv.landed{T:Addr}{g:Array GenState}{t:Nat}(I:Inv X pins σ H s)(u:Un (frs X.stack) [] H H' s.heap s'.heap)(hok:HOk X.prog X.w H' s'.heap)(hg:AllBare g)(ht:0<t)(na:s.heap.get? a=none)(nT:s.heap.get? T=none)(ha:H' a=none)(hT:H' T=none)(w:Aw X.stack a T s'.heap h2):Inv X pins σ H' {s with heap:=h2,gens:=g,drawn:=d,toks:=t} :=
 I.call (ch:=[]) (u.away na nT w) (hok.away (zf3 I u) ha hT w) hg (fun b z=>absurd z (by simp)) ht
def zf4(X:Cx)(E:XK):Prop:=∀ (pins:List (Addr×Obj)) (σ:St) (H:Hp) (s:Shared) (h':Heap) (a:Addr) (cls:Value) (vs:List Value),Inv X pins σ H s->s.heap.MadeExcOf h' a cls vs->E cls none H->X.xe (.ref a) {s with heap:=h'}
theorem wy5{t:Addr}(hst:X.stack=X.env::X.outer)(hex:X.ex=[])(hf:X.env.frame=some X.env.locals)(I:Inv X pins σ H s)(u:Un (frs X.stack) [] H H' s.heap s'.heap)(hok:HOk X.prog X.w H' s'.heap)(tk:0<s'.toks)(os:s'.os=s.os)(bare:AllBare s'.gens)(new:s.heap.get? a=none)(na:H' a=none)(e1:s'.heap.get? a=some {cls:=cls,dict:=od,data:=.fields #[.ref t,.none,.none,.none,.bool false,.none]})(hE:E cls od H') :
 wpAny (model X.prog X.w) X.A (leaving X.env (.ref a)) (fun _ s''=>Fly X.prog X.w X.outer X.H₀ X.s₀ E (.ref a) s'') Q' s':=by
 have ff:s'.heap.FunFrames (qr4 s'.heap a a X.stack) X.stack:=yk7 I u xu3
 refine wpAny_mono (wx9 (wy4 _ _) (wx8.of e1 rfl) (wpAny_leaving_firstW (Q:=fun _ s''=>∃ h2,s''={s' with heap:=h2}/\Heap.LeftW (qr4 s'.heap a a X.stack) (X.env::X.outer) a cls (.ref t) s'.heap h2) (base:=qr4 s'.heap a a X.stack) (outer:=X.outer) (L:=X.env.locals) (a0:=Value.ref t) (by rw[I.ok.frames,hst]) (by rw[<-hst];exact ff) hf e1 (wd6 _ _ _ _) yk6 rfl rfl rfl fun h2 L=>⟨h2,rfl,L⟩)) (fun _ s2 h=>?_) fun _ _ h=>h
 obtain⟨⟨h2,rfl,L⟩,hD⟩:=h
 rw[<-hst] at L
 obtain⟨L1,L2,L3,L4⟩:=L
 have aw:Aw X.stack a a s'.heap h2:=zf1 L1 L4 ff
 have J:Inv X pins σ H' {s with heap:=h2,gens:=s'.gens,drawn:=s'.drawn,toks:=s'.toks}:=I.landed u hok bare tk new new na na aw
 have hs0:∀ b o,X.s₀.heap.get? b=some o->∃ o',s.heap.get? b=some o':=fun b o e=>I.base.there b o e (by rw[hex];simp)
 have new0:X.s₀.heap.get? a=none:=by
  cases q:X.s₀.heap.get? a with
  | none=>rfl
  | some o=>obtain⟨_,r⟩:=hs0 a o q;rw[new] at r;cases r
 refine⟨a,cls,od,H',rfl,tk,os.trans I.os,bare,?_,J.hok,zf2 new0 na new0 na (fun b o e=>?_) hok L2 L3 (fun o g=>hD.at g),hE⟩
 ·have:=J.base;rw[hex] at this;exact this
 ·obtain⟨o',r⟩:=hs0 b o e
  exact u.there b o' r (by simp)
theorem yx5{vs:List Value}(hst:X.stack=X.env::X.outer)(hex:X.ex=[])(hf:X.env.frame=some X.env.locals)(I:Inv X pins σ H s)(m:s.heap.MadeExcOf h' a cls vs)(hE:E cls none H) :
 wpAny (model X.prog X.w) X.A (leaving X.env (.ref a)) (fun _ s''=>Fly X.prog X.w X.outer X.H₀ X.s₀ E (.ref a) s'') Q' {s with heap:=h'}:=by
 obtain⟨t,e1,e2,e3⟩:=m.there
 exact wy5 (s':={s with heap:=h'}) hst hex hf I (Un.kept m.keeps) (I.hok.kept m.keeps) I.tk rfl I.bare m.new (I.hok.gone m.new) e1 hE
theorem zf5{e:Value}(hst:X.stack=X.env::X.outer)(hex:X.ex=[])(hf:X.env.frame=some X.env.locals)(I:Inv X pins σ H s)(F:Fly X.prog X.w X.stack H s E e s') :
 wpAny (model X.prog X.w) X.A (leaving X.env e) (fun _ s''=>Fly X.prog X.w X.outer X.H₀ X.s₀ E e s'') Q' s':=by
 obtain⟨a,cls,od,H',rfl,tk,os,bare,u,hok,tr,hE⟩:=F
 obtain⟨oe,vs,a0,T,oT,ts,e1,e2,e3,e4,e5,e6,e7,e8,e9,e10,e11,e12⟩:=tr.ex
 have ff:s'.heap.FunFrames (qr4 s'.heap a T X.stack) X.stack:=yk7 I u xu3
 refine wpAny_mono (wx9 (wy4 _ _) (wx8.of e1 e12) (wpAny_leaving_nextW (Q:=fun _ s''=>∃ h2,s''={s' with heap:=h2}/\Heap.LeftW (qr4 s'.heap a T X.stack) (X.env::X.outer) a cls a0 s'.heap h2) (base:=qr4 s'.heap a T X.stack) (outer:=X.outer) (L:=X.env.locals) (cls:=cls) (a0:=a0) (by rw[I.ok.frames,hst]) (by rw[<-hst];exact ff) hf ⟨oe,vs,T,oT,ts,e1,⟨e2,e3⟩,e4,e5,zf0,e6,e7,e8,e9⟩ (wd6 _ _ _ _) yk6 fun h2 L=>⟨h2,rfl,L⟩)) (fun _ s2 h=>?_) fun _ _ h=>h
 obtain⟨⟨h2,rfl,L⟩,hD⟩:=h
 rw[<-hst] at L
 obtain⟨L1,L2,L3,L4⟩:=L
 have aw:Aw X.stack a T s'.heap h2:=zf1 L1 L4 ff
 have J:Inv X pins σ H' {s with heap:=h2,gens:=s'.gens,drawn:=s'.drawn,toks:=s'.toks}:=I.landed u hok bare tk tr.new e10 tr.nH e11 aw
 have hs0:∀ b o,X.s₀.heap.get? b=some o->∃ o',s.heap.get? b=some o':=fun b o e=>I.base.there b o e (by rw[hex];simp)
 have new0:∀ c,s.heap.get? c=none->X.s₀.heap.get? c=none:=fun c n=>by
  cases q:X.s₀.heap.get? c with
  | none=>rfl
  | some o=>obtain⟨_,r⟩:=hs0 c o q;rw[n] at r;cases r
 refine⟨a,cls,od,H',rfl,tk,os.trans I.os,bare,?_,J.hok,zf2 (new0 a tr.new) tr.nH (new0 T e10) e11 (fun b o e=>?_) hok L2 L3 (fun o g=>hD.at g),hE⟩
 ·have:=J.base;rw[hex] at this;exact this
 ·obtain⟨o',r⟩:=hs0 b o e
  exact u.there b o' r (by simp)
end
section
variable{f:Addr}{E:XK}
theorem wk3:zf4 (wa7 (Fly P w) P w K mg base N qual scope f cd A outer s H E) E:=fun pins σ H1 s1 h' a cls vs I m hE =>
 yx5 (X:=wa7 (Fly P w) P w K mg base N qual scope f cd A outer s H E) rfl rfl rfl I m hE
def yq6(X:Cx)(E:XK):Prop:=∀ (pins:List (Addr×Obj)) (σ:St) (H H':Hp) (s s':Shared) (a t:Addr) (cls:Value) (od:Option Addr),Inv X pins σ H s->Un (frs X.stack) [] H H' s.heap s'.heap->HOk X.prog X.w H' s'.heap->0<s'.toks->s'.os=s.os->AllBare s'.gens->s.heap.get? a=none->H' a=none ->
 s'.heap.get? a=some {cls:=cls,dict:=od,data:=.fields #[.ref t,.none,.none,.none,.bool false,.none]}->E cls od H'->X.xe (.ref a) s'
theorem yk8:yq6 (wa7 (Fly P w) P w K mg base N qual scope f cd A outer s H E) E:=fun pins σ H1 H2 s1 s2 a t cls od I u hok tk os bare new na e1 hE =>
 wy5 (X:=wa7 (Fly P w) P w K mg base N qual scope f cd A outer s H E) rfl rfl rfl I u hok tk os bare new na e1 hE
theorem qb1:ww2 (Fly P w) (wa7 (Fly P w) P w K mg base N qual scope f cd A outer s H E) E:=fun pins σ H1 s1 e s' I F =>
 zf5 (X:=wa7 (Fly P w) P w K mg base N qual scope f cd A outer s H E) rfl rfl rfl I F
theorem Ab5:PassesOwn (model P w) (wa7 (Fly P w) P w K mg base N qual scope f cd A outer s H E).A (wa7 (Fly P w) P w K mg base N qual scope f cd A outer s H E).env (wa7 (Fly P w) P w K mg base N qual scope f cd A outer s H E).xe :=
 PassesOwn.leaving
theorem Fun.okX{k:Nat}(F:Fun K x qual st f fd)(S:D7 N ps (B4 st))(len:∀ vs H Q E,sp vs H Q E->vs.length=ps.length) (hbody:∀ (cdv:Value) (A:Around) (outer:List Env) (s:Shared) (H:Hp) (vs:List V) (Q:VK) (E:XK),qd6 k (A.deeper (envOfC qual (B4 st) s.heap.objs.size f cdv))->sp vs H Q E ->
  ∃ t,PSs (wa7 (Fly P w) P w K mg base N qual (B4 st) f cdv A outer s H E) (qq7 st) t/\t {nx:=fun _ H'=>Q .non H',rt:=Q} (J0 N vs) H):M0 P w K mg base (Fly P w) (k+1) f fd ps sp:=by
 obtain⟨oc,od,kV,doc,pm,an,cdv,ct,osl,rfl,lk,hcd⟩:=F.ex
 exact zt4 lk hcd S len fun A outer s H vs Q E hr hsp=>hbody cdv A outer s H vs Q E hr hsp
end
abbrev bmV:List Value:=[Value.type "ValueError",Value.type "Exception",Value.type "BaseException",Value.type "object"]
structure Aj5(K:Fg)(mg:Str->Option Value)(x:Str)(C:Addr):Prop where
 mx:mg x=some (.ref C)
 ix:PySem.W.excIn K C bmV "ValueError.__new__"=true
variable{bmB:List Value}{newId:String}
theorem zp0(X:K.In h)(q:PySem.W.excIn K C bmB newId=true) :
 ∃ bm N nm qn bs hd sn sub ab col dd k0 k1 k2 k3 k5 mN,h.get? C=some (excClassObj nm qn C N bs bm hd sn sub ab col dd k0 k1 k2 k3 k5 newId)/\h.Ns N mN/\mN "__init__"=none/\OwnTail h bmB bm:=by
 revert q
 unfold PySem.W.excIn
 split
 next dd cd sl ho =>
  split
  next C' bm k0 k1 k2 k3 n k5 hm hs =>
   intro q
   simp only[Bool.and_eq_true,beq_iff_eq,Bool.not_eq_true'] at q
   obtain⟨⟨⟨⟨⟨q1,q2⟩,q3⟩,q4⟩,q5⟩,q6⟩:=q
   subst q1 q2
   cases cd
   simp only at hm q3 q5 q6
   subst hm q3
   obtain⟨sl⟩:=sl
   simp only at hs
   subst hs
   exact⟨bm,_,_,_,_,_,_,_,_,_,dd,k0,k1,k2,k3,k5,_,X _ _ ho,.of_isNs (PySem.W.isNs_of_in X q5),PySem.W.nsMap_none_of_in X q5 q6,PySem.W.tail_of_in X q4⟩
  next=>intro q;cases q
 next=>intro q;cases q
variable{e₀:Expr}{np:Pos}
section
variable{t:TA}{E:XK}
def xu4(C:Addr)(E:XK)(t:TA):TS:=fun _ σ H=>t σ H fun vs H1=>vs.length<=sizeLine/\E (.ref C) none H1
theorem wy6(hx:zf4 X E)(hg:Gl X x)(O:Aj5 X.K X.mg x C)(hc:X.calm=true)(ha:PA X (e₀::es) t)(hdb:autoParam ((x == ("__debug__":Str))=false) zAd)(he:autoParam (starEach (e₀::es) X.env=(false,eval e₀ X.env)::starEach es X.env) zAr)(hpl:autoParam ((backTo cpos (starEach es X.env)).any (·.1)=false) zAr) :
 PS X (.Raise (some (.Call (.Name x np) (e₀::es) [] cpos)) none pos) (xu4 C E t):=by
 intro pins s σ H D I h
 obtain⟨bm,N,nm,qn,bs,hd,sn,sub,ab,col,dd,k0,k1,k2,k3,k5,mN,c1,c2,c3,c4⟩:=zp0 I.ok.mod.kin O.ix
 refine wpAny_Raise_call_subT (k5:=k5) (k3:=k3) (k2:=k2) (k1:=k1) (k0:=k0) (dd:=dd) (col:=col) (ab:=ab) (sub:=sub) (sn:=sn) (hdct:=hd) (bs:=bs) (nm:=nm) (q:=qn) (C:=C) (N:=N) (bm:=bm) (mN:=mN) F.excBase_ValueError (c4.hasType F.excBase_ValueError.hasBase) (I.ok.hd hc) (by rw[he];show(false || (backTo cpos (starEach es X.env)).any (·.1))=false;rw[hpl];rfl) c3 (qq4 I hg O.mx ⟨rfl,?_⟩ hdb)
 have A:=ha cpos pins s σ H _ I h
 rw[he] at A ⊢
 refine Calls.evalArgs_plain (thn A fun us s1 zq=>?_)
 obtain⟨vs,H1,I1,r,q1,q2⟩:=zq
 exact⟨rfl,by rw[<-r.length];exact q1,I1.bk _ _ c1,c2.keeps I1.bk,c4.keeps I1.bk,fun h' a m=>hx pins σ H1 s1 h' a _ us I1 m q2⟩
end
abbrev Cx.held(X:Cx)(a:Addr)(E:Value->Shared->Prop):Cx:={X with A:=X.A.mark (some (.ref a)),calm:=false,xe:=E}
theorem Cx.Ok.held(ok:X.Ok)(a:Addr)(E:Value->Shared->Prop):(X.held a E).Ok :=
 ⟨ok.mod,ok.kind,ok.glob,ok.blt,ok.above,ok.inj,ok.has,ok.cab,(fun z=>Bool.noConfusion z),ok.frames,ok.stk,ok.exf,ok.bs,ok.bsz,ok.noex,ok.exfs,ok.funs,ok.frf⟩
theorem Inv.held(I:Inv X pins σ H s)(a:Addr)(E:Value->Shared->Prop):Inv (X.held a E) pins σ H s:=⟨I.ok.held a E,I.os,I.bare,I.base,I.loc,I.cell,I.free,I.freeC,I.pin,I.hok,I.len,I.tk⟩
theorem Inv.unheld(ok:X.Ok)(I:Inv (X.held a E) pins σ H s):Inv X pins σ H s:=⟨ok,I.os,I.bare,I.base,I.loc,I.cell,I.free,I.freeC,I.pin,I.hok,I.len,I.tk⟩
theorem SP.unheld{f:Flow}(ok:X.Ok)(h:SP (X.held a E) pins D f s'):SP X pins D f s':=by
 cases f with
 | next=>obtain⟨σ',H',I,q⟩:=h;exact⟨σ',H',I.unheld ok,q⟩
 | brk=>obtain⟨σ',H',I,q⟩:=h;exact⟨σ',H',I.unheld ok,q⟩
 | cont=>obtain⟨σ',H',I,q⟩:=h;exact⟨σ',H',I.unheld ok,q⟩
 | ret u=>obtain⟨v,σ',H',I,r,q⟩:=h;exact⟨v,σ',H',I.unheld ok,r,q⟩
def PX(X:Cx)(e:Expr)(t:XK->TE):Prop :=
 ∀ (pins:List (Addr×Obj)) (s:Shared) (σ:St) (H:Hp) (Q:VK) (E:XK) (xe':Value->Shared->Prop),Inv X pins σ H s->(∀ H1 s1 e s2,Inv X pins σ H1 s1->Fly X.prog X.w X.stack H1 s1 E e s2->xe' e s2)->t E σ H Q ->
  wpAny (model X.prog X.w) X.A (eval e X.env) (EP X pins σ Q) xe' s
section
variable{k:Nat}{f D:Addr}{dvs:List V}{ds:List Value}{p:Pos}{t:TA}
theorem zp1(F:M0 X.prog X.w X.K X.mg X.base (Fly X.prog X.w) k f fd ps sp)(hr:qd6 k X.A)(hg:Gl X x)(hm:X.mg x=some (.ref f))(hk:PySem.W.keepIn X.K (.ref f)=true)(hb:wf1 X.K fd ps ds)(hd:J9 dvs ds)(ha:∀ xe',PA (X.wish xe') (e::es) t)(hdb:autoParam ((x == ("__debug__":Str))=false) zAd)(he:autoParam (starEach (e::es) X.env=(false,eval e X.env)::starEach es X.env) zAr)(hpl:autoParam ((backTo pos (starEach es X.env)).any (·.1)=false) zAr) :
 PX X (.Call (.Name x p) (e::es) [] pos) (fun E=>C2 sp dvs E t):=by
 intro pins s σ H Q E xe' I hx h
 refine wpAny_Call_Name_kw (qq4 I hg hm ?_ hdb)
 refine PySem.W.callWith_K (h₀:=X.base) I.ok.mod.kin hk (thn (ha xe' pos pins s σ H _ (I.wish xe') h) fun us s1 ⟨vs,H1,I1,r,q⟩=>⟨I1.kIn,?_⟩) he hpl
 have J:=I1.unwish
 have r2:J9 (vs++dvs) (us++ds):=r.append hd
 have hl:(us++ds).length=ps.length:=by rw[<-r2.length];exact F.len _ _ _ _ q
 refine wpAny_call (codeAny_mono (F.run X.A X.stack s1 H1 ⟨us,[]⟩ (us++ds) (vs++dvs) Q E hr J.env0 (hb s1 us J.kIn hl) r2 q) fun r s' hq=>?_)
 cases r with
 | error e=>exact hx H1 s1 e s' J hq
 | ok fl =>
   cases fl with
   | ret u=>exact J.after hq
   | next=>exact False.elim hq
   | brk=>exact False.elim hq
   | cont=>exact False.elim hq
theorem Aj6{E:XK}{e:Value}{hs:List ExceptHandler}{Q:Flow->Shared->Prop}{E':Value->Shared->Prop}(hst:X.stack=X.env::X.outer)(hf:X.env.frame=some X.env.locals)(I:Inv X pins σ H s)(F:Fly X.prog X.w X.stack H s E e s') (k:∀ a cls od H' s2,e=.ref a->s.heap.get? a=none->E cls od H'->Inv X pins σ H' s2->(∃ oe,s2.heap.get? a=some oe/\oe.cls=cls) ->
  (∀ (A:Around) (E2:Value->Shared->Prop) (Q2:Unit->Shared->Prop),(∀ s3,Inv X pins σ H' s3->(∃ oe,s3.heap.get? a=some oe/\oe.cls=cls/\oe.dict=od/\∃ vs,oe.data=Data.fields vs)->H' a=none->Q2 () s3)->wpAny (model X.prog X.w) A (setFlight (.ref a) none) Q2 E2 s2) ->
  wpAny (model X.prog X.w) X.A (handleBy (.ref a) X.env hs) Q E' s2) :
 wpAny (model X.prog X.w) X.A (noteFrame e X.env) (fun _ s₂=>wpAny (model X.prog X.w) X.A (setFlight e none) (fun _ s₃=>wpAny (model X.prog X.w) X.A (handleBy e X.env hs) Q E' s₃) E' s₂) E' s':=by
 obtain⟨a,cls,od,H',rfl,tk,os,bare,u,hok,tr,hE⟩:=F
 obtain⟨oe,vs,a0,T,oT,ts,e1,e2,e3,e4,e5,e6,e7,e8,e9,e10,e11,e12⟩:=tr.ex
 have ff:s'.heap.FunFrames (qr4 s'.heap a T X.stack) X.stack:=yk7 I u xu3
 have W:(qr4 s'.heap a T X.stack).FlyingW X.stack a cls a0 s'.heap:=⟨wd6 _ _ _ _,yk6,ff,oe,vs,T,oT,ts,e1,⟨e2,e3⟩,e4,e5,zf0,e6,e7,e8,e9⟩
 have inv:∀ {h2:Heap},(qr4 s'.heap a T X.stack).FlyingW X.stack a cls a0 h2->s'.heap.UpToSlots h2->Inv X pins σ H' {s' with heap:=h2}:=fun{h2} W2 U2=>by
  have aw:Aw X.stack a T s'.heap h2:=zf1 W2.1 U2 ff
  have J:=I.landed (g:=s'.gens) (d:=s'.drawn) (t:=s'.toks) u hok bare tk tr.new e10 tr.nH e11 aw
  obtain⟨hh,g,d,t,os'⟩:=s'
  obtain rfl:os'=s.os:=os
  exact J
 refine wpAny_mono (wx9 (yq5 _ _) (wx8.of e1 e12) (wpAny_looks_onW (Q:=fun _ s2=>∃ h1,s2={s' with heap:=h1}/\Heap.HeldW (qr4 s'.heap a T X.stack) (X.env::X.outer) a cls a0 X.env.locals h1/\s'.heap.UpToSlots h1) (base:=qr4 s'.heap a T X.stack) (outer:=X.outer) (by rw[I.ok.frames,hst]) hf (by rw[<-hst];exact W) fun h1 W1 U1=>⟨h1,rfl,W1,U1⟩)) (fun _ sA h=>?_) fun _ _ h=>h
 obtain⟨⟨h1,rfl,W1,U1⟩,D1⟩:=h
 refine wpAny_mono (wx9 (qr3 _ _) D1 (wpAny_landsW (s:={s' with heap:=h1}) (Q:=fun _ s2=>∃ h2,s2={s' with heap:=h2}/\Heap.FlyingW (qr4 s'.heap a T X.stack) (X.env::X.outer) a cls a0 h2/\h1.UpToSlots h2) W1 fun h2 W2 U2=>⟨h2,rfl,W2,U2⟩)) (fun _ sB h=>?_) fun _ _ h=>h
 obtain⟨⟨h2,rfl,W2,U2⟩,D2⟩:=h
 rw[<-hst] at W2
 have U12:=U1.trans U2
 refine k a cls od H' _ rfl tr.new hE (inv W2 U12) ?_ fun A E2 Q2 hQ=>wpAny_mono (wx9 (qr3 _ _) D2 (lands_againW (s:={s' with heap:=h2}) (Q:=fun _ s3=>∃ h3,s3={s' with heap:=h3}/\Heap.FlyingW (qr4 s'.heap a T X.stack) X.stack a cls a0 h3/\h2.UpToSlots h3) W2 fun h3 W3 U3=>⟨h3,rfl,W3,U3⟩)) (fun _ sC h=>?_) fun _ _ h=>h
 ·obtain⟨oe',vs',T',oT',ts',f1,⟨f2,f3⟩,_⟩:=W2.2.2.2
  exact⟨oe',f1,f2⟩
 ·obtain⟨⟨h3,rfl,W3,U3⟩,D3⟩:=h
  refine hQ _ (inv W3 (U12.trans U3)) ?_ tr.nH
  obtain⟨oe',vs',T',oT',ts',f1,⟨f2,f3⟩,f4,_⟩:=W3.2.2.2
  exact⟨oe',f1,f2,D3.at f1,vs',f4⟩
end
structure wy7(K:Fg)(C:Addr):Prop where
 ga:PySem.W.findIn K (.ref C) "__getattribute__"=some (some (.builtin "BaseException.__getattribute__"))
 gn:PySem.W.findIn K (.ref C) "__getattr__"=some none
 cl:PySem.W.findIn K (.ref C) "__class__"=some (some (.builtin "object.__class__"))
 bx:PySem.W.subIn K (.ref C) (.type "BaseException")=some true
 ob:PySem.W.subIn K (.ref C) (.type "object")=some true
variable{os:OsState}{nameV:Value}{tk:Tok}{B:String}
section
variable{g:Array GenState}{t:Nat}{o:Obj}
theorem zf6{R:Result->Shared->Prop}(X:K.In h)(Z:wy7 K C)(hx:h.get? a=some o)(hc:o.cls=.ref C)(hq:R (.ok (.ret (.ref C))) ⟨h,g,d,t,os⟩) :
 codeAny (model prog w) A (.call (.builtin "getset_descriptor.__get__") ⟨[.builtin "object.__class__",.ref a,.ref C],[]⟩) R ⟨h,g,d,t,os⟩:=by
 have hT5:(⟨h,g,d,t,os⟩:Shared).TypeIs (.builtin "object.__class__") "getset_descriptor":=F.typeOf_object_class
 have L:=PySem.W.looks_subIn (M:=model prog w) X Z.ob
 rw[<-F.owner_object_class] at L
 refine codeAny_call_builtin F.slot_gs_get.plain F.entry_gs_get (F.slot_gs_get.check _ _ _ _ _ _ _ _ hT5 (F.args_gs_get _ _ _) ?_)
 repeat (any_goals (first|assumption|(with_reducible refine wpAny_loadPart_at hx ?_;rw[hc])|with_reducible refine L.at ?_|wp_step))
 refine⟨Code.quiet_builtin _ (by decide +kernel),codeAny_builtin F.entry_object_class ?_⟩
 repeat (any_goals (first|assumption|(with_reducible refine wpAny_loadPart_at hx ?_;rw[hc])|wp_step))
theorem wy8{Q:Unit->Shared->Prop}(X:K.In h)(Z:wy7 K C)(hx:h.get? a=some o)(hc:o.cls=.ref C)(hq:Q () ⟨h,g,d,t,os⟩) :
 wpAny M A (checkBuiltinCall "BaseException.__getattribute__" ⟨[.ref a,nameV],[]⟩) Q E ⟨h,g,d,t,os⟩:=by
 have hk:builtinKind "BaseException.__getattribute__"=some .slot:=by decide +kernel
 have hs:splitId "BaseException.__getattribute__"=some ("BaseException","__getattribute__"):=by decide +kernel
 have L:=PySem.W.looks_subIn (M:=M) X Z.bx
 have ha:=F.args_bexc_ga (.ref a) nameV
 simp only[checkBuiltinCall,hk,hs]
 refine wpAny_bind ?_
 ·unfold isInstance
  repeat (first|(with_reducible refine wpAny_loadPart_at hx ?_;rw[hc])|with_reducible refine L.at ?_|wp_step)
  exact hq
theorem yk9{Q:Fin->Shared->Prop}(X:K.In h)(Z:wy7 K C)(hx:h.get? a=some o)(hc:o.cls=.ref C)(hq:Q (.done (.ret (.ref C))) ⟨h,g,d,t,os⟩) :
 wpAny (model prog w) A (Builtin.«object.__getattribute__» ⟨[.ref a,.str "__class__" tk],[]⟩) Q E ⟨h,g,d,t,os⟩:=by
 have hT5:(⟨h,g,d,t,os⟩:Shared).TypeIs (.builtin "object.__class__") "getset_descriptor":=F.typeOf_object_class
 have f5:=F.typeOf_object_class
 have f6:=F.slot_gs_get.lookup
 have f7:=F.slot_gs_set.lookup
 have L:=PySem.W.looks_findIn (M:=model prog w) X Z.cl
 repeat (any_goals (first|assumption|(with_reducible refine wpAny_loadPart_at hx ?_;rw[hc])|with_reducible refine L.at ?_|wp_step))
 refine zf6 X Z hx hc ?_
 repeat (any_goals (first|assumption|wp_step))
theorem yx6{R:Result->Shared->Prop}(FB:ExcAttrFacts B)(X:K.In h)(Z:wy7 K C)(hx:h.get? a=some o)(hc:o.cls=.ref C)(hq:R (.ok (.ret (.ref C))) ⟨h,g,d,t,os⟩) :
 codeAny (model prog w) A (.call (.builtin "BaseException.__getattribute__") ⟨[.ref a,.str "__class__" tk],[]⟩) R ⟨h,g,d,t,os⟩ :=
 codeAny_call_builtin FB.ga.plain F.entry_bexc_ga (wy8 X Z hx hc (yk9 X Z hx hc hq))
theorem zp2(FB:ExcAttrFacts B)(X:K.In h)(Z:wy7 K C)(hx:h.get? a=some o)(hc:o.cls=.ref C)(hq:Q (.ref C) ⟨h,g,d,t,os⟩) :
 wpAny (model prog w) A (getAttrBy (.ref a) (.str "__class__" tk) false) Q E ⟨h,g,d,t,os⟩:=by
 have f3:=FB.ga.bind (.ref a)
 have hx0:(false && onTheHeap (Value.builtin "BaseException.__getattribute__"))=false:=rfl
 have hx2:(Value.builtin "BaseException.__getattribute__" == Value.builtin "object.__getattribute__")=false:=by decide +kernel
 have hx1:(onTheHeap (Value.ref C) && Value.builtin "BaseException.__getattribute__" == Value.builtin "object.__getattribute__")=false:=by rw[hx2];rfl
 have L1:=PySem.W.looks_findIn (M:=model prog w) X Z.ga
 have L2:=PySem.W.looks_findIn (M:=model prog w) X Z.gn
 repeat (any_goals (first|assumption|(with_reducible refine wpAny_loadPart_at hx ?_;rw[hc])|with_reducible refine L1.at ?_|with_reducible refine L2.at ?_|wp_step))
 refine yx6 FB X Z hx hc ?_
 repeat (any_goals (first|assumption|wp_step))
theorem yx7{Q:Option Value->Shared->Prop}(FB:ExcAttrFacts B)(X:K.In h)(Z:wy7 K C)(hx:h.get? a=some o)(hc:o.cls=.ref C)(hq:Q (some (.ref C)) ⟨h,g,d,t+1,os⟩) :
 wpAny (model prog w) A (getAttr? (.ref a) "__class__") Q E ⟨h,g,d,t,os⟩:=by
 unfold getAttr? getAttrBy?
 repeat (any_goals (first|assumption|with_reducible apply zp2 FB X Z hx hc|wp_step))
end
theorem wu9{i:Nat}{n:Str}{Q:Unit->Shared->Prop}(I:Inv X pins σ H s)(hN:X.N.Nodup)(hi:X.N[i]?=some n)(hk:X.env.scope.names.lookup n=some .local)(h:∀ s',Inv X pins (σ.set i none) H s'->Q () s'):wpAny M A (do bindName X.env n .none;unbindBehindTheSuite X.env n pos) Q E s:=by
 obtain⟨m,hn,hl⟩:=id I.loc
 have hp:(X.env.scope.kind == .class || (X.env.scope.kind == .module && X.env.locals != X.env.globals))=false:=by rw[I.ok.kind];rfl
 refine wpAny_nameGoes_keeps hk hn hp fun h' v hn' hs=>h _ ?_
 have other:∀ {b:Addr} {o:Obj},b≠X.env.locals->s.heap.get? b=some o->h'.get? b=some o:=fun nb e=>(hs.2 _ nb).trans e
 have low:∀ {b:Addr} {o:Obj},X.s₀.heap.get? b=some o->b≠X.env.locals:=fun e=>Nat.ne_of_lt (Nat.lt_of_lt_of_le (Heap.lt_size e) I.ok.above)
 have trk:∀ {b:Addr} {u:HO},H b=some u->b≠X.env.locals:=fun e z=>by rw[z,I.free] at e;cases e
 refine⟨I.ok,I.os,I.bare,⟨fun b o e z hb hx=>other (low e) (I.base.keep b o e z hb hx),fun b o e z hb hx=>?_,I.base.free,fun b o e hx=>?_,I.base.tups,I.base.frzs,I.base.tbls⟩,⟨_,hn',fun j y w e1 e2 e3=>?_⟩,fun y c e=>?_,I.free,I.freeC,fun p hp=>?_,fun b u e=>?_,?_,Nat.succ_pos _⟩
 ·obtain⟨sl,q⟩:=I.base.slot b o e z hb hx
  exact⟨sl,other (low e) q⟩
 ·obtain⟨o',q⟩:=I.base.there b o e hx
  exact⟨o',other (low e) q⟩
 ·by_cases hj:j=i
  ·subst hj
   have:=List.getElem?_set_self (l:=σ) (a:=(none:Option V)) (i:=j) (by rw[I.len];exact(List.getElem?_eq_some_iff.mp hi).1)
   rw[this] at e2;cases e2
  ·rw[List.getElem?_set_ne (Ne.symm hj)] at e2
   obtain⟨u,r,q⟩:=hl j y w e1 e2 e3
   refine⟨u,r,?_⟩
   rcases q with⟨k,e⟩|⟨k,c,e,z⟩
   ·have:y≠n:=fun e=>hj (wv3 hN e1 (e▸hi))
    exact .inl ⟨k,by simp[this,e]⟩
   ·exact .inr ⟨k,c,e,z.sameBut hs (I.cne y c e)⟩
 ·obtain⟨w,z⟩:=I.cell y c e
  exact⟨w,z.sameBut hs (I.cne y c e)⟩
 ·obtain⟨e,z,ne,nf,d⟩:=I.pin p hp
  exact⟨other ne e,z,ne,nf,d⟩
 ·refine(I.hok b u e).stay (fun c w hc q=>other ?_ q) (fun _ q=>q) fun _ _ q=>q
  rcases hc with rfl|hc
  ·exact trk e
  ·exact trk hc
 ·rw[List.length_set];exact I.len
theorem Inv.track{o:HO}(I1:Inv X pins σ H s)(na:s.heap.get? a=none)(I:Inv X pins σ H' s2)(ha:H' a=none)(hex:X.ex=[])(new:O8 X.prog X.w (upd H' a o) s2.heap a o):Inv X pins σ (upd H' a o) s2:=by
 have ne:∀ {b:Addr} {u:Obj},s.heap.get? b=some u->b≠a:=fun e z=>by rw[z,na] at e;cases e
 have nH:∀ {b:Addr} {u:HO},H' b=some u->b≠a:=fun e z=>by rw[z,ha] at e;cases e
 have n0:∀ {b:Addr} {u:Obj},X.s₀.heap.get? b=some u->b≠a:=fun{b u} e=>by
  obtain⟨u',q⟩:=I1.base.there b u e (by rw[hex];simp)
  exact ne q
 refine⟨I.ok,I.os,I.bare,⟨I.base.keep,I.base.slot,fun b u e z hx=>?_,I.base.there,fun b xs e=>?_,fun b u xs e=>?_,fun b ps e=>?_⟩,I.loc,I.cell,?_,fun y c e=>?_,fun p hp=>?_,fun b u e=>?_,I.len,I.tk⟩
 ·rw[C6 (n0 e)];exact I.base.free b u e z hx
 ·have:=I.base.tups b xs e;rw[C6 (nH this)];exact this
 ·have:=I.base.frzs b u xs e;rw[C6 (nH this)];exact this
 ·obtain⟨m,q⟩:=I.base.tbls b ps e
  exact⟨m,by rw[C6 (nH q)];exact q⟩
 ·obtain⟨m,⟨u,_,_,q,_⟩,_⟩:=I1.loc
  rw[C6 (ne q)];exact I.free
 ·obtain⟨v,u,q,_⟩:=I1.cell y c e
  rw[C6 (ne q)];exact I.freeC y c e
 ·obtain⟨e,z,n1,nf,d⟩:=I.pin p hp
  exact⟨e,by rw[C6 (ne (I1.pin p hp).1)];exact z,n1,nf,d⟩
 ·by_cases hb:b=a
  ·subst hb;rw[A7] at e;cases e;exact new
  ·rw[C6 hb] at e
   exact(I.hok b u e).stay (fun c v _ q=>q) (fun c q=>by rw[C6 (nH q)];exact q) fun c xs q=>by rw[C6 (nH q)];exact q
structure qv1(K:Fg)(D:Addr):Prop where
 c:PySem.W.isClsIn K D=true
 t:PySem.W.typeIn K (.ref D)=some (.type "type")
section
variable{D:Addr}{b:Bool}
theorem yq7(hs:PySem.W.subIn K (.ref C) (.ref C)=some true)(hc:qv1 K D)(h:PySem.W.subIn K (.ref C) (.ref D)=some b):PySem.W.kitOne K (.ref C) (.ref D)=some b:=by
 unfold PySem.W.kitOne
 by_cases e:C=D
 ·subst e
  rw[hs] at h;cases h
  rw[if_pos (by simp)]
 ·rw[if_neg (by simpa using e)]
  unfold PySem.W.kitCls
  dsimp only
  have h1:(PySem.W.clsIn K D).isSome=true:=hc.c
  rw[if_pos (by rw[h1,hc.t];rfl)]
  exact h
theorem Ab6(hm:PySem.W.kitMeta T=true)(h:PySem.W.subIn K (.ref C) (.type T)=some b):PySem.W.kitOne K (.ref C) (.type T)=some b:=by
 unfold PySem.W.kitOne
 rw[if_neg (by simp)]
 unfold PySem.W.kitCls
 dsimp only
 rw[if_pos hm]
 exact h
theorem yc1(Z:wy7 K C)(hc:qv1 K C):PySem.W.KitX K (.ref a) (.ref C) (fun h=>∃ o,h.get? a=some o/\o.cls=.ref C) where
 ty:=fun M h X ⟨o,e,c⟩=>c▸(PySem.W.Looks.ld e).andThen .now
 it:=fun M h X _=>by
  have z:(PySem.W.clsIn K C).isSome=true:=hc.c
  unfold PySem.W.clsIn at z
  split at z
  next o1 o2 cd o3 ho =>
   intro A' Q' E' s' k q
   unfold isType loadHead
   exact wpAny_bind (wpAny_loadPart (k _ _ (X _ _ ho)) (wpAny_pure q))
  next=>cases z
 ne:=fun h tp dd its n sl X e=>by
  have z:(PySem.W.clsIn K C).isSome=true:=hc.c
  unfold PySem.W.clsIn at z
  split at z
  next o1 o2 cd o3 ho =>
   refine Bool.eq_false_iff.mpr fun q=>?_
   obtain rfl:C=tp:=Value.ref.inj (beq_iff_eq.mp q)
   have:=(X _ _ ho).symm.trans e
   cases this
  next=>cases z
 ca:=fun{prog w A E Q s} X ⟨o,e,c⟩ q=>by
  obtain⟨h,g,d,t,os⟩:=s
  exact yx7 F.excAttr_ValueError X Z e c q
end
structure xu5(K:Fg)(C:Addr):Prop where
 z:wy7 K C
 c:qv1 K C
 s:PySem.W.subIn K (.ref C) (.ref C)=some true
theorem xq8:∀ {cs:List Addr} {us:List Value},J9 (cs.map V.ref) us->us=cs.map Value.ref
 | [],_,.nil=>rfl
 | c::cs,_,.cons r t=>by
   have e:=xq8 t
   cases (show _=Value.ref c from r)
   rw[e];rfl
variable{cs:List Addr}
section
variable{Q:VK}{D:Addr}{b:Bool}
theorem zf7(E:xu5 K C)(h:∀ D∈cs,qv1 K D/\PySem.W.subIn K (.ref C) (.ref D)=some false):PySem.W.kitAny K (.ref C) (cs.map Value.ref)=some false:=by
 induction cs with
 | nil=>rfl
 | cons D cs ih =>
   obtain⟨h1,h2⟩:=h D List.mem_cons_self
   rw[List.map_cons,PySem.W.kitAny,yq7 E.s h1 h2]
   exact ih fun D' hD=>h D' (List.mem_cons_of_mem _ hD)
end
theorem wq6:bootBuiltins ("ValueError":Str)=some (.type "ValueError"):=PyProof.Rows.Boot.«ValueError»
theorem qv1.obj(c:qv1 K C)(X:K.In h):∃ o,h.get? C=some o/\o.cls=.type "type":=by
 have z:(PySem.W.clsIn K C).isSome=true:=c.c
 have t:=c.t
 unfold PySem.W.clsIn at z
 split at z
 next o1 o2 cd o3 ho =>
  refine⟨_,X _ _ ho,?_⟩
  simpa [PySem.W.typeIn,ho] using t
 next=>cases z
theorem yx8{x:Sem Value}{Q:Flow->Shared->Prop}(hb:PySem.W.subIn K (.ref C) (.type "BaseException")=some true)(hc:qv1 K C)(hh:A.handled=none)(h:wpAny M A x (fun v s₁=>∃ e dx t,v=.ref e/\K.In s₁.heap/\s₁.heap.get? e=some {cls:=.ref C,dict:=dx,data:=.fields #[t,.none,.none,.none,.bool false,.none]}/\E (.ref e) s₁) E s) :
 wpAny M A (raiseStmt env (some x) none) Q E s:=by
 unfold raiseStmt
 refine wpAny_bind (wpAny_mono h (fun v s₁ h₁=>?_) fun _ _ x=>x)
 obtain⟨e,dx,t,rfl,X,he,hE⟩:=h₁
 obtain⟨hp,g,d,tk,os⟩:=s₁
 have L:=PySem.W.looks_subIn (M:=M) X hb
 obtain⟨oC,hC,hCc⟩:=hc.obj X
 repeat (first|with_reducible refine wpAny_loadPart_at he ?_|(with_reducible refine wpAny_loadPart_at hC ?_;rw[hCc])|with_reducible refine L.at ?_|wp_step)
 exact wpAny_raiseNew_none hh hE
variable{ab:Bool}{bm sub rest:List Value}{col:Option Bool}{dd:Option Addr}{k0 k1 k2 k3 k5:Option Value}{q:Str}{sn:List Str}{fI:Addr}
section
variable{g:Array GenState}{t:Nat}
variable{nm:Str}{N:Addr}{bs:List Value}{hdct:Bool}{initId:String}
theorem Aj7(F:ExcBaseFacts B newId initId bmB)(T:OwnTail h bmB bm)(X:K.In h){Q:Fin->Shared->Prop}(hC:h.get? C=some (excClassObj nm q C N bs bm hdct sn sub ab col dd k0 k1 k2 k3 k5 newId))(hi:PySem.W.findIn K (.ref C) "__init__"=some (some (.ref fI)))(hf:PySem.W.typeIn K (.ref fI)=some (.type "function"))(hq:∀ h' e,h.objs.size<=e->Heap.MadeExcOf h h' e (.ref C) rest->wpAny (model prog w) A (call (.ref fI) (.ref e::rest)) (fun r s'=>r=.none/\Q (.done (.ret (.ref e))) s') E ⟨h',g,d,t,os⟩)(hz:rest.length<=sizeLine) :
 wpAny (model prog w) A (Builtin.«type.__call__» ⟨.ref C::rest,[]⟩) Q E ⟨h,g,d,t,os⟩:=by
 repeat (first|with_reducible refine wpAny_loadPart_at hC ?_|with_reducible refine wpAny_madeBy_exc hC ?_|wp_step)
 refine codeAny_call_builtin_code (Code.quiet_builtin _ F.quiet) (wpAny_check_new_subT F T hC ?_)
 refine codeAny_exc_new_subT F T hC ?_ hz
 show wpAny _ _ _ _ _ _
 have keep:∀ b o,h.get? b=some o->((h.push {cls:=.type "tuple",data:=.seq rest.toArray}).push {cls:=.ref C,data:=.fields #[.ref h.objs.size,.none,.none,.none,.bool false,.none]}).get? b=some o:=fun b o e=>Heap.get?_push_of_some _ (Heap.get?_push_of_some _ e)
 have here:((h.push {cls:=.type "tuple",data:=.seq rest.toArray}).push {cls:=.ref C,data:=.fields #[.ref h.objs.size,.none,.none,.none,.bool false,.none]}).get? (h.objs.size+1)=some {cls:=.ref C,data:=.fields #[.ref h.objs.size,.none,.none,.none,.bool false,.none]}:=by heap_get
 have own:(Value.ref C::bm).contains (.ref C)=true:=by simp
 have X1:=X.keeps keep
 have hC1:=keep _ _ hC
 unfold isInstance
 repeat (first|with_reducible refine wpAny_loadPart_at here ?_|(with_reducible refine wpAny_isSubtype_exc hC1 ?_;rw[own])|wp_step)
 show wpAny _ _ (typeLookup (.ref C) _) _ _ _
 refine(PySem.W.looks_findIn X1 hi).at ?_
 refine wpAny_holding (wpAny_bind ?_)
 unfold bindSpecial
 refine wpAny_bind ((PySem.W.looks_typeIn X1 hf).at ?_)
 rw[if_pos (by decide)]
 refine wpAny_pure (wpAny_bind (wpAny_mono (hq _ (h.objs.size+1) (Nat.le_succ _) ⟨keep,Heap.get?_none_of_le (Nat.le_succ _),h.objs.size,here,Heap.get?_none_of_le (Nat.le_refl _),?_⟩) (fun r s' hr=>?_) fun _ _ x=>x))
 ·exact Heap.get?_push_of_some _ (Heap.get?_push_at rfl rfl)
 ·obtain⟨rfl,hQ⟩:=hr
  wp_walk
  exact hQ
theorem Aj8(F:ExcBaseFacts B newId initId bmB)(T:OwnTail h bmB bm)(X:K.In h)(hC:h.get? C=some (excClassObj nm q C N bs bm hdct sn sub ab col dd k0 k1 k2 k3 k5 newId))(hi:PySem.W.findIn K (.ref C) "__init__"=some (some (.ref fI)))(hf:PySem.W.typeIn K (.ref fI)=some (.type "function"))(hq:∀ h' e,h.objs.size<=e->Heap.MadeExcOf h h' e (.ref C) rest->wpAny (model prog w) (A.under (.builtin "type.__call__" ⟨.ref C::rest,[]⟩)) (call (.ref fI) (.ref e::rest)) (fun r s'=>r=.none/\Q (.ref e) s') E ⟨h',g,d,t,os⟩)(hz:rest.length<=sizeLine) :
 wpAny (model prog w) A (call (.ref C) rest) Q E ⟨h,g,d,t,os⟩:=by
 have f1:=tc_lookup
 have f2:=tc_bind (.ref C)
 have hT:(⟨h,g,d,t,os⟩:Shared).TypeIs (.ref C) "type":=⟨_,hC,rfl⟩
 refine wpAny_call (codeAny_of_tree ?_)
 show wpAny _ _ (callAny (.ref C) _) _ _ _
 repeat (any_goals (first|assumption|with_reducible refine wpAny_loadPart_at hC ?_|wp_step))
 refine⟨rfl,?_⟩
 refine codeAny_call_builtin_at (Code.quiet_builtin _ (by decide +kernel)) entry_typeCall (wpAny_check_type_call_sub hC (Aj7 F T X hC hi hf (fun h' e hle hm=>?_) hz))
 exact hq h' e hle hm
theorem Aj9(F:ExcBaseFacts B newId initId bmB)(T:OwnTail h bmB bm){e t0:Addr}{dx:Option Addr}{v:Value}(hC:h.get? C=some (excClassObj nm q C N bs bm hdct sn sub ab col dd k0 k1 k2 k3 k5 newId))(he:h.get? e=some {cls:=.ref C,dict:=dx,data:=.fields #[.ref t0,.none,.none,.none,.bool false,.none]})(hq:∀ h' a,(∀ b o,b≠e->h.get? b=some o->h'.get? b=some o)->h'.get? e=some {cls:=.ref C,dict:=dx,data:=.fields #[.ref a,.none,.none,.none,.bool false,.none]}->Q .none ⟨h',g,d,t,os⟩) :
 wpAny (model prog w) A (call (.builtin initId) [.ref e,v]) Q E ⟨h,g,d,t,os⟩:=by
 refine wpAny_call (codeAny_call_builtin F.init.plain F.initEntry (wpAny_check_init_subT F T hC he rfl ?_))
 wp_walk
 refine hq _ h.objs.size (fun b o nb hb=>?_) ?_
 ·rw[Heap.get?_update_other _ _ (Ne.symm nb)]
  exact Heap.get?_push_of_some _ hb
 ·rw[Heap.get?_update_self _ (Heap.get?_push_of_some _ he) rfl]
  rfl
end
section
open Builtin Builtin.ObjectAttr
variable{g:Array GenState}{t:Nat}
variable{nm:Str}{N x:Addr}{bs:List Value}{y:Str}{v:Value}
theorem yc2{tl:List Value}(self:Value)(what:Str)(T:OwnTail h bmB tl):refuseLoop self what tl=refuseLoop self what bmB:=by
 induction T with
 | base=>rfl
 | own _ _ _ _ ih=>rw[refuseLoop_ref];exact ih
theorem yl0{Q:Fin->Shared->Prop}{ns:List Str}(SF:StoreFacts "ValueError" bmV "object.__setattr__" "object")(T:OwnTail h bmV bm)(X:K.In h)(hC:h.get? C=some (excClassObj nm q C N bs bm true sn sub ab col dd k0 k1 k2 k3 k5 newId))(hy:PySem.W.findIn K (.ref C) y=some none)(I:h.Inst x C mA) (hq:∀ h' tk',h'.Inst x C (fun z=>if z=y then some v else mA z) ->
  (∀ b o,b≠x->(∀ o0 dx,h.get? x=some o0->o0.dict=some dx->b≠dx)->h.get? b=some o->h'.get? b=some o) ->
  (∀ o0,h.get? x=some o0->∃ o1,h'.get? x=some o1/\o1.cls=o0.cls/\o1.data=o0.data/\o1.slots=o0.slots/\(∀ dx,o0.dict=some dx->o1.dict=some dx)/\(o0.dict=none->o1.dict=some h.objs.size))->t<=tk'->Q (.done (.ret .none)) ⟨h',g,d,tk',os⟩) (hw:Within mA ns) (hz:ns.length<=1000):wpAny (model prog w) A (Builtin.«object.__setattr__» ⟨[.ref x,.str y tk,v],[]⟩) Q E ⟨h,g,d,t,os⟩:=by
 obtain⟨o,ex,ec,enc,ed⟩:=I
 have hp:refuseLoop (.ref x) "__setattr__" bm=pure ():=(yc2 _ _ T).trans (SF.passes (.ref x))
 have L:=PySem.W.looks_findIn (M:=model prog w) X hy
 unfold Builtin.«object.__setattr__»
 repeat (first|rw[refuse_eq]|(rw[refuseLoop_ref,hp])|(with_reducible refine wpAny_loadPart_at ex ?_;rw[ec])|with_reducible refine wpAny_mroOf_exc hC ?_|with_reducible refine L.at ?_|wp_step)
 rcases ed with⟨dn,mn⟩|⟨dx,de,nx,hns⟩
 ·rw[dn,if_neg (by simp[typeHasDict])]
  split
  ·rename_i z;cases z
  split
  ·rename_i c z;exact absurd z (enc c)
  ·have ex1:(h.push {cls:=.type "dict",data:=.dict #[]}).get? x=some o:=Heap.get?_push_of_some _ ex
   have nxs:x≠h.objs.size:=Nat.ne_of_lt (Heap.lt_size ex)
   refine wpAny_bind (wpAny_alloc' (wpAny_bind (wpAny_update' ex1 (wpAny_pure ?_))))
   have e2:((h.push {cls:=.type "dict",data:=.dict #[]}).update x fun o=>{cls:=o.cls,dict:=some h.objs.size,data:=o.data,slots:=o.slots}).get? h.objs.size=some {cls:=.type "dict",data:=.dict #[]}:=(Heap.get?_update_ne _ _ _ _ nxs.symm).trans (Heap.get?_push_at rfl rfl)
   have e3:((h.push {cls:=.type "dict",data:=.dict #[]}).update x fun o=>{cls:=o.cls,dict:=some h.objs.size,data:=o.data,slots:=o.slots}).Ns h.objs.size (fun _=>none):=⟨_,#[],_,e2,rfl,fun e he=>absurd he (by simp),fun _=>rfl⟩
   show wpAny _ _ (storeInDict h.objs.size (.str y tk) y v) _ _ _
   unfold storeInDict newKeyGuard
   refine wpAny_bind (wpAny_pure (wpAny_bind (wpAny_nsSet1 (Heap.Ns1.of_empty e3) fun h' en es=>?_)))
   obtain⟨oD,eD,pD,f1,f2,f3⟩:=en.count (Within.cons y v Within.nil)
   refine wpAny_bind (wpAny_lookBehind f1 (by rw[f2];exact pastItsLine_dict (Nat.le_trans f3 (by rw[List.length_cons,List.length_nil,sizeLine_eq];omega))) ?_)
   wp_walk
   have ex':h'.get? x=some {cls:=o.cls,dict:=some h.objs.size,data:=o.data,slots:=o.slots}:=by
    refine(es.2 x nxs).trans (Heap.get?_update_self _ ex1 ?_)
    have fr:=(Heap.get?_some_iff.mp ex).2
    obtain⟨oc,od,odt,osl⟩:=o
    cases odt <;> first|rfl|exact fr
   refine hq h' _ ⟨_,ex',ec,enc,.inr ⟨h.objs.size,rfl,nxs.symm,?_⟩⟩ (fun b ob nb _ eb=>?_) (fun o0 e0=>?_) (Nat.le_succ _)
   ·obtain⟨o',l,p,a1,a2,a3,a4,a5⟩:=en
    exact⟨o',l,p,a1,a2,a3,a4,fun z=>by rw[a5 z];by_cases hz:z=y <;> simp[hz,mn]⟩
   ·exact(es.2 b (Nat.ne_of_lt (Heap.lt_size eb))).trans ((Heap.get?_update_ne _ _ _ _ nb).trans (Heap.get?_push_of_some _ eb))
   ·rw[ex] at e0;cases e0
    exact⟨_,ex',rfl,rfl,rfl,fun dx e=>(by rw[dn] at e;cases e),fun _=>rfl⟩
 ·rw[de]
  refine wpAny_pure ?_
  show wpAny _ _ (storeInDict dx (.str y tk) y v) _ _ _
  unfold storeInDict newKeyGuard
  refine wpAny_bind (wpAny_pure (wpAny_bind (wpAny_nsSet1 hns fun h' en es=>?_)))
  obtain⟨oD,eD,pD,f1,f2,f3⟩:=en.count (Within.cons y v hw)
  refine wpAny_bind (wpAny_lookBehind f1 (by rw[f2];exact pastItsLine_dict (Nat.le_trans f3 (by rw[List.length_cons,sizeLine_eq];omega))) ?_)
  wp_walk
  refine hq h' _ ⟨o,(es.2 x nx.symm).trans ex,ec,enc,.inr ⟨dx,de,nx,en⟩⟩ (fun b ob _ nb eb=>(es.2 b (nb o dx ex de)).trans eb) (fun o0 e0=>⟨o0,(es.2 x nx.symm).trans e0,rfl,rfl,rfl,fun _ e=>e,fun z=>by rw[ex] at e0;cases e0;rw[de] at z;cases z⟩) (Nat.le_succ _)
theorem yl1{o:Obj}{Q:Unit->Shared->Prop}(SF:StoreFacts "ValueError" bmV "object.__setattr__" "object")(T:OwnTail h bmV bm)(hC:h.get? C=some (excClassObj nm q C N bs bm true sn sub ab col dd k0 k1 k2 k3 k5 newId))(ex:h.get? x=some o)(ec:o.cls=.ref C)(hq:Q () ⟨h,g,d,t,os⟩) :
 wpAny M A (checkBuiltinCall "object.__setattr__" ⟨[.ref x,nameV,v],[]⟩) Q E ⟨h,g,d,t,os⟩:=by
 have cb:(Value.ref C::bm).contains (.type "object")=true:=by rw[List.contains_cons,T.hasType SF.hasOwner,Bool.or_true]
 have ha:=SF.args (.ref x) nameV v
 simp only[checkBuiltinCall,SF.kind,SF.split]
 refine wpAny_bind ?_
 ·unfold isInstance
  repeat (first|(with_reducible refine wpAny_loadPart_at ex ?_;rw[ec])|(with_reducible refine wpAny_isSubtype_exc hC ?_;rw[cb])|wp_step)
  exact hq
theorem Ak0{Q:Unit->Shared->Prop}{ns:List Str}(SF:StoreFacts "ValueError" bmV "object.__setattr__" "object")(T:OwnTail h bmV bm)(X:K.In h)(hC:h.get? C=some (excClassObj nm q C N bs bm true sn sub ab col dd k0 k1 k2 k3 k5 newId))(hsa:PySem.W.findIn K (.ref C) "__setattr__"=some (some (.builtin "object.__setattr__")))(hy:PySem.W.findIn K (.ref C) y=some none)(I:h.Inst x C mA) (hq:∀ h' tk',h'.Inst x C (fun z=>if z=y then some v else mA z) ->
  (∀ b o,b≠x->(∀ o0 dx,h.get? x=some o0->o0.dict=some dx->b≠dx)->h.get? b=some o->h'.get? b=some o) ->
  (∀ o0,h.get? x=some o0->∃ o1,h'.get? x=some o1/\o1.cls=o0.cls/\o1.data=o0.data/\o1.slots=o0.slots/\(∀ dx,o0.dict=some dx->o1.dict=some dx)/\(o0.dict=none->o1.dict=some h.objs.size))->t<=tk'->Q () ⟨h',g,d,tk',os⟩) (hw:Within mA ns) (hz:ns.length<=1000):wpAny (model prog w) A (setAttr (.ref x) y v) Q E ⟨h,g,d,t,os⟩:=by
 obtain⟨o,ex,ec,_⟩:=id I
 have f3:=SF.slot.bind (.ref x)
 have L:=PySem.W.looks_findIn (M:=model prog w) X hsa
 unfold setAttr callSpecial? specialOf
 repeat (any_goals (first|assumption|(with_reducible refine wpAny_loadPart_at ex ?_;rw[ec])|with_reducible refine L.at ?_|wp_step))
 refine codeAny_call_builtin SF.slot.plain SF.entry (yl1 SF T hC ex ec (yl0 SF T X hC hy I (fun h' tk' I' a b c=>?_) hw hz))
 repeat (any_goals (first|assumption|wp_step))
 exact hq h' tk' I' a b (by omega)
end
theorem xq9:Manifest.owners.lookup (String.ofList ['d','e','s','r','e','v','e','r'].reverse)=some Manifest.sig_reversed:=by kernel_rfl
theorem Z2:Slot "reversed" "__next__" "reversed.__next__" :=
 .of (owner := "reversed") (n := "__next__") (by rw[typeLookup_type,builtinLookup_eq_fast];kernel_rfl) (by decide +kernel) (by decide +kernel) (by decide +kernel)
  (by first|exact .inl (by decide +kernel)|exact .inr (by decide +kernel)) (by rw[isSubtype_type];kernel_rfl)
theorem qw5:entryFor table "reversed.__next__"=some Builtin.«reversed.__next__»:=entryFor_of_tree (by kernel_rfl)
theorem qu0(a:Value):argsOk "reversed.__next__" ⟨[a],[]⟩:=by
 unfold argsOk;rw[signature?_of (id := "reversed.__next__") (n:=['_','_','t','x','e','n','_','_']) (o:=['d','e','s','r','e','v','e','r']) (by kernel_rfl) xq9];kernel_rfl
theorem wb4:Slot "reversed" "__iter__" "reversed.__iter__" :=
 .of (owner := "reversed") (n := "__iter__") (by rw[typeLookup_type,builtinLookup_eq_fast];kernel_rfl) (by decide +kernel) (by decide +kernel) (by decide +kernel)
  (by first|exact .inl (by decide +kernel)|exact .inr (by decide +kernel)) (by rw[isSubtype_type];kernel_rfl)
theorem wq7(a:Value):argsOk "reversed.__iter__" ⟨[a],[]⟩:=by
 unfold argsOk;rw[signature?_of (id := "reversed.__iter__") (n:=['_','_','r','e','t','i','_','_']) (o:=['d','e','s','r','e','v','e','r']) (by kernel_rfl) xq9];kernel_rfl
theorem wy9:entryFor table "reversed.__iter__"=some Builtin.«dict_keyiterator.__iter__» :=
 entryFor_alias (id' := "dict_keyiterator.__iter__") (by kernel_rfl) (by first | rfl | decide +kernel | (unfold String.splitOn; simp +decide [String.splitOnAux])) (by decide +kernel) (by kernel_rfl)
theorem xh9:Slot "reversed" "__init__" "object.__init__" :=
 .of (owner := "object") (n := "__init__") (by rw[typeLookup_type,builtinLookup_eq_fast];kernel_rfl) (by decide +kernel) (by decide +kernel) (by decide +kernel)
  (by first|exact .inl (by decide +kernel)|exact .inr (by decide +kernel)) (by rw[isSubtype_type];kernel_rfl)
theorem wq8:TypeCalled "reversed" "reversed.__new__" "object.__init__" :=
 ⟨by decide +kernel,by decide +kernel,⟨_,_,F.mro_reversed⟩,F.made_reversed,by decide +kernel,by rw[isSubtype_type];kernel_rfl,xh9⟩
theorem wq9:typeLookup (.type "tuple") "__reversed__"=pure none:=by rw[typeLookup_type,builtinLookup_eq_fast];kernel_rfl
theorem qw6:typeLookup (.type "tuple") "__getitem__"=pure (some (.builtin "tuple.__getitem__")):=by rw[typeLookup_type,builtinLookup_eq_fast];kernel_rfl
def yl2(l:Addr)(i:Int):Obj:={cls:=.type "reversed",data:=.fields #[.ref l,rawInt i]}
def qw7(h:Heap)(a l:Addr)(i:Int):Prop:=∃ o,h.get? a=some o/\o.cls=.type "reversed"/\o.data=.fields #[.ref l,rawInt i]
theorem qw7.typeIs(x:qw7 s.heap a l i):s.TypeIs (.ref a) "reversed":=let ⟨o,ho,hc,_⟩:=x;⟨o,ho,hc⟩
theorem qw7.at(x:qw7 h a l i)(e:∀ o,h.get? a=some o->h'.get? a=some o):qw7 h' a l i:=let ⟨o,ho,r⟩:=x;⟨o,e _ ho,r⟩
theorem wb1(l:Addr)(items:Array Value)(hz:(items.size:Int)<2 ^ 63) :
 Meets (Builtin.«reversed.__new__» ⟨[.type "reversed",.ref l],[]⟩) (fun _ R s=>IsTup s.heap l items /\
  R (.ok (.ret (.ref s.heap.objs.size))) {s with heap:=s.heap.push (yl2 l ((items.size:Int)-1)),toks:=s.toks+1+1}) :=
 .of_wp fun prog w A R s h=>by
  obtain⟨ht,h⟩:=h
  unfold Builtin.«reversed.__new__»
  refine wpAny_bind (wpAny_of_eq (newClass_reversed _) ?_)
  try dsimp only
  refine wpAny_bind (wpAny_of_eq (a:=()) (by first|rfl|kernel_rfl) ?_)
  refine wpAny_bind (wpAny_of_eq (a:=()) (by first|rfl|kernel_rfl) ?_)
  try dsimp only
  refine wpAny_bind (wpAny_specialOf ht.typeIs wq9 ?_)
  try dsimp only
  refine wpAny_bind ?_
  show wpAny _ _ (isInstance (.ref l) (.type "dict") >>= _) _ _ _
  refine wpAny_bind (wpAny_isInstance ht.typeIs sub_tuple_dict ?_)
  try dsimp only
  rw[if_neg (by decide)]
  refine wpAny_bind (wpAny_specialOf ht.typeIs qw6 ?_)
  try dsimp only
  rw[if_pos (by decide)]
  refine wpAny_pure ?_
  try dsimp only
  rw[if_neg (by decide)]
  refine wpAny_bind (len_tuple ht hz ?_)
  refine wpAny_bind (m:=asInt? _) (wpAny_of_eq (a:=some (items.size:Int)) rfl ?_)
  try dsimp only
  refine wpAny_bind ?_
  show wpAny _ _ (newObj (.type "reversed") (.fields #[.ref l,rawInt ((items.size:Int)-1)]) none) _ _ _
  refine wpAny_newObj_type ?_ (by size_fits)
  exact wpAny_pure ⟨_,rfl,h⟩
theorem wg1(hl:IsTup s.heap l items)(hz:(items.size:Int)<2 ^ 63)(h:Q (.ref s.heap.objs.size) {s with heap:=s.heap.push (yl2 l ((items.size:Int)-1)),toks:=s.toks+1+1}):wpAny (model prog w) A (call (.type "reversed") [.ref l]) Q E s :=
 callType_new wq8 (by decide) (F.typeCall_reversed_1 _) (F.newCall_reversed_1 _) (fun obj=>F.args_object_init_2 obj _) F.entry_reversed_new (wb1 l items hz)
  ⟨hl,⟨_,Heap.get?_push_size _ rfl,rfl⟩,h⟩
theorem wr0{i:Nat}{x:Value}{Q:Option Value->Shared->Prop}(hit:qw7 s.heap it l (i:Int))(hl:IsTup s.heap l items)(hi:(i:Int)<2 ^ 63)(hx:items[i]?=some x)(hQ:∀ h' tk,qw7 h' it l ((i:Int)-1)->Heap.SameBut it s.heap h'->Q (some x) {s with heap:=h',toks:=tk}):wpAny (model prog w) A (pyNext (.ref it)) Q E s:=by
 obtain⟨o,ho,hc,hd⟩:=id hit
 unfold pyNext
 refine wpAny_bind (wpAny_attempt (wpAny_callSpecial?_slot (name:=Str.ofString "__next__") hit.typeIs Z2
  (wpAny_call_entry Z2 hit.typeIs qw5 ?_ (qu0 _))))
 unfold Builtin.«reversed.__next__»
 refine wpAny_bind (wpAny_of_eq (a:=(Value.ref it,[])) rfl ?_)
 try dsimp only
 refine wpAny_bind (wpAny_field ho hd (x:=.ref l) rfl ?_)
 refine wpAny_bind (wpAny_field ho hd (x:=rawInt (i:Int)) rfl ?_)
 show wpAny _ _ (if(i:Int)<0 then _ else _) _ _ s
 rw[if_neg (by omega)]
 refine wpAny_bind (wpAny_specialOf hl.typeIs qw6 ?_)
 try dsimp only
 rw[if_neg (by decide)]
 have hil:i<items.size:=(Array.getElem?_eq_some_iff.mp hx).1
 refine wpAny_bind (wpAny_mkInt ?_)
 refine wpAny_bind (wpAny_attempt (getItem_tuple (j:=i) hl (by omega) hi (by unfold seqIndex?;simp;omega) hx ?_))
 try dsimp only
 refine wpAny_bind (wpAny_field (s:={s with toks:=s.toks+1}) ho hd (x:=rawInt (i:Int)) rfl ?_)
 show wpAny _ _ (setField (.ref it) 1 (rawInt ((i:Int)-1)) >>= _) _ _ _
 refine wpAny_bind (wpAny_setField (s:={s with toks:=s.toks+1}) ho hd (by simp) ?_)
 refine wpAny_pure ⟨x,rfl,wpAny_pure (hQ _ _ ?_ (Heap.SameBut.update ..))⟩
 exact⟨_,Heap.get?_update_self _ ho (Obj.isFreed_of_fields (Obj.data_mapFields hd _)),(Obj.cls_mapFields ..).trans hc,by
  rw[Obj.data_mapFields hd];simp⟩
theorem wz0{Q:Option Value->Shared->Prop}(hh:A.handled=none)(hit:qw7 s.heap it l (-1))(hQ:∀ h',Heap.ExtBut it s.heap h'->Q none {s with heap:=h'}):wpAny (model prog w) A (pyNext (.ref it)) Q E s:=by
 obtain⟨o,ho,hc,hd⟩:=id hit
 unfold pyNext
 refine wpAny_bind (wpAny_attempt (wpAny_callSpecial?_slot (name:=Str.ofString "__next__") hit.typeIs Z2
  (wpAny_call_entry Z2 hit.typeIs qw5 ?_ (qu0 _))))
 unfold Builtin.«reversed.__next__»
 refine wpAny_bind (wpAny_of_eq (a:=(Value.ref it,[])) rfl ?_)
 try dsimp only
 refine wpAny_bind (wpAny_field ho hd (x:=.ref l) rfl ?_)
 refine wpAny_bind (wpAny_field ho hd (x:=rawInt (-1)) rfl ?_)
 show wpAny _ _ (if(-1:Int)<0 then _ else _) _ _ s
 rw[if_pos (by decide)]
 refine wpAny_bind (wpAny_rule ?_)
 refine wpAny_bind ?_
 show wpAny _ _ (setField (.ref it) 1 (rawInt (-1)) >>= _) _ _ _
 refine wpAny_bind (wpAny_setField ho hd (by simp) ?_)
 have h1:=Heap.get?_update_self (Obj.mapFields (·.setIfInBounds 1 (rawInt (-1)))) ho (Obj.isFreed_of_fields (Obj.data_mapFields hd _))
 have d1:=Obj.data_mapFields hd (·.setIfInBounds 1 (rawInt (-1)))
 refine wpAny_setField (s:={s with heap:=_}) h1 d1 (by simp) ?_
 have eb:Heap.ExtBut it s.heap ((s.heap.update it (Obj.mapFields (·.setIfInBounds 1 (rawInt (-1))))).update it (Obj.mapFields (·.setIfInBounds 0 Value.none))):=by
  intro b u hb e
  exact((Heap.SameBut.update _ _ _).2 b hb).trans (((Heap.SameBut.update _ _ _).2 b hb).trans e)
 first
 | show wpAny _ _ (newExc (.type "StopIteration") [] >>= _) _ _ _
 | (refine wpAny_bind ?_;show wpAny _ _ (newExc (.type "StopIteration") [] >>= _) _ _ _)
 refine wpAny_bind ?_
 simp only[newExc,newTuple]
 refine wpAny_bind (wpAny_newObj_type ?_ (by size_fits))
 refine wpAny_bind (m:=firstArgMember _ _) (wpAny_of_eq (a:=Value.none) (by first|rfl|(simp only[firstArgMember];rfl)) ?_)
 refine wpAny_newObj_type ?_ (by size_fits)
 simp only[raiseNew]
 refine wpAny_bind (wpAny_handled ?_)
 first|rw[show A.in1.handled=none from hh]|rw[hh]
 refine wpAny_bind (wpAny_pure (wpAny_throw ?_))
 refine wpAny_bind (wpAny_isInstance (T := "StopIteration") (b:=true) ⟨_,Heap.get?_push_size _ rfl,rfl⟩ isSubtype_stop ?_)
 exact wpAny_pure (hQ _ ((eb.push _).push _))
theorem wz1(hit:qw7 s.heap it l i)(h:Q (.ref it) s):wpAny (model prog w) A (pyIter (.ref it)) Q E s:=by
 refine wpAny_pyIter_slot hit.typeIs wb4 (wpAny_call_entry wb4 hit.typeIs wy9 ?_ (wq7 _))
 show wpAny _ _ (ret (.ref it)) _ _ s
 exact wpAny_pure ⟨_,rfl, "reversed",_,hit.typeIs,Z2.lookup,h⟩
def zp3(K:Fg)(a:Addr)(n:Nat):It :=
 ⟨fun i H=>i<n/\∃ xs x,SqT K H a xs/\xs[n-1-i]?=some x,fun i H x H'=>H'=H/\∀ xs,SqT K H a xs->xs[n-1-i]?=some x,fun i _=>i=n⟩
theorem yx9(a it:Addr)(n:Nat):xz9 P w K tg (zp3 K a n) [it] it (fun i h=>qw7 h it a ((n:Int)-1-(i:Int))) where
 mem:=by simp
 obj:=fun i h st b hb=>by
  have e:b=it:=by simpa using hb
  subst e
  obtain⟨o,e,c,d⟩:=st
  exact⟨o,e,fun v z=>by rw[d] at z;cases z⟩
 keep:=fun i h h' st k=>st.at fun o e=>k it (by simp) o e
 item:=by
  intro X hP hw hK hc i pins s σ H E I hf st hg
  subst hP hw hK
  obtain⟨hi,xs,x,hq,hx⟩:=hg
  obtain⟨its,rv,p,hz⟩:=I.tuple hq
  obtain⟨u,hu,ru⟩:=rv.get hx
  obtain⟨f0,f1,f2,f3,f4,f5⟩:=hf it (by simp)
  have e:(n:Int)-1-(i:Int)=((n-1-i:Nat):Int):=by omega
  have st1:=st
  rw[e] at st1
  have hlt:=(List.getElem?_eq_some_iff.mp hx).1
  have hs:sizeLine=16777216:=sizeLine_eq
  refine wpAny_with_toks (n:=1) I.tk (wr0 st1 p (by omega) (x:=u) (by simpa using hu) fun h' tk st' sb=>?_)
  intro htk
  have I1:Inv X pins σ H {s with heap:=h',toks:=tk}:=I.turned (t':=tk) (fun b o hb e=>(sb.2 b hb).trans e) f0 f1 f3 f4 f5
  obtain⟨o,e',c,d⟩:=id st'
  have e2:((n-1-i:Nat):Int)-1=(n:Int)-1-((i+1:Nat):Int):=by omega
  rw[e2] at st'
  exact⟨u,rfl,ya0 (s:={s with heap:=h',toks:=tk}) e' c d (by decide) ⟨x,H,I1,ru,⟨rfl,fun ys hy=>by rw[I.tuple_inj hy hq];exact hx⟩,st',fun b hb=>(hf b hb).1⟩⟩
 done:=by
  intro X hP hw hK hc i pins s σ H E I hf st hg
  subst hP hw hK
  have hg:i=n:=hg
  subst hg
  obtain⟨f0,f1,f2,f3,f4,f5⟩:=hf it (by simp)
  have e:(i:Int)-1-(i:Int)=-1:=by omega
  have st1:=st
  rw[e] at st1
  exact wz0 (I.ok.hd hc) st1 fun h' eb=>⟨rfl,I.turned (t':=s.toks) (fun b o hb e=>eb b o hb e) f0 f1 f3 f4 f5⟩
 self:=fun _ _ _ _ _ st h=>wz1 st h
def zf8(K:Fg)(ta:TA):TI:=fun σ H R=>ta σ H fun vs H1=>∃ a xs,vs=[.ref a]/\SqT K H1 a xs/\R (zp3 K a xs.length) H1
theorem zp4{l:Expr}{ta:TA}{p:Pos}(hg:Gl X "reversed")(hm:X.mg "reversed"=none)(ha:PA X [l] ta)(hs:autoParam (starEach [l] X.env=[(false,eval l X.env)]) zAr) :
 PI X tg (.Call (.Name "reversed" p) [l] [] pos) (zf8 X.K ta):=by
 intro pins s σ H R I h
 refine Call_ (qv3 I hg hm boot_reversed (PyProof.Rows.callWith_type1 (thn (ha pos pins s σ H _ I h) fun us s1 zq=>?_) hs rfl))
 obtain⟨vs,H1,I1,r1,q1⟩:=zq
 obtain⟨a,xs,e,hq,q⟩:=q1
 subst e
 obtain⟨v,rfl,rv⟩:=qp0 r1
 cases rv
 obtain⟨its,rv,p,hz⟩:=I1.tuple hq
 have hsz:sizeLine=16777216:=sizeLine_eq
 have hlen:=rv.length
 refine wg1 p (by simp only[List.size_toArray];omega) ?_
 have e:((its.toArray.size:Nat):Int)-1=(xs.length:Int)-1-((0:Nat):Int):=by rw[rv.length];simp
 rw[e]
 have hit:qw7 (s1.heap.push (yl2 a ((xs.length:Int)-1-((0:Nat):Int)))) s1.heap.objs.size a ((xs.length:Int)-1-((0:Nat):Int)):=⟨_,Heap.get?_push_size _ rfl,rfl,rfl⟩
 refine wz1 hit ?_
 refine⟨s1.heap.objs.size,[s1.heap.objs.size],_,_,H1,rfl,I1.kept (t':=s1.toks+1+1) fun b o e=>Heap.get?_push_of_some _ e,yx9 a _ xs.length,hit,fun b hb=>?_,q⟩
 have e:b=s1.heap.objs.size:=by simpa using hb
 subst e
 exact I1.fpOk (Nat.le_refl _) (I1.hok.fresh (Nat.le_refl _))
section
variable{Q:VK}
theorem zp5{ta:TA}(h:ta σ H fun vs H1=>∃ a xs,vs=[.ref a]/\SqT K H1 a xs/\R (zp3 K a xs.length) H1):zf8 K ta σ H R:=h
end
def wz2(K:Fg)(C:Addr):Bool:=match K.lookup C with
 | some ⟨.type "type",_,.cls cd,sl⟩=>(match cd.mro,sl.toList with
   | .ref C'::bm,[_,_,_,_,some (.builtin n),_]=>C' == C && n == "ValueError.__new__" && !cd.hasDel && PySem.W.tailIn K bmV bm && cd.hasDict
   | _,_=>false)
 | _=>false
theorem qw8(X:K.In h)(q:wz2 K C=true) :
 ∃ bm N nm qn bs sn sub ab col dd k0 k1 k2 k3 k5,h.get? C=some (excClassObj nm qn C N bs bm true sn sub ab col dd k0 k1 k2 k3 k5 "ValueError.__new__")/\OwnTail h bmV bm:=by
 revert q
 unfold wz2
 split
 next dd cd sl ho =>
  split
  next C' bm k0 k1 k2 k3 n k5 hm hs =>
   intro q
   simp only[Bool.and_eq_true,beq_iff_eq,Bool.not_eq_true'] at q
   obtain⟨⟨⟨⟨q1,q2⟩,q3⟩,q4⟩,q5⟩:=q
   subst q1 q2
   cases cd
   simp only at hm q3 q5
   subst hm q3 q5
   obtain⟨sl⟩:=sl
   simp only at hs
   subst hs
   exact⟨bm,_,_,_,_,_,_,_,_,dd,k0,k1,k2,k3,k5,X _ _ ho,PySem.W.tail_of_in X q4⟩
  next=>intro q;cases q
 next=>intro q;cases q
section
variable{g:Array GenState}{t:Nat}{o:Obj}{y:Str}{v:Value}
theorem yl3{Q:Fin->Shared->Prop}(X:K.In h)(qi:wz2 K C=true)(hy:PySem.W.findIn K (.ref C) y=some none)(hx:h.get? a=some o)(hc:o.cls=.ref C)(hnc:∀ c,o.data≠.cls c)(hd:o.dict=some dx)(hn:h.Ns1 dx mA)(hv:mA y=some v)(hq:Q (.done (.ret v)) ⟨h,g,d,t,os⟩) :
 wpAny (model prog w) A (Builtin.«object.__getattribute__» ⟨[.ref a,.str y tk],[]⟩) Q E ⟨h,g,d,t,os⟩:=by
 obtain⟨bm,N,nm,qn,bs,sn,sub,ab,col,dd,k0,k1,k2,k3,k5,hC,T⟩:=qw8 X qi
 have L:=PySem.W.looks_findIn (M:=model prog w) X hy
 repeat (any_goals (first|assumption|(with_reducible refine wpAny_loadPart_at hx ?_;rw[hc])|with_reducible refine L.at ?_|wp_step))
 split
 ·rename_i c z;exact absurd z (hnc c)
 unfold instanceDict
 repeat (any_goals (first|assumption|(with_reducible refine wpAny_loadPart_at hx ?_;rw[hc])|with_reducible refine wpAny_loadPart_at hC ?_|with_reducible refine L.at ?_|wp_step))
 rw[hd]
 refine wpAny_pure ?_
 show wpAny _ _ (nsGet dx y) _ _ _
 refine wpAny_nsGet hn.ns ?_
 rw[hv]
 repeat (any_goals (first|assumption|wp_step))
theorem yy0{R:Result->Shared->Prop}(FB:ExcAttrFacts B)(X:K.In h)(Z:wy7 K C)(qi:wz2 K C=true)(hy:PySem.W.findIn K (.ref C) y=some none)(hx:h.get? a=some o)(hc:o.cls=.ref C)(hnc:∀ c,o.data≠.cls c)(hd:o.dict=some dx)(hn:h.Ns1 dx mA)(hv:mA y=some v)(hq:R (.ok (.ret v)) ⟨h,g,d,t,os⟩) :
 codeAny (model prog w) A (.call (.builtin "BaseException.__getattribute__") ⟨[.ref a,.str y tk],[]⟩) R ⟨h,g,d,t,os⟩ :=
 codeAny_call_builtin FB.ga.plain F.entry_bexc_ga (wy8 X Z hx hc (yl3 X qi hy hx hc hnc hd hn hv hq))
theorem Am4{b:Bool}(FB:ExcAttrFacts B)(X:K.In h)(Z:wy7 K C)(qi:wz2 K C=true)(hy:PySem.W.findIn K (.ref C) y=some none)(hx:h.get? a=some o)(hc:o.cls=.ref C)(hnc:∀ c,o.data≠.cls c)(hd:o.dict=some dx)(hn:h.Ns1 dx mA)(hv:mA y=some v)(hh:PySem.W.handedIn v=true)(hq:Q v ⟨h,g,d,t+1,os⟩) :
 wpAny (model prog w) A (getAttr (.ref a) y b) Q E ⟨h,g,d,t,os⟩:=by
 have f3:=FB.ga.bind (.ref a)
 have hx2:(Value.builtin "BaseException.__getattribute__" == Value.builtin "object.__getattribute__")=false:=by decide +kernel
 have hx1:(onTheHeap (Value.ref C) && Value.builtin "BaseException.__getattribute__" == Value.builtin "object.__getattribute__")=false:=by rw[hx2];rfl
 have L1:=PySem.W.looks_findIn (M:=model prog w) X Z.ga
 have L2:=PySem.W.looks_findIn (M:=model prog w) X Z.gn
 unfold getAttr
 repeat (any_goals (first|assumption|(with_reducible refine wpAny_loadPart_at hx ?_;rw[hc])|with_reducible refine L1.at ?_|with_reducible refine L2.at ?_|wp_step))
 rw[if_neg (by show ¬(b && false)=true;cases b <;> decide)]
 repeat (any_goals (first|assumption|(with_reducible refine wpAny_loadPart_at hx ?_;rw[hc])|wp_step))
 refine yy0 FB X Z qi hy hx hc hnc hd hn hv ?_
 repeat (any_goals (first|assumption|wp_step))
 show wpAny _ _ (handedOut v) _ _ _
 rw[PySem.W.handedOut_of hh];exact wpAny_pure hq
end
def qp5(a C:Addr)(od:Option Addr):HO:=.ext fun h=>∃ o,h.get? a=some o/\o.cls=.ref C/\o.dict=od/\∃ vs,o.data=.fields vs
theorem zp6{o:Obj}(e:h.get? a=some o)(c:o.cls=.ref C)(d:o.dict=od)(v:∃ vs,o.data=.fields vs):O8 P w H h a (qp5 a C od) :=
 ⟨⟨o,e,c,d,v⟩,⟨o,e⟩,fun h1 h2 ⟨u,e1,r⟩ k=>⟨u,k u e1,r⟩⟩
structure ExI(K:Fg)(C:Addr)(f:Str):Prop where
 Z:wy7 K C
 qi:wz2 K C=true
 hy:PySem.W.findIn K (.ref C) f=some none
def yy1(K:Fg)(ta:TE)(f:Str):TE:=fun σ H Q=>ta σ H fun x H1=>∃ a C dx fs v,x=.ref a/\H1 a=some (qp5 a C (some dx))/\H1 dx=some (.xd fs)/\ExI K C f/\fs.lookup f=some v/\Q v H1
section
variable{f:Str}
theorem xu6(he:PE X e ta)(hb:attributeBase e f X.env (eval e X.env)=eval e X.env):PE X (.Attribute e f pos) (yy1 X.K ta f):=by
 intro pins s σ H Q I h
 refine zl5 hb (thn (he pins s σ H _ I h) fun u s1 zq=>?_)
 obtain⟨x,H1,I1,rx,a,C,dx,fs,v,ex,ea,ed,c,l,q⟩:=zq
 subst ex
 obtain rfl:u=Value.ref a:=rx
 obtain⟨⟨o,o1,o2,o3,vs,o4⟩,_⟩:=I1.hok _ _ ea
 obtain⟨mA,hn,r⟩:=I1.hok _ _ ed
 obtain⟨u,hu,ru⟩:=wa5.some_of (v:=v) (o:=mA f) (by rw[<-l];exact r f)
 obtain⟨hh,g,d,t,os⟩:=s1
 exact Am4 F.excAttr_ValueError I1.kIn c.Z c.qi c.hy o1 o2 (fun c z=>by rw[o4] at z;cases z) o3 hn hu (yv1 ru) ⟨v,H1,I1.tok _,ru,q⟩
end
def ErX(e C:Addr)(od:Option Addr):HO:=.ext fun h=>∃ t,h.get? e=some {cls:=.ref C,dict:=od,data:=.fields #[.ref t,.none,.none,.none,.bool false,.none]}
theorem yl4{e t:Addr}(g:h.get? e=some {cls:=.ref C,dict:=od,data:=.fields #[.ref t,.none,.none,.none,.bool false,.none]}):O8 P w H h e (ErX e C od) :=
 ⟨⟨t,g⟩,⟨_,g⟩,fun h1 h2 ⟨u,e1⟩ k=>⟨u,k _ e1⟩⟩
def rmv(H:Hp)(e:Addr):Hp:=fun b=>if b=e then none else H b
theorem yc3{e:Addr}:rmv H e e=none:=by unfold rmv;rw[if_pos rfl]
theorem qr5{e:Addr}(h:b≠e):rmv H e b=H b:=by unfold rmv;rw[if_neg h]
structure InI(K:Fg)(mg:Str->Option Value)(x:Str)(C f:Addr):Prop where
 mx:mg x=some (.ref C)
 qi:wz2 K C=true
 hi:PySem.W.findIn K (.ref C) "__init__"=some (some (.ref f))
 hf:PySem.W.typeIn K (.ref f)=some (.type "function")
 kp:PySem.W.keepIn K (.ref C)=true
 bx:PySem.W.subIn K (.ref C) (.type "BaseException")=some true
 ck:qv1 K C
def xu7(C:Addr)(E:XK)(sp:Sp)(t:TA):TS:=fun _ σ H=>t σ H fun vs H1=>vs.length<=sizeLine/\∀ e,H1 e=none->sp (.ref e::vs) (upd H1 e (ErX e C none)) (fun v H2=>v=.non/\∃ od,H2 e=some (ErX e C od)/\E (.ref C) od (rmv H2 e)) E0
section
variable{e:Addr}{fs:List Addr}
theorem HOk.rmv(x:HOk P w H2 h2)(he:H2 e=some (ErX e C od)):HOk P w (rmv H2 e) h2:=fun b u q=>by
 have nb:b≠e:=fun z=>by rw[z,yc3] at q;cases q
 rw[qr5 nb] at q
 refine(x b u q).stay (fun c v _ q=>q) (fun c q=>?_) fun c xs q=>?_
 ·rw[qr5 (fun z=>by rw[z,he] at q;cases q)];exact q
 ·rw[qr5 (fun z=>by rw[z,he] at q;cases q)];exact q
theorem Un.rmv(hok:HOk P w H1 h)(k:∀ b o,h.get? b=some o->h1.get? b=some o)(ne:h.get? e=none)(u:Un fs [] (upd H1 e (ErX e C od)) H2 h1 h2):Un fs [] H1 (rmv H2 e) h h2:=by
 have nb:∀ {b:Addr} {o:Obj},h.get? b=some o->b≠e:=fun g z=>by rw[z,ne] at g;cases g
 have nH:∀ {b:Addr} {o:HO},H1 b=some o->b≠e:=fun g=>by obtain⟨_,q⟩:=(hok _ _ g).lies;exact nb q
 refine⟨fun b o g n hb hx=>u.keep b o (k b o g) (by rw[C6 (nb g)];exact n) hb hx,fun b o g n hb hx=>u.slot b o (k b o g) (by rw[C6 (nb g)];exact n) hb hx,fun b o g n hx=>?_,fun b o g hx=>u.there b o (k b o g) hx,fun b xs g=>?_,fun b o v g=>?_,fun b ps g=>?_⟩
 ·rw[qr5 (nb g)];exact u.free b o (k b o g) (by rw[C6 (nb g)];exact n) hx
 ·rw[qr5 (nH g)];exact u.tups b xs (by rw[C6 (nH g)];exact g)
 ·rw[qr5 (nH g)];exact u.frzs b o v (by rw[C6 (nH g)];exact g)
 ·obtain⟨m,q⟩:=u.tbls b ps (by rw[C6 (nH g)];exact g)
  exact⟨m,by rw[qr5 (nH g)];exact q⟩
end
section
variable{f:Addr}{t:TA}{E:XK}{k:Nat}
theorem yy2(O:InI X.K X.mg x C f)(FI:M0 X.prog X.w X.K X.mg X.base CX0 k f fd ps sp)(hr:qd6 (k+1) X.A)(hb:wf1 X.K fd ps [])(hx:yq6 X E)(hg:Gl X x)(hc:X.calm=true)(ha:PA X (e₀::es) t)(hdb:autoParam ((x == ("__debug__":Str))=false) zAd)(he:autoParam (starEach (e₀::es) X.env=(false,eval e₀ X.env)::starEach es X.env) zAr)(hpl:autoParam ((backTo cpos (starEach es X.env)).any (·.1)=false) zAr) :
 PS X (.Raise (some (.Call (.Name x np) (e₀::es) [] cpos)) none pos) (xu7 C E sp t):=by
 intro pins s σ H D I h
 rw[arm_exec_Raise]
 refine wpAny_bind (wpAny_standAt (yx8 (K:=X.K) (C:=C) O.bx O.ck (I.ok.hd hc) ?_))
 refine wpAny_bind (wpAny_mono (Q:=fun v s₁=>∃ e dx t,v=.ref e/\X.K.In s₁.heap/\s₁.heap.get? e=some {cls:=.ref C,dict:=dx,data:=.fields #[t,.none,.none,.none,.bool false,.none]}/\X.xe (.ref e) s₁) ?_ (fun v s3 h3=>wpAny_bind (wpAny_standAt (wpAny_pure h3))) fun _ _ x=>x)
 refine wpAny_Call_Name_kw (qq4 I hg O.mx ?_ hdb)
 refine PySem.W.callWith_K (h₀:=X.base) I.ok.mod.kin O.kp (thn (ha cpos pins s σ H _ I h) fun us s1 ⟨vs,H1,I1,r,hz,q⟩=>⟨I1.kIn,?_⟩) he hpl
 obtain⟨bm,N,nm,qn,bs,sn,sub,ab,col,dd,k0,k1,k2,k3,k5,hC,T⟩:=qw8 I1.kIn O.qi
 obtain⟨hh,g,d,tt,os⟩:=s1
 rw[List.nil_append]
 refine Aj8 F.excBase_ValueError T I1.kIn hC O.hi O.hf (fun h' e hle hm=>?_) (by rw[<-r.length];exact hz)
 obtain⟨t0,e1,e2,e3⟩:=hm.there
 have I2:Inv X pins σ (upd H1 e (ErX e C none)) _:=I1.laid (o:=ErX e C none) hm.keeps hle (yl4 e1)
 have hq:=q e (I1.hok.gone hm.new)
 have r2:J9 (V.ref e::vs) (Value.ref e::us):=.cons rfl r
 have hl:(Value.ref e::us++[]).length=ps.length:=by
  rw[List.append_nil]
  have e:=r2.length
  rw[FI.len _ _ _ _ hq] at e
  exact e.symm
 refine wpAny_call (codeAny_mono (FI.run _ X.stack _ _ ⟨Value.ref e::us,[]⟩ (Value.ref e::us) _ _ E0 (hr.make C us []) (I2.env0.make C us []) (by have:=hb _ (Value.ref e::us) I2.kIn hl;rw[List.append_nil] at this;exact this) r2 hq) fun r s' hq'=>?_)
 cases r with
 | error e=>exact False.elim hq'
 | ok fl =>
   cases fl with
   | ret u =>
     have J:=I2.after hq'
     obtain⟨v,H',tk,os',bare,un,hok,rv,ev,od,hH,hE⟩:=hq'
     obtain⟨v',H'',I3,_⟩:=J
     subst ev
     obtain⟨⟨t1,g1⟩,_⟩:=hok _ _ hH
     exact⟨rv,e,od,.ref t1,rfl,I3.kIn,g1,hx pins σ H1 (rmv H' e) _ s' e t1 (.ref C) od I1 (un.rmv I1.hok hm.keeps hm.new) (hok.rmv hH) tk os' bare hm.new yc3 g1 hE⟩
   | next=>exact False.elim hq'
   | brk=>exact False.elim hq'
   | cont=>exact False.elim hq'
end
structure BaI(K:Fg)(mg:Str->Option Value)(x:Str)(B:Addr):Prop where
 mx:mg x=some (.ref B)
 hg:PySem.W.specialIn K (.ref B) "__getattribute__"=some (some (.builtin "type.__getattribute__"))
 hr:PySem.W.readsIn K B (.type "type")=true
 e:PySem.W.findCls K (.ref B) (.type "type") "__init__"=some (.val (.builtin "ValueError.__init__"))
theorem Ab7{o:HO}(h:H a=some o):upd H a o=H:=by
 funext b
 by_cases z:b=a
 ·subst z;rw[A7,h]
 ·rw[C6 z]
def Ab8(K:Fg)(t:TA):TE:=fun σ H Q=>t σ H fun vs H1=>∃ e C od v,vs=[.ref e,v]/\H1 e=some (ErX e C od)/\wz2 K C=true/\Q .non H1
structure SeI(K:Fg)(C:Addr)(f:Str):Prop where
 qi:wz2 K C=true
 sa:PySem.W.findIn K (.ref C) "__setattr__"=some (some (.builtin "object.__setattr__"))
 hy:PySem.W.findIn K (.ref C) f=some none
def zp7(K:Fg)(ta tv:TE)(f:Str):TS:=fun D σ H=>tv σ H fun y H1=>ta σ H1 fun x H2=>∃ e C,x=.ref e/\H2 e=some (ErX e C none)/\SeI K C f /\
 ∀ dx,H2 dx=none->dx≠e->D.nx σ (upd (upd H2 e (ErX e C (some dx))) dx (.xd [(f,y)]))
section
variable{B:Addr}{f:Str}{t:TA}
theorem Ab9{pl:Sem Bool}(O:BaI X.K X.mg x B)(hg:Gl X x)(ha:PA X (e₀::es) t)(hdb:autoParam ((x == ("__debug__":Str))=false) zAd)(hst:autoParam (starEach (e₀::es) X.env=(false,eval e₀ X.env)::starEach es X.env) zAr)(hpl:autoParam ((backTo pos (starEach es X.env)).any (·.1)=false) zAr) (ht:eval (.Call (.Attribute (.Name x np) "__init__" apos) (e₀::es) [] pos) X.env=(do
  let ov<-eval (.Name x np) X.env
  standAt apos.atName
  let (f,first)<-holding [ov] (getMethod ov "__init__" pl)
  callWith pos f first (backTo pos (starEach (e₀::es) X.env)) (backToKw pos (keywordEach [] X.env))):=by rfl) :
 PE X (.Call (.Attribute (.Name x np) "__init__" apos) (e₀::es) [] pos) (Ab8 X.K t):=by
 intro pins s σ H Q I h
 refine PySem.W.methodCall_KW (pl:=pl) (qq4 I hg O.mx ?_ hdb) ht
 refine PySem.W.method_cls I.kIn O.hg (PySem.W.cls_value I.kIn O.hr O.e rfl ?_)
 have I':Inv X pins σ H {s with toks:=s.toks+1}:=I.tok _
 show wpAny _ _ (callWith pos (.builtin "ValueError.__init__") [] (backTo pos (starEach (e₀::es) X.env)) []) _ _ _
 refine PyProof.Rows.callWith_builtin1 (thn (ha pos pins _ σ H _ I' h) fun us s2 zq=>?_) hst hpl
 obtain⟨vs,H2,I2,r,e,C,od,v,ev,hH,qi,q2⟩:=zq
 subst ev
 obtain⟨u0,us,rfl,r0,r1⟩:∃ u0 us',us=u0::us'/\M4 (.ref e) u0/\J9 [v] us':=by
  cases r with|cons r0 r1=>exact⟨_,_,rfl,r0,r1⟩
 obtain rfl:u0=Value.ref e:=r0
 obtain⟨u1,rfl,r2⟩:∃ u1,us=[u1]/\M4 v u1:=by
  cases r1 with|cons r2 r3=>cases r3;exact⟨_,rfl,r2⟩
 obtain⟨bm,N,nm,qn,bs,sn,sub,ab,col,dd,k0,k1,k2,k3,k5,hC,T⟩:=qw8 I2.kIn qi
 obtain⟨⟨t0,g0⟩,_⟩:=I2.hok _ _ hH
 obtain⟨hh,g,d,tt,os⟩:=s2
 show wpAny _ _ (call (.builtin "ValueError.__init__") [.ref e,u1]) _ _ _
 refine Aj9 F.excBase_ValueError T hC g0 fun h' a k g1=>?_
 have J:=I2.write (x:=e) (e:=e) (o:=ErX e C od) (h':=h') (t':=tt) (by rw[hH];exact True.intro) (.inl rfl) k ⟨_,g1⟩ (yl4 g1) I2.tk
 rw[Ab7 hH] at J
 exact⟨.non,H2,J,rfl,q2⟩
theorem Ac0(ha:PE X o ta)(hv:PE X value tv)(hs:swapsWith value (some (.Attribute o f pos')) pos.line X.env=pure false)(hex:autoParam (X.ex=[]) zAr):PS X (.Assign [.Attribute o f pos'] value pos) (zp7 X.K ta tv f):=by
 intro pins s σ H D I h
 refine plainObj_wpAny_Assign_Attribute (thn (hv pins s σ H _ I h) fun u s1 ⟨y,H1,I1,ry,q⟩=>thn (ha pins s1 σ H1 _ I1 q) fun ov s2 zq=>?_) hs
 obtain⟨x,H2,I2,rx,e,C,ex,he,S,q2⟩:=zq
 subst ex
 obtain rfl:ov=Value.ref e:=rx
 obtain⟨bm,N,nm,qn,bs,sn,sub,ab,col,dd,k0,k1,k2,k3,k5,hC,T⟩:=qw8 I2.kIn S.qi
 obtain⟨⟨t0,g0⟩,_⟩:=I2.hok _ _ he
 have In:s2.heap.Inst e C (fun _=>none):=⟨_,g0,rfl,fun c z=>(by cases z),.inl ⟨rfl,fun _=>rfl⟩⟩
 obtain⟨hh,g,d,tt,os⟩:=s2
 refine Ak0 F.store_ValueError T I2.kIn hC S.sa S.hy In (fun h' tk' I' k c ht=>?_) (ns:=[]) Within.nil (by simp)
 obtain⟨o1,g1,c1,c2,c3,c4,c5⟩:=c _ g0
 have c5:=c5 rfl
 have ne:hh.objs.size≠e:=Nat.ne_of_gt (Heap.lt_size g0)
 have k':∀ b u,b≠e->hh.get? b=some u->h'.get? b=some u:=fun b u nb gb=>k b u nb (fun o0 dx z1 z2=>by rw[g0] at z1;cases z1;cases z2) gb
 have g1':h'.get? e=some {cls:=.ref C,dict:=some hh.objs.size,data:=.fields #[.ref t0,.none,.none,.none,.bool false,.none]}:=by
  obtain⟨oc,od,odt,osl⟩:=o1
  have c1:oc=.ref C:=c1
  have c2:odt=.fields #[.ref t0,.none,.none,.none,.bool false,.none]:=c2
  have c3:osl=#[]:=c3
  have c5:od=some hh.objs.size:=c5
  rw[c1,c2,c3,c5] at g1
  exact g1
 obtain⟨o2,f1,f2,f3,f4⟩:=I'
 rw[g1'] at f1
 cases f1
 obtain⟨dx,e1,e2,hn⟩:∃ d,(some hh.objs.size:Option Addr)=some d/\d≠e/\h'.Ns1 d (fun z=>if z=f then some u else none):=by
  rcases f4 with⟨z,_⟩|h
  ·cases z
  ·exact h
 cases e1
 have J:=I2.write (x:=e) (e:=e) (o:=ErX e C (some hh.objs.size)) (h':=h') (t':=tk') (by rw[he];exact True.intro) (.inl rfl) k' ⟨_,g1'⟩ (yl4 g1') (Nat.lt_of_lt_of_le I2.tk ht)
 have hfr:H2 hh.objs.size=none:=I2.fresh
 have J2:=Inv.track (a:=hh.objs.size) (o:=.xd [(f,y)]) I2 (Heap.get?_none_of_le (Nat.le_refl _)) J (by rw[C6 ne];exact hfr) hex ⟨_,hn,fun f'=>?_⟩
 ·exact⟨σ,_,J2,q2 _ hfr ne⟩
 ·show wa5 ([(f,y)].lookup f') (if f'=f then some u else none)
  by_cases z:f'=f
  ·subst z;rw[if_pos rfl,List.lookup_cons_self];exact ry
  ·rw[if_neg z,List.lookup_cons,show(f' == f)=false from beq_false_of_ne z];exact True.intro
end
variable{c1 c2:Str}
section
variable{Q:VK}{t:TA}{f:Str}{E:XK}
theorem Ac1(h:t σ H fun vs H1=>∃ e C od v,vs=[.ref e,v]/\H1 e=some (ErX e C od)/\wz2 K C=true/\Q .non H1):Ab8 K t σ H Q:=h
theorem Ac2(h:tv σ H fun y H1=>ta σ H1 fun x H2=>∃ e C,x=.ref e/\H2 e=some (ErX e C none)/\SeI K C f/\∀ dx,H2 dx=none->dx≠e->D.nx σ (upd (upd H2 e (ErX e C (some dx))) dx (.xd [(f,y)]))):zp7 K ta tv f D σ H:=h
theorem yy3(h:t σ H fun vs H1=>vs.length<=sizeLine/\∀ e,H1 e=none->sp (.ref e::vs) (upd H1 e (ErX e C none)) (fun v H2=>v=.non/\∃ od,H2 e=some (ErX e C od)/\E (.ref C) od (rmv H2 e)) E0):xu7 C E sp t D σ H:=h
theorem xu8(h:ta σ H fun x H1=>∃ a C dx fs v,x=.ref a/\H1 a=some (qp5 a C (some dx))/\H1 dx=some (.xd fs)/\ExI K C f/\fs.lookup f=some v/\Q v H1):yy1 K ta f σ H Q:=h
end
def zf9(K:Fg):List V->Hp->VK->Prop:=fun xs H Q=>wa9 K xs H Q \/
 ∃ (a C:Addr) (od:Option Addr) (y:V) (c:Value) (b:Bool),xs=[.ref a,y]/\H a=some (qp5 a C od)/\xu5 K C/\(∀ u,M4 y u->u=c)/\PySem.W.kitOne K (.ref C) c=some b/\Q (.bl b) H
theorem wk4:V3 X (.builtin "isinstance") (zf9 X.K):=by
 intro pins s σ H xs us Q I r h
 rcases h with h|⟨a,C,od,y,c,b,rfl,ha,E,hu,e,q⟩
 ·exact I0 pins s σ H xs us Q I r h
 ·obtain⟨u,w',rfl,r1,r2⟩:=xp4 r
  cases r1
  obtain rfl:=hu _ r2
  obtain⟨⟨o,e1,e2,_⟩,_,_⟩:=(show O8 X.prog X.w H s.heap a (qp5 a C od) from I.hok a _ ha)
  exact wpAny_with_toks (n:=1) I.tk (PySem.W.kia_one (yc1 E.z E.c) I.kIn ⟨o,e1,e2⟩ e (fun z=>nomatch z) fun tk ht=>⟨.bl b,H,I.tok _ ht,rfl,q⟩)
section
variable{Q:VK}{D:Addr}{b:Bool}
theorem Ac3(ha:H a=some (qp5 a C od))(E:xu5 K C)(hc:qv1 K D)(h:PySem.W.subIn K (.ref C) (.ref D)=some b)(q:Q (.bl b) H):zf9 K [.ref a,.ref D] H Q :=
 .inr ⟨a,C,od,.ref D,.ref D,b,rfl,ha,E,fun u r=>r,yq7 E.s hc h,q⟩
end
theorem zp8{p:α->Prop}:∀ a∈([]:List α),p a:=fun _ h=>nomatch h
theorem all_cons{p:α->Prop}{a:α}{l:List α}(h:p a)(t:∀ b∈l,p b):∀ b∈a::l,p b:=fun b hb=>(List.mem_cons.mp hb).elim (fun e=>e▸h) (t b)
def yq8(Cs:List Addr)(i j:Nat)(te:XK->TE)(ts:TS):TS:=fun D σ H =>
 te (fun cls od H'=>∃ C∈Cs,cls=.ref C/\∀ a,H' a=none->ts {nx:=fun σ' H2=>D.nx (σ'.set i none) H2,rt:=D.rt,bk:=fun σ' H2=>D.bk (σ'.set i none) H2,ct:=fun σ' H2=>D.ct (σ'.set i none) H2} (σ.set i (some (.ref a))) (upd H' a (qp5 a C od))) σ H fun v H'=>D.nx (σ.set j (some v)) H'
section
variable{D:Addr}
theorem zp9{Cs:List Addr}{te:XK->TE}{ts:TS}{b₀:Stmt}{suite:List Stmt}{ep hp zp:Pos}{y n:Str}{i j:Nat}(he:PX X e te)(hg:Gl X y)(hm:X.mg y=some (.ref D))(hx:∀ C∈Cs,PySem.W.exmOne X.K (.ref C) (.ref D)=some true)(hN:X.N.Nodup)(hi:X.N[i]?=some n)(hk:X.env.scope.names.lookup n=some .local)(hj:X.N[j]?=some z)(hz:X.env.scope.names.lookup z=some .local)(hs:∀ a xe',PSs (X.held a xe') (b₀::suite) ts)(hex:autoParam (X.ex=[]) zAr)(hst:autoParam (X.stack=X.env::X.outer) zAr)(hf:autoParam (X.env.frame=some X.env.locals) zAr)(hsw:autoParam (swapsWith e (some (.Name z zp)) ep.line X.env=pure false) zAr)(hdb:autoParam ((y == ("__debug__":Str))=false) zAd) :
 PS X (.Try [.Assign [.Name z zp] e ep] [.ExceptHandler (some (.Name y np)) (some n) (b₀::suite) hp] [] [] pos) (yq8 Cs i j te ts):=by
 intro pins s σ H D I h
 refine wpAny_Try_except (wpAny_execs_cons (wpAny_Assign_Name (thn (he pins s σ H _ _ _ I (fun H1 s1 e s2 I1 F=>?_) h) fun v s1 ⟨v',H1,I1,r1,q1⟩=>?_) hsw))
 ·refine Aj6 hst hf I1 F fun a cls od H' s3 e1 na hE J ⟨oe,o1,o2⟩ k=>?_
  obtain⟨C,hC,rfl,q⟩:=hE
  refine wpAny_handleBy_cons (codeAny_handlers_test (qq4 (J.held a fun _ _=>False) hg hm ?_ hdb)) (by intro q;cases q)
  have lk:PySem.W.Looks (model X.prog X.w) s3.heap (typeOf (.ref a)) (.ref C):=o2▸(PySem.W.Looks.ld o1).andThen .now
  refine(PySem.W.exm_one J.kIn lk (hx C hC)).here ?_
  refine codeAny_handlers_suite_as (k _ _ _ fun s4 J4 ⟨oe4,p1,p2,p3⟩ nH=>?_)
  have J5:=Inv.track I1 na J4 nH hex (zp6 p1 p2 p3.1 p3.2)
  refine we8 J5 hN hi (.inl hk) (v:=.ref a) rfl (fun s5 J6=>?_) (.inr hk)
  refine wpAny_mono (hs a _ pins s5 _ _ _ (J6.held a _) (q a nH)) (fun f s6 z=>?_) fun _ _ z=>z
  have z:=z.unheld I.ok
  cases f with
  | next=>obtain⟨σ',H2,J7,q7⟩:=z;exact wu9 J7 hN hi hk fun s7 J8=>⟨_,H2,J8,q7⟩
  | brk=>obtain⟨σ',H2,J7,q7⟩:=z;exact wu9 J7 hN hi hk fun s7 J8=>⟨_,H2,J8,q7⟩
  | cont=>obtain⟨σ',H2,J7,q7⟩:=z;exact wu9 J7 hN hi hk fun s7 J8=>⟨_,H2,J8,q7⟩
  | ret u=>obtain⟨v,σ',H2,J7,r7,q7⟩:=z;exact wu9 J7 hN hi hk fun s7 J8=>⟨v,_,H2,J8,r7,q7⟩
 ·exact we8 I1 hN hj (.inl hz) r1 (fun s2 I2=>wpAny_execs_nil (wpAny_execs_nil ⟨_,H1,I2,q1⟩)) (.inr hz)
end
def yc4(K:Fg)(ta tv:TE)(f:Str):TS:=fun D σ H=>tv σ H fun y H1=>ta σ H1 fun x H2=>∃ e C dx fs,x=.ref e/\H2 e=some (ErX e C (some dx))/\H2 dx=some (.xd fs)/\fs.length<=100/\SeI K C f /\
 D.nx σ (upd H2 dx (.xd ((f,y)::fs)))
section
variable{f:Str}
theorem yl5{fs:List (Str×V)}{f:Str}(h:fs.lookup f≠none):f∈fs.map (·.1):=by
 induction fs with
 | nil=>exact absurd rfl h
 | cons p r ih =>
   obtain⟨k,v⟩:=p
   by_cases e:f=k
   ·subst e;simp
   ·rw[List.lookup_cons,show(f == k)=false from beq_false_of_ne e] at h
    exact List.mem_cons_of_mem _ (ih h)
theorem zq0(ha:PE X o ta)(hv:PE X value tv)(hs:swapsWith value (some (.Attribute o f pos')) pos.line X.env=pure false):PS X (.Assign [.Attribute o f pos'] value pos) (yc4 X.K ta tv f):=by
 intro pins s σ H D I h
 refine plainObj_wpAny_Assign_Attribute (thn (hv pins s σ H _ I h) fun u s1 ⟨y,H1,I1,ry,q⟩=>thn (ha pins s1 σ H1 _ I1 q) fun ov s2 zq=>?_) hs
 obtain⟨x,H2,I2,rx,e,C,dx,fs,ex,he,hd,hl,S,q2⟩:=zq
 subst ex
 obtain rfl:ov=Value.ref e:=rx
 obtain⟨bm,N,nm,qn,bs,sn,sub,ab,col,dd,k0,k1,k2,k3,k5,hC,T⟩:=qw8 I2.kIn S.qi
 obtain⟨⟨t0,g0⟩,_⟩:=I2.hok _ _ he
 obtain⟨mA,hn,r⟩:=I2.hok _ _ hd
 have ne:dx≠e:=fun z=>by subst z;unfold ErX at he;rw[he] at hd;cases hd
 have In:s2.heap.Inst e C mA:=⟨_,g0,rfl,fun c z=>(by cases z),.inr ⟨dx,rfl,ne,hn⟩⟩
 obtain⟨hh,g,d,tt,os⟩:=s2
 refine Ak0 F.store_ValueError T I2.kIn hC S.sa S.hy In (fun h' tk' I' k c ht=>?_) (ns:=fs.map (·.1)) (fun z hz=>yl5 fun e=>?_) (by rw[List.length_map];omega)
 ·obtain⟨o1,g1,c1,c2,c3,c4,c5⟩:=c _ g0
  have c4:=c4 dx rfl
  have g1':h'.get? e=some {cls:=.ref C,dict:=some dx,data:=.fields #[.ref t0,.none,.none,.none,.bool false,.none]}:=by
   obtain⟨oc,od,odt,osl⟩:=o1
   have c1:oc=.ref C:=c1
   have c2:odt=.fields #[.ref t0,.none,.none,.none,.bool false,.none]:=c2
   have c3:osl=#[]:=c3
   have c4:od=some dx:=c4
   rw[c1,c2,c3,c4] at g1
   exact g1
  have k':∀ b u,b≠dx->hh.get? b=some u->h'.get? b=some u:=fun b u nb gb=>by
   by_cases z:b=e
   ·subst z;rw[g0] at gb;cases gb;exact g1'
   ·exact k b u z (fun o0 dx' z1 z2=>by rw[g0] at z1;cases z1;cases z2;exact nb) gb
  obtain⟨o2,f1,f2,f3,f4⟩:=I'
  rw[g1'] at f1
  cases f1
  obtain⟨d',e1,e2,hn'⟩:∃ d',(some dx:Option Addr)=some d'/\d'≠e/\h'.Ns1 d' (fun z=>if z=f then some u else mA z):=by
   rcases f4 with⟨z,_⟩|h
   ·cases z
   ·exact h
  cases e1
  have J:=Inv.write (x:=dx) (e:=dx) (o:=.xd ((f,y)::fs)) (h':=h') (t':=tk') I2 (by rw[hd];exact True.intro) (.inl rfl) k' (by obtain⟨o,es,ep,e,_⟩:=hn';exact⟨_,e⟩) ⟨_,hn',fun f'=>?_⟩ (Nat.lt_of_lt_of_le I2.tk ht)
  ·exact⟨σ,_,J,q2⟩
  ·show wa5 (((f,y)::fs).lookup f') (if f'=f then some u else mA f')
   by_cases z:f'=f
   ·subst z;rw[if_pos rfl,List.lookup_cons_self];exact ry
   ·rw[if_neg z,List.lookup_cons,show(f' == f)=false from beq_false_of_ne z];exact r f'
 ·have:=r z
  rw[e] at this
  cases h:mA z with
  | none=>exact hz h
  | some u=>rw[h] at this;exact this
theorem zq1(h:tv σ H fun y H1=>ta σ H1 fun x H2=>∃ e C dx fs,x=.ref e/\H2 e=some (ErX e C (some dx))/\H2 dx=some (.xd fs)/\fs.length<=100/\SeI K C f/\D.nx σ (upd H2 dx (.xd ((f,y)::fs)))):yc4 K ta tv f D σ H:=h
end
theorem xr0{P:Program}{w:World}:∀ {ns:List Int} {us:List Value},J9 (ns.map V.int) us->(∀ n∈ns,n.natAbs<2 ^ 200)->ReprAll P w us (ns.map fun n=>Str.ofString (toString n))
 | [],_,h,_=>by cases h;exact .nil
 | n :: ns,_,h,hb=>by
   cases h with
   | cons r t =>
     obtain⟨tk,rfl⟩:=r
     refine .cons (ReprIs.int tk ?_) (xr0 t fun m hm=>hb m (List.mem_cons_of_mem _ hm))
     have:=hb n (List.mem_cons_self ..)
     by_cases z:n.natAbs=0
     ·rw[z];decide
     ·exact Nat.lt_of_lt_of_le ((Nat.log2_lt z).mpr this) (by decide)
theorem zg0(hb:∀ n∈ns,n.natAbs<2 ^ 200):(tupleText (ns.map fun n=>Str.ofString (toString n))).length<=2000*ns.length+3:=by
 refine Nat.le_trans (tupleText_len_le _) ?_
 have:∀ l:List Int,(∀ n∈l,n.natAbs<2 ^ 200)->((l.map fun n=>Str.ofString (toString n)).map (·.length)).sum<=1921*l.length:=by
  intro l
  induction l with
  | nil=>intro _;simp
  | cons n r ih =>
    intro h
    have h1:=ih fun m hm=>h m (List.mem_cons_of_mem _ hm)
    have h2:(Str.ofString (toString n)).length<=1921:=by
     have:=h n (List.mem_cons_self ..)
     refine int_text_len_1921 ?_
     by_cases z:n.natAbs=0
     ·rw[z];decide
     ·exact Nat.lt_of_lt_of_le ((Nat.log2_lt z).mpr this) (by decide)
    simp only[List.map_cons,List.sum_cons,List.length_cons]
    omega
 have:=this ns hb
 rw[List.length_map]
 omega
def Ac4(K:Fg)(c1 c2:Str)(t1 t2:TE):TE:=fun σ H Q=>t1 σ H fun x H1=>∃ r:Str,x=.str r/\r.length<=4096/\t2 σ H1 fun y H2=>∃ (p:Addr) (ns:List Int),y=.ref p/\SqT K H2 p (ns.map V.int)/\ns.length<=1000/\(∀ n∈ns,n.natAbs<2 ^ 200)/\∀ z,Q (.str z) H2
variable{t1 t2:TE}
theorem Ac5{Q:VK}(h:t1 σ H fun x H1=>∃ r:Str,x=.str r/\r.length<=4096/\t2 σ H1 fun y H2=>∃ (p:Addr) (ns:List Int),y=.ref p/\SqT K H2 p (ns.map V.int)/\ns.length<=1000/\(∀ n∈ns,n.natAbs<2 ^ 200)/\∀ z,Q (.str z) H2):Ac4 K c1 c2 t1 t2 σ H Q:=h
section
variable{e1 e2:Expr}
theorem Ac6{j1 j2:Nat}{p1 p3 p4:Pos}(hg:X.A.guards=some [])(hu:X.A.units<cLine)(he1:PE X e1 t1)(he2:PE X e2 t2)(h1:autoParam (c1.length<=4096) zAd)(h2:autoParam (c2.length<=4096) zAd) :
 PE X (.JoinedStr [.Constant (.str c1) j1 p1,.FormattedValue e1 (-1) none p2,.Constant (.str c2) j2 p3,.FormattedValue e2 114 none p4] pos) (Ac4 X.K c1 c2 t1 t2):=by
 intro pins s σ H Q I h
 have e0:Str.empty++c1=c1:=Str.empty_append c1
 have hs:sizeLine=16777216:=sizeLine_eq
 refine JoinedStr_many (joinParts_cons (Calls.Constant_str ?_))
 refine⟨by rw[e0,hs];omega,?_⟩
 rw[e0]
 refine joinParts_cons (FormattedValue_plain (thn (he1 pins _ σ H _ (I.tok _) h) fun u s1 zq=>?_))
 obtain⟨x,H1,I1,r1,z,ez,hz,q⟩:=zq
 subst ez
 obtain⟨tk,rfl⟩:=r1
 refine wpAny_with_toks (n:=1) I1.tk (formatField_str (fun t' tk'=>?_) (by rw[hs];omega))
 intro htk
 refine⟨by rw[strLen_append,hs];omega,?_⟩
 refine joinParts_consE (joinParts_cons (Calls.Constant_str ?_))
 refine⟨by rw[strLen_append,strLen_append,hs];omega,?_⟩
 refine joinParts_consE (joinParts_cons (wpAny_FormattedValue_repr (thn (he2 pins _ σ H1 _ (I1.tok _) q) fun u s2 zq=>?_)))
 obtain⟨y,H2,I2,r2,p,ns,ey,hp,hl,hb,q2⟩:=zq
 subst ey
 obtain rfl:u=Value.ref p:=r2
 have hlen:=zg0 hb
 obtain⟨its,rv,⟨o,ho,hc,n,hdt⟩,_⟩:=I2.tuple hp
 refine wpAny_with_toks (n:=1) I2.tk (wpAny_pyReprObj_tuple (g:=[]) ⟨o,ho,hc⟩ hg (fun c hc=>nomatch hc) hu ho hdt (xr0 rv hb) (fun u tk2=>?_) (by rw[hs];omega))
 intro htk2
 refine wpAny_with_toks (n:=1) htk2 (formatField_str (fun t' tk'=>?_) (by rw[hs];omega))
 intro htk3
 refine⟨by rw[strLen_append,strLen_append,strLen_append,hs];omega,joinParts_nilE (joinParts_nil ?_ (by rw[strLen_append,strLen_append,strLen_append,hs];omega))⟩
 exact⟨.str _,H2,I2.tok _,⟨_,rfl⟩,q2 _⟩
end
def qu1(K:Fg):List V->Hp->VK->Prop:=fun xs H Q=>zf9 K xs H Q \/
 ∃ (a C p:Addr) (od:Option Addr) (cs:List Addr) (b:Bool),xs=[.ref a,.ref p]/\H a=some (qp5 a C od)/\xu5 K C/\SqT K H p (cs.map V.ref)/\PySem.W.kitAny K (.ref C) (cs.map Value.ref)=some b/\Q (.bl b) H
theorem O7:V3 X (.builtin "isinstance") (qu1 X.K):=by
 intro pins s σ H xs us Q I r h
 rcases h with h|⟨a,C,p,od,cs,b,rfl,ha,E,hq,e,q⟩
 ·exact wk4 pins s σ H xs us Q I r h
 ·obtain⟨u,w',rfl,r1,r2⟩:=xp4 r
  cases r1
  cases r2
  obtain⟨⟨o',e1,e2,_⟩,_,_⟩:=(show O8 X.prog X.w H s.heap a (qp5 a C od) from I.hok a _ ha)
  obtain⟨its,rv,⟨o,h1,h2,n,h3⟩,hz⟩:=I.tuple hq
  obtain⟨oc,od',odt,osl⟩:=o
  simp only at h2 h3
  subst h2 h3
  rw[xq8 rv] at h1
  exact wpAny_with_toks (n:=1) I.tk (PySem.W.kia_tup (yc1 E.z E.c) I.kIn ⟨o',e1,e2⟩ h1 e (fun z=>nomatch z) fun tk ht=>⟨.bl b,H,I.tok _ ht,rfl,q⟩)
section
variable{Q:VK}{D:Addr}{b:Bool}
theorem xu9(ha:H a=some (qp5 a C od))(E:xu5 K C)(hc:qv1 K D)(h:PySem.W.subIn K (.ref C) (.ref D)=some b)(q:Q (.bl b) H):qu1 K [.ref a,.ref D] H Q:=.inl (Ac3 ha E hc h q)
theorem yq9(ha:H a=some (qp5 a C od))(E:xu5 K C)(hm:PySem.W.kitMeta T=true)(h:PySem.W.subIn K (.ref C) (.type T)=some b)(q:Q (.bl b) H):qu1 K [.ref a,.ty T] H Q :=
 .inl (.inr ⟨a,C,od,.ty T,.type T,b,rfl,ha,E,fun u r=>r,Ab6 hm h,q⟩)
theorem yr0(ha:H a=some (qp5 a C od))(E:xu5 K C)(hq:SqT K H p (cs.map V.ref))(h:∀ D∈cs,qv1 K D/\PySem.W.subIn K (.ref C) (.ref D)=some false)(q:Q (.bl false) H):qu1 K [.ref a,.ref p] H Q :=
 .inr ⟨a,C,p,od,cs,false,rfl,ha,E,hq,zf7 E h,q⟩
theorem yr1(h:wa9 K xs H Q):qu1 K xs H Q:=.inl (.inl h)
end
theorem yl6(l:Addr)(items:Array Value)(n:Nat)(dd:Option Addr)(sl:Array (Option Value))(x:Int)(u:Tok)(hx:x<=0)(hx2:-(2 ^ 63)<=x)(hne:items.isEmpty=false) :
 Meets (Builtin.«tuple.__mul__» ⟨[.ref l,.int x u],[]⟩) (fun _ R s=>s.heap.get? l=some {cls:=.type "tuple",dict:=dd,data:=.seq items n,slots:=sl} /\
  R (.ok (.ret (Value.ref s.heap.objs.size))) {s with heap:=s.heap.push {cls:=Value.type "tuple",data:=Data.seq #[]}}) :=
 .of_wp fun prog w A R s h=>by
  obtain⟨hp,g,d,tk,os⟩:=s;obtain⟨hl,h⟩:=h
  have f1:=AutoSeq1.idx_int;have f2:=AutoSeq1.sub_tuple_tuple
  have e1:¬(decide (x < -(2 ^ 63)) || decide (x>=2 ^ 63))=true:=by simp;omega
  have e2:¬(items.isEmpty || x == 1)=true:=by rw[hne];simp;omega
  have e3:(decide (x<=0) || items.isEmpty)=true:=by simp[hx]
  wp_walk using AutoSeq1.wpAny_loadPart' hl
  refine wpAny_ite_false (by simpa using e1) ?_
  wp_walk using AutoSeq1.wpAny_loadPart' hl
  refine wpAny_ite_false (decide_eq_false e2) ?_
  show wpAny _ _ (if _ then _ else _) _ _ _
  refine wpAny_ite_true (decide_eq_true e3) ?_
  wp_walk using AutoSeq1.wpAny_loadPart' hl
  exact⟨_,rfl,h⟩
theorem yl7(l:Addr)(items:Array Value)(n:Nat)(dd:Option Addr)(sl:Array (Option Value))(x:Int)(u:Tok)(hx:x<2 ^ 63)(hx2:-(2 ^ 63)<=x)(hne:items.isEmpty=true) :
 Meets (Builtin.«tuple.__mul__» ⟨[.ref l,.int x u],[]⟩) (fun _ R s=>s.heap.get? l=some {cls:=.type "tuple",dict:=dd,data:=.seq items n,slots:=sl}/\R (.ok (.ret (Value.ref l))) s) :=
 .of_wp fun prog w A R s h=>by
  obtain⟨hp,g,d,tk,os⟩:=s;obtain⟨hl,h⟩:=h
  have f1:=AutoSeq1.idx_int;have f2:=AutoSeq1.sub_tuple_tuple
  have e1:¬(decide (x < -(2 ^ 63)) || decide (x>=2 ^ 63))=true:=by simp;omega
  have e2:(items.isEmpty || x == 1)=true:=by rw[hne];rfl
  wp_walk using AutoSeq1.wpAny_loadPart' hl
  refine wpAny_ite_false (by simpa using e1) ?_
  wp_walk using AutoSeq1.wpAny_loadPart' hl
  exact⟨_,rfl,h⟩
def zu6(K:Fg):R2:=fun x y H Q=>∃ a k,x=.ref a/\y=.int k/\SqT K H a []/\k<2 ^ 63/\-(2 ^ 63)<=k/\Q (.ref a) H
theorem zq2:OpR X (binaryOp .Mult) (zu6 X.K):=by
 intro pins s σ H x y v u Q I rx ry h
 obtain⟨a,k,rfl,rfl,ha,h1,h2,q⟩:=h
 cases rx
 obtain⟨t,rfl⟩:=ry
 obtain⟨its,r,p,_⟩:=I.tuple ha
 obtain⟨⟨cls,dd,data,sl⟩,ho,hc,n,hd⟩:=id p
 simp only at hc hd
 subst hc hd
 have hi:its=[]:=r.nil_iff.mpr rfl
 subst hi
 refine wpAny_binaryOp_repeat_ref (T := "tuple") (U := "int") (by decide) ⟨_,ho,rfl⟩ (fun s'=>typeIs_int s' k t) qe2 F.fills_int_mul F.slot_int_rmul qr2 F.slot_int_index.lookup
  (call_meets F.slot_int_rmul (typeIs_int s k t) F.entry_int_rmul (F.args_int_rmul_2 _ _) (qk4 k t a [].toArray n dd sl)
   ⟨ho,rfl,⟨_,ho,rfl⟩,?_⟩)
 exact call_meets F.slot_tuple_mul ⟨_,ho,rfl⟩ F.entry_tuple_mul (F.args_tuple_mul_2 _ _) (yl7 a [].toArray n dd sl k t h1 h2 rfl) ⟨ho,.ref a,H,I,rfl,q⟩
def zu7(K:Fg):R2:=fun x y H Q=>∃ a k xs,x=.ref a/\y=.int k/\SqT K H a xs/\xs≠[]/\k<=0/\-(2 ^ 63)<=k/\∀ p,H p=none->Q (.ref p) (upd H p (.tup []))
theorem zq3:OpR X (binaryOp .Mult) (zu7 X.K):=by
 intro pins s σ H x y v u Q I rx ry h
 obtain⟨a,k,xs,rfl,rfl,ha,hne,h1,h2,q⟩:=h
 cases rx
 obtain⟨t,rfl⟩:=ry
 obtain⟨its,r,p,_⟩:=I.tuple ha
 obtain⟨⟨cls,dd,data,sl⟩,ho,hc,n,hd⟩:=id p
 simp only at hc hd
 subst hc hd
 have hi:its≠[]:=fun z=>hne (r.nil_iff.mp z)
 refine wpAny_binaryOp_repeat_ref (T := "tuple") (U := "int") (by decide) ⟨_,ho,rfl⟩ (fun s'=>typeIs_int s' k t) qe2 F.fills_int_mul F.slot_int_rmul qr2 F.slot_int_index.lookup
  (call_meets F.slot_int_rmul (typeIs_int s k t) F.entry_int_rmul (F.args_int_rmul_2 _ _) (qk4 k t a its.toArray n dd sl)
   ⟨ho,rfl,⟨_,ho,rfl⟩,?_⟩)
 refine call_meets F.slot_tuple_mul ⟨_,ho,rfl⟩ F.entry_tuple_mul (F.args_tuple_mul_2 _ _) (yl6 a its.toArray n dd sl k t h1 h2 (by simpa using hi)) ⟨ho,?_⟩
 refine⟨.ref s.heap.objs.size,_,I.laid (t':=s.toks) (o:=.tup []) (fun b ob q=>Heap.get?_push_of_some _ q) (Nat.le_refl _) ?_,rfl,q _ (I.hok.fresh (Nat.le_refl _))⟩
 exact⟨Nat.zero_le _,[],.nil,IsTup.new _ _⟩
def yc5(K:Fg):R2:=fun x y H Q=>ze7 K x y H Q\/zu7 K x y H Q\/zu6 K x y H Q
theorem xv0:OpR X (binaryOp .Mult) (yc5 X.K):=zo8.or (zq3.or zq2)
section
variable{Q:VK}
theorem zg1{k:Nat}(h:H a=some (.tup xs))(h63:k<=1000)(hz:xs.length*k<=sizeLine)(q:∀ p H',A6 H H'->H' p=some (.tup (List.replicate k xs).flatten)->Q (.ref p) H'):yc5 K (.ref a) (.int k) H Q:=by
 have hs:sizeLine=16777216:=sizeLine_eq
 by_cases hx:xs=[]
 ·subst hx
  exact .inr (.inr ⟨a,k,rfl,rfl,SqT.of h,by omega,by omega,q a H (fun _ _ e=>e) (by rw[h];simp)⟩)
 by_cases h0:k=0
 ·subst h0
  exact .inr (.inl ⟨a,0,xs,rfl,rfl,SqT.of h,hx,by decide,by decide,fun p hp=>q p _ (A6.new hp _) A7⟩)
 ·have hl:1<=xs.length:=Nat.pos_of_ne_zero fun z=>hx (List.eq_nil_of_length_eq_zero z)
  have hk:k<=xs.length*k:=Nat.le_mul_of_pos_left _ hl
  exact .inl (Ab4 h hx (by omega) (by omega) (by rw[Int.toNat_natCast];exact hz) (by rw[Int.toNat_natCast];exact q))
theorem zg2(hq:SqT K H a xs)(Pv:Nat->St->Hp->Prop)(h0:Pv 0 σ H)(hk:∀ i σ H',Pv i σ H'->SqT K H' a xs)(hs:∀ i x σ H,xs[xs.length-1-i]?=some x->i<xs.length->Pv i σ H->g x σ H fun σ2 H2=>tb {D with nx:=PAt Pv (i+1),ct:=PAt Pv (i+1),bk:=D.nx} σ2 H2)(hd:∀ σ H,Pv xs.length σ H->D.nx σ H) :
 ∃ b ys,[V.ref a]=[.ref b]/\SqT K H b ys/\wx1 g tb D σ (zp3 K b ys.length) H:=by
 refine⟨a,xs,rfl,hq,fun i m σ H=>m=xs.length-i/\i<=xs.length/\Pv i σ H,⟨xs.length,by simp,Nat.zero_le _,h0⟩,?_⟩
 rintro i m σ H ⟨rfl,hi,p⟩
 have sq:=hk i σ H p
 by_cases hlt:i<xs.length
 ·refine .inr ⟨⟨hlt,xs,xs[xs.length-1-i],sq,List.getElem?_eq_getElem (by omega)⟩,Pv (i+1),fun σ' H' p'=>⟨xs.length-(i+1),by omega,rfl,hlt,p'⟩,fun x H' y=>?_⟩
  obtain⟨rfl,hz⟩:=y
  exact hs i x σ _ (hz xs sq) hlt p
 ·have e:i=xs.length:=by omega
  subst e
  exact .inl ⟨rfl,hd σ H p⟩
end
end L2
local macro_rules | `(tactic| lk) => do
 let a <- ("xu0 V9 S7 zz2 N1 Ah1 zc7 Ah2 zz3 yp7 zu0 zz4 yp8 Am1 Ah3 zz5 Ah4 zz6 zn1 zz7 zn2 zz8 zz9 zn3 Ah5 Ah6 wf7 Aa0 Ah7 zc9 zc5 zn0 zc8 zn4 zn5 Ai5 zn8 yw7 Aa6 Aa7 zo4 ze2 zo1 Ab0 zo6 Ab3 Ai9 zn9 qq9 Aa1 Ah9 Ai0 Ai1 Ai2 zu2 yq0 yb2 Ai6 Am2 zn6".splitOn " ").toArray.mapM fun n => `(Lean.Parser.Tactic.tacticSeq| refine $(Lean.mkIdent (.str `L2 n)) ?_)
 `(tactic| (repeat (first | (with_reducible first $[| $a]*) | ((with_reducible refine' L2.xu1 ?ev ?_); (case ev => exact rfl)) | ((with_reducible refine L2.Ah8 ?ec ?_); (case ec => first | decide | omega | assumption)) | ((with_reducible refine L2.Aa2 ?ec ?_); (case ec => first | exact ⟨by decide, by decide⟩ | exact ⟨by omega, by omega⟩)))))
local macro_rules | `(tactic| x_go) => `(tactic| refine L2.V9 ?_)
local macro_rules | `(tactic| k_go) => `(tactic| refine L2.S7 ?_)
namespace My
open PySem L2
variable{H H':Hp}{K:Fg}{Q:VK}{v:V}{x y:Str}{i:Nat}{α:Type}{E:XK}{vs:List V}
section
open PyProof.Rows
set_option genInjectivity false in
structure Row where
 name:Str
 sort:Str
 host:Str
 shuts:List Str
 bars:List Str
def Row.da(r:Row):PyData:=.tuple [.str r.name,.str r.sort,.str r.host,.tuple (sDa r.shuts),.tuple (sDa r.bars)]
def oV:Option Str->V
 | some s=>.str s
 | none=>.non
theorem N3{r:Row}(h:Dv K H r.da v):∃ b sv bv,v=.ref b/\SqT K H b [.str r.name,.str r.sort,.str r.host,sv,bv]/\Dv K H (.tuple (sDa r.shuts)) sv/\Dv K H (.tuple (sDa r.bars)) bv:=by
 obtain⟨b,ys,rfl,hb,h⟩:=C3.mp h
 rw[Dvs] at h;obtain⟨v1,r1,rfl,e1,h⟩:=h
 rw[Dvs] at h;obtain⟨v2,r2,rfl,e2,h⟩:=h
 rw[Dvs] at h;obtain⟨v3,r3,rfl,e3,h⟩:=h
 rw[Dvs] at h;obtain⟨v4,r4,rfl,e4,h⟩:=h
 rw[Dvs] at h;obtain⟨v5,r5,rfl,e5,h⟩:=h
 rw[Dvs] at h;subst h
 rw[N6.mp e1,N6.mp e2,N6.mp e3] at hb
 exact⟨b,v4,v5,rfl,hb,e4,e5⟩
def Rws(K:Fg)(H:Hp)(v:V)(rs:List Row):Prop:=∃ a vs,v=.ref a/\(SqL K H a vs\/SqT K H a vs)/\Dvs K H (rs.map Row.da) vs
theorem zu8 {n:Option Str} (h:Q (.bl (decide (some x=n))) H):Q7 K (.str x) (oV n) H Q:=by
 cases n with
 | none => refine yw5 rfl ?_;have e:(decide ((V.str x)=oV none))=decide (some x=none):=by simp[oV]
           rw[e];exact h
 | some y => refine yw5 rfl ?_;have e:(decide ((V.str x)=oV (some y)))=decide (some x=some y):=by simp[oV]
             rw[e];exact h
theorem yq0(h:Q (.bl (decide (x=y))) H):Q7 K (.str x) (.str y) H Q:=by
 refine yw5 rfl ?_
 have e:(decide ((V.str x)=V.str y))=decide (x=y):=by simp
 rw[e];exact h
theorem yb2(h:Q (.bl (!decide (x=y))) H):W5 K (.str x) (.str y) H Q:=by
 refine Aa3 rfl ?_
 have e:(decide ((V.str x)=V.str y))=decide (x=y):=by simp
 rw[e];exact h
theorem zu2{x y:Int}(h:Q (.bl (decide (x=y))) H):Q7 K (.int x) (.int y) H Q:=by
 refine yw5 rfl ?_
 have e:(decide ((V.int x)=V.int y))=decide (x=y):=by simp
 rw[e];exact h
def Z3(rs:List Row)(n:Option Str):Option Row:=rs.find? fun r=>decide (some r.name=n)
def qa7(rs:List Row)(n:Option Str):Option Str:=(Z3 rs n).map (·.sort)
def T9(rs:List Row)(n:Option Str):Option Str:=(Z3 rs n).bind fun r=>if r.sort=("frame":Str) then some r.host else none
def frameOf(rs:List Row)(n:Option Str):Option Str:=(rs.find? fun r=>decide (r.sort=("frame":Str)) && decide (some r.host=n)).map (·.name)
def qj7(K:Fg):Sp:=fun vs H Q _=>∃ v n rs,vs=[v,oV n]/\Rws K H v rs/\(Z3 rs n=none->Q .non H)/\∀ r u,Z3 rs n=some r->Dv K H r.da u->Q u H
theorem yl8(K:Fg):∀ vs H Q E,qj7 K vs H Q E->vs.length=["rows","name"].length:=by
 rintro vs H Q E ⟨v,n,rs,rfl,_⟩;rfl
def wg2(K:Fg):TS :=
 (C1 (qh9 (qi1 K (A4 0)) (B3 2)
 (M3 (D6 (tOp (Q7 K) (tOp (I9 K) (A4 2) (tC (.int 0))) (A4 1)))
 (G9 (A4 2)) E8))
 (G9 (tC .non)))
theorem qb5{α:Type}{p:α->Bool}:∀ {l:List α} {i:Nat} {x:α},l[i]?=some x->(∀ y∈l.take i,p y=false)->p x=true->l.find? p=some x
 | y::l,0,x,e,_,hp=>by cases e;rw[List.find?_cons,hp]
 | y::l,i+1,x,e,h,hp=>by
   have hy:p y=false:=h y (by simp)
   rw[List.find?_cons,hy]
   exact qb5 (i:=i) (by simpa using e) (fun z hz=>h z (by simp[hz])) hp
theorem qw9{P:α->Prop}{l:List α}{x:α}(e:l[i]?=some x)(h:∀ y∈l.take i,P y)(hx:P x):∀ y∈l.take (i+1),P y:=by
 intro y hy
 rw[List.take_add_one,e] at hy
 rcases List.mem_append.mp hy with z|z
 ·exact h y z
 ·have:y=x:=by simpa using z
  subst this;exact hx
theorem yy4(h:qj7 K vs H Q E):wg2 K {nx:=fun _ H'=>Q .non H',rt:=Q} (J0 ["rows","name","row"] vs) H:=by
 obtain⟨v,n,rs,rfl,⟨a,xs,rfl,hq,hd⟩,h1,h2⟩:=h
 show wg2 K _ [some (.ref a),some (oV n),none] H
 have hlen:xs.length=rs.length:=by have:=hd.length;simpa using this
 unfold wg2
 refine xu0 (zc5 (zc8 (xu1 rfl ?_)))
 refine yp6 hq (fun i σ H'=>H'=H/\(∃ w,σ=[some (.ref a),some (oV n),w])/\∀ r∈rs.take i,decide (some r.name=n)=false) ⟨rfl,⟨_,rfl⟩,by simp⟩ (fun hl i σ H' _ p=>p.1▸hl) (fun ht i σ H' _ p=>p.1▸ht) ?_ ?_
 ·rintro i x σ H' hx ⟨rfl,⟨w,rfl⟩,hn⟩
  obtain⟨d,hd1,hd2⟩:=hd.get' hx
  rw[List.getElem?_map] at hd1
  obtain⟨r,hr,rfl⟩:=Option.map_eq_some_iff.mp hd1
  obtain⟨b,sv,bv,rfl,hb,hsv,hbv⟩:=N3 hd2
  refine N1 (zu0 (yp8 (zc7 (zc7 (xu1 rfl (Ah1 (G7 hb rfl (xu1 rfl (zu8 ⟨_,rfl,?_⟩)))))))))
  by_cases e:some r.name=n
  ·rw[decide_eq_true e,if_pos rfl]
   refine⟨_,rfl,?_⟩
   exact h2 r _ (qb5 hr hn (decide_eq_true e)) hd2
  ·rw[decide_eq_false e,if_neg Bool.false_ne_true]
   exact wf7 ⟨rfl,⟨_,rfl⟩,qw9 hr hn (decide_eq_false e)⟩
 ·rintro σ H' ⟨rfl,⟨w,rfl⟩,hn⟩
  show Q .non H'
  refine h1 ?_
  unfold Z3
  rw[List.find?_eq_none]
  intro r hr
  rw[hlen,List.take_length] at hn
  simp[hn r hr]
end
section
open PyProof.Rows
def qk5(K:Fg):Sp:=fun vs H Q _=>∃ v n rs,vs=[v,oV n]/\Rws K H v rs/\Q (oV (qa7 rs n)) H
def wk5(K:Fg):TS :=
 (C1 (E4 (C2 (qj7 K) [] E0 (A2 (A4 0) (A2 (A4 1) B0))) (B3 2))
 (G9 (tIf (D6 (tOp xt6 (A4 2) (tC .non))) (tC .non) (tOp (I9 K) (A4 2) (tC (.int 1))))))
theorem yl9(h:qk5 K vs H Q E):wk5 K {nx:=fun _ H'=>Q .non H',rt:=Q} (J0 ["book","name","row"] vs) H:=by
 obtain⟨v,n,rs,rfl,hR,q⟩:=h
 show wk5 K _ [some v,some (oV n),none] H
 refine⟨_,rfl,_,rfl,v,n,rs,rfl,hR,fun e=>?_,fun r u e hu=>?_⟩
 ·refine⟨_,rfl,rfl,_,rfl,?_⟩
  show Q .non H
  have:qa7 rs n=none:=by unfold qa7;rw[e];rfl
  rw[this] at q;exact q
 ·obtain⟨b,sv,bv,rfl,hb,_,_⟩:=N3 hu
  refine⟨_,rfl,rfl,_,rfl,?_⟩
  show(if decide (V.ref b=V.non)=true then _ else _)
  rw[decide_eq_false (by simp)];refine S7 ?_
  refine⟨_,rfl,G7 hb rfl ?_⟩
  have:qa7 rs n=some r.sort:=by unfold qa7;rw[e];rfl
  rw[this] at q;exact q
def qk6(K:Fg):Sp:=fun vs H Q _=>∃ v n rs,vs=[v,oV n]/\Rws K H v rs/\Q (oV (T9 rs n)) H
def wk6(K:Fg):TS :=
 (C1 (E4 (C2 (qj7 K) [] E0 (A2 (A4 0) (A2 (A4 1) B0))) (B3 2))
 (C1 (M3 (tOr (D6 (tOp xt6 (A4 2) (tC .non))) (D6 (tOp (W5 K) (tOp (I9 K) (A4 2) (tC (.int 1))) (tC (.str "frame")))))
 (G9 (tC .non)) E8)
 (G9 (tOp (I9 K) (A4 2) (tC (.int 2))))))
theorem ym0(h:qk6 K vs H Q E):wk6 K {nx:=fun _ H'=>Q .non H',rt:=Q} (J0 ["book","name","row"] vs) H:=by
 obtain⟨v,n,rs,rfl,hR,q⟩:=h
 show wk6 K _ [some v,some (oV n),none] H
 refine⟨_,rfl,_,rfl,v,n,rs,rfl,hR,fun e=>?_,fun r u e hu=>?_⟩
 ·refine⟨_,rfl,rfl,_,rfl,?_⟩
  show Q .non H
  have:T9 rs n=none:=by unfold T9;rw[e];rfl
  rw[this] at q;exact q
 ·obtain⟨b,sv,bv,rfl,hb,_,_⟩:=N3 hu
  refine⟨_,rfl,rfl,_,rfl,?_⟩
  show(if decide (V.ref b=V.non)=true then _ else _)
  rw[decide_eq_false (by simp)];refine S7 ?_
  refine⟨_,rfl,G7 hb rfl (yb2 ⟨_,rfl,?_⟩)⟩
  by_cases hs:r.sort=("frame":Str)
  ·rw[decide_eq_true hs,Bool.not_true];refine S7 ?_
   refine⟨_,rfl,G7 hb rfl ?_⟩
   have:T9 rs n=some r.host:=by unfold T9;rw[e];show(if r.sort=("frame":Str) then some r.host else none)=_;rw[if_pos hs]
   rw[this] at q;exact q
  ·rw[decide_eq_false hs,Bool.not_false];refine V9 ?_
   show Q .non H
   have:T9 rs n=none:=by unfold T9;rw[e];show(if r.sort=("frame":Str) then some r.host else none)=_;rw[if_neg hs]
   rw[this] at q;exact q
def qm2(K:Fg):Sp:=fun vs H Q _=>∃ v n rs,vs=[v,oV n]/\Rws K H v rs/\Q (oV (frameOf rs n)) H
def wd7(K:Fg):TS :=
 (C1 (qh9 (qi1 K (A4 0)) (B3 2)
 (M3 (wa6 (D6 (tOp (Q7 K) (tOp (I9 K) (A4 2) (tC (.int 1))) (tC (.str "frame")))) (D6 (tOp (Q7 K) (tOp (I9 K) (A4 2) (tC (.int 2))) (A4 1))))
 (G9 (tOp (I9 K) (A4 2) (tC (.int 0)))) E8))
 (G9 (tC .non)))
theorem yc8(h:qm2 K vs H Q E):wd7 K {nx:=fun _ H'=>Q .non H',rt:=Q} (J0 ["book","name","row"] vs) H:=by
 obtain⟨v,n,rs,rfl,⟨a,xs,rfl,hq,hd⟩,q⟩:=h
 show wd7 K _ [some (.ref a),some (oV n),none] H
 have hlen:xs.length=rs.length:=by have:=hd.length;simpa using this
 refine⟨_,rfl,yp6 hq (fun i σ H'=>H'=H/\(∃ w,σ=[some (.ref a),some (oV n),w])/\∀ r∈rs.take i,(decide (r.sort=("frame":Str)) && decide (some r.host=n))=false) ⟨rfl,⟨_,rfl⟩,by simp⟩ (fun hl i σ H' _ p=>p.1▸hl) (fun ht i σ H' _ p=>p.1▸ht) ?_ ?_⟩
 ·rintro i x σ H' hx ⟨rfl,⟨w,rfl⟩,hn⟩
  obtain⟨d,hd1,hd2⟩:=hd.get' hx
  rw[List.getElem?_map] at hd1
  obtain⟨r,hr,rfl⟩:=Option.map_eq_some_iff.mp hd1
  obtain⟨b,sv,bv,rfl,hb,hsv,hbv⟩:=N3 hd2
  refine⟨_,rfl,G7 hb rfl (yq0 ⟨_,rfl,?_⟩)⟩
  by_cases hs:r.sort=("frame":Str)
  ·rw[decide_eq_true hs];refine V9 ?_
   refine⟨_,rfl,G7 hb rfl ⟨_,rfl,zu8 ⟨_,rfl,?_⟩⟩⟩
   by_cases e:some r.host=n
   ·rw[decide_eq_true e];refine V9 ?_
    refine⟨_,rfl,G7 hb rfl ?_⟩
    have:frameOf rs n=some r.name:=by
     unfold frameOf
     rw[qb5 hr hn (by rw[decide_eq_true hs,decide_eq_true e];rfl)];rfl
    rw[this] at q;exact q
   ·rw[decide_eq_false e];refine S7 ?_
    exact⟨rfl,⟨_,rfl⟩,qw9 hr hn (by rw[decide_eq_false e,Bool.and_false])⟩
  ·rw[decide_eq_false hs];refine S7 ?_
   k_go
   exact⟨rfl,⟨_,rfl⟩,qw9 hr hn (by rw[decide_eq_false hs,Bool.false_and])⟩
 ·rintro σ H' ⟨rfl,⟨w,rfl⟩,hn⟩
  show Q .non H'
  have:frameOf rs n=none:=by
   unfold frameOf
   rw[List.find?_eq_none.mpr]
   ·rfl
   ·intro r hr
    rw[hlen,List.take_length] at hn
    rw[hn r hr];exact Bool.false_ne_true
  rw[this] at q;exact q
end
variable{n:Nat}{H1 H2 H0:Hp}{p d a b e:Addr}{xs ys:List V}{D:V0}{g:TG}{tb:TS}{σ σ':St}{te:TE}{tt:TT}{ds:List PyData}
section
variable{K:Fg}{vs:List V}{H:Hp}{Q:VK}{E:XK}
theorem G8(xs:List Str):(D4 xs).length=xs.length:=List.length_map _
def ch(c:Nat):Str:=⟨#[c]⟩
def Lt:Str := "abcdefghijklmnopqrstuvwxyz"
theorem yr2(h:x.cps.toList=y.cps.toList):x=y:=by
 obtain⟨a⟩:=x
 obtain⟨b⟩:=y
 exact congrArg Str.mk (Array.toList_inj.mp h)
theorem Ac7:∀ j:Nat,j<26->Lt.cps.toList[j]?=some (97+j):=by decide +kernel
theorem zg3:Lt.length=26:=by decide +kernel
theorem zu9{i:Int}(h0:0<=i)(h1:i<26):atI Lt.cps.toList i=some (97+i.toNat):=by
 have e:i=((i.toNat:Nat):Int):=by omega
 have q:atI Lt.cps.toList ((i.toNat:Nat):Int)=some (97+i.toNat):=D8 (Ac7 _ (by omega))
 rw[<-e] at q
 exact q
theorem zq4:∀ bs:List Nat,(PySem.Txt.join ("":Str) (bs.map ch)).cps.toList=bs:=by
 intro bs
 have e:PySem.Txt.join ("":Str) (bs.map ch)=Str.join ("":Str) (bs.map ch):=PySem.StrLaws.glued_eq_join _ _
 rw[e]
 induction bs with
 | nil=>rfl
 | cons b r ih =>
   cases r with
   | nil=>rfl
   | cons c r =>
     show((ch b++("":Str)++Str.join ("":Str) ((c::r).map ch)).cps).toList=_
     have ih:=ih (PySem.StrLaws.glued_eq_join _ _)
     show((ch b).cps++("":Str).cps++(Str.join ("":Str) ((c::r).map ch)).cps).toList=_
     rw[Array.toList_append,Array.toList_append,ih]
     rfl
theorem Ac8{c:Nat}{n:Int}(h:1<=n):(PySem.Txt.mul (ch c) n).cps.toList=List.replicate n.toNat c:=by
 unfold PySem.Txt.mul
 rw[if_neg (by omega)]
 have f:∀ (k:Nat) (acc:Array Nat),((List.replicate k #[c]).foldl (·++·) acc).toList=acc.toList++List.replicate k c:=by
  intro k
  induction k with
  | zero=>intro acc;simp
  | succ k ih=>intro acc;rw[List.replicate_succ,List.foldl_cons,ih];simp[List.replicate_succ]
 by_cases h1:n=1
 ·subst h1;rfl
 ·have e:(n == 1 || (ch c).length == 0)=false:=by
   have:(n == 1)=false:=by simpa using h1
   rw[this];rfl
  rw[e,if_neg Bool.false_ne_true]
  have:=f n.toNat #[]
  show(List.foldl (fun x1 x2=>x1++x2) #[] (List.replicate n.toNat #[c])).toList=_
  simpa using this
theorem D5(h:n<=100000):n<=sizeLine:=by rw[sizeLine_eq];omega
theorem A6.tr(a:A6 H H1)(b:A6 H1 H2):A6 H H2:=fun c o e=>b c o (a c o e)
theorem A6.put(s:A6 H H1)(h:H p=none)(o:HO):A6 H (upd H1 p o):=fun b u e=>by
 have nb:b≠p:=fun z=>by rw[z,h] at e;cases e
 rw[C6 nb];exact s b u e
theorem U6(h:H d=some (.lst xs)):qh4 H (upd H d (.lst ys)) :=
 ⟨fun b zs e=>by rw[C6 (fun z=>by rw[z,h] at e;cases e)];exact e,fun b o zs e=>by rw[C6 (fun z=>by rw[z,h] at e;cases e)];exact e⟩
theorem N2{o:HO}(h:H a=some o)(g:H b=none):a≠b:=fun e=>by rw[e,g] at h;cases h
theorem qe3(xs:List Str):(D4 xs).all ql8=true:=by unfold D4;rw[List.all_map];exact List.all_eq_true.mpr fun _ _=>rfl
theorem qk7(x:Str):∀ xs:List Str,inV (.str x) (D4 xs)=decide (x∈xs)
 | []=>by simp[D4,inV]
 | y::ys=>by
   have ih:=qk7 x ys
   unfold inV at ih ⊢
   show(eqV (.str y) (.str x) || (D4 ys).any fun z=>eqV z (.str x))=_
   rw[ih]
   by_cases e:x=y
   ·subst e;simp[eqV]
   ·have e':¬y=x:=fun z=>e z.symm
    simp[eqV,e,e']
def E9(ns:List Int):List V:=ns.map V.int
theorem M5(ns:List Int):(E9 ns).length=ns.length:=List.length_map _
theorem qx0(ns:List Int)(x:Int):E9 ns++[V.int x]=E9 (ns++[x]):=by simp[E9]
theorem yr3(a b:Str):(a++b).length=a.length+b.length:=PySem.Str.length_append a b
theorem zq5{ns:List Int}(h:i<ns.length):(E9 ns)[i]?=some (.int ns[i]):=by unfold E9;rw[List.getElem?_map,List.getElem?_eq_getElem h];rfl
theorem zg4(h:1<=n):ixN n (-1)=some (n-1):=by
 unfold ixN
 rw[if_neg (by decide),if_pos (by omega)]
 congr 1
 omega
theorem zq6(h:1<=xs.length)(e:xs[xs.length-1]?=some v):atI xs (-1)=some v:=by
 unfold atI
 rw[zg4 h];exact e
theorem Ak1(h:1<=n):ixN n 0=some 0:=by
 unfold ixN
 rw[if_pos (by decide),if_pos (by omega)];rfl
theorem qp6(hq:SqL K H0 a xs\/SqT K H0 a xs)(s0:A6 H0 H)(Pv:Nat->St->Hp->Prop)(h0:Pv 0 σ H)(hk:∀ i σ H',Pv i σ H'->A6 H0 H')(hs:∀ i x σ H,xs[i]?=some x->Pv i σ H->g x σ H fun σ2 H2=>tb {D with nx:=PAt Pv (i+1),ct:=PAt Pv (i+1),bk:=D.nx} σ2 H2)(hd:∀ σ H,Pv xs.length σ H->D.nx σ H) :
 ∃ b,V.ref a=.ref b/\(((∃ xs,SqL K H b xs)/\wx1 g tb D σ (Itl K b) H)\/((∃ xs,SqT K H b xs)/\wx1 g tb D σ (Itt K b) H)):=by
 rcases hq with hq|hq
 ·exact⟨a,rfl,.inl ⟨⟨xs,s0.sqL hq⟩,we9 Pv h0 (fun i σ H' _ p=>(hk i σ H' p).sqL hq) hs hd⟩⟩
 ·exact⟨a,rfl,.inr ⟨⟨xs,s0.sqT hq⟩,yo5 Pv h0 (fun i σ H' _ p=>(hk i σ H' p).sqT hq) hs hd⟩⟩
abbrev WlN(tb:TS)(D:V0)(Pv:St->Hp->Prop)(μ:St->Hp->Nat)(k:Nat)(σ:St)(H1:Hp):Prop :=
 ∃ N:St->Hp->Prop,(∀ σ' H',N σ' H'->∃ m',m'<k/\m'=μ σ' H'/\Pv σ' H')/\tb {D with nx:=N,ct:=N,bk:=D.nx} σ H1
theorem wk7{c:TT}(Pv:St->Hp->Prop)(μ:St->Hp->Nat)(h0:Pv σ H)(hs:∀ σ H,Pv σ H->c σ H fun b H1=>if b=true then WlN tb D Pv μ (μ σ H) σ H1 else D.nx σ H1):wv6 c tb D σ H:=by
 refine⟨fun m σ H=>m=μ σ H/\Pv σ H,⟨_,rfl,h0⟩,?_⟩
 rintro m σ H ⟨rfl,p⟩
 exact hs σ H p
theorem qp7(hq:SqL K H0 a xs\/SqT K H0 a xs)(s0:A6 H0 H)(Pv:Nat->List V->Hp->Prop)(h0:Pv 0 [] H)(hlen:∀ i ys H,i<=xs.length->Pv i ys H->ys.length<=sizeLine)(hk:∀ i ys H',Pv i ys H'->A6 H0 H')(hs:∀ i x ys H,xs[i]?=some x->Pv i ys H->g x σ' H fun σ2 H2=>tt σ2 H2 fun b H3=>if b=true then te σ2 H3 fun y H4=>PAt Pv (i+1) (ys++[y]) H4 else PAt Pv (i+1) ys H3)(hd:∀ ys H,Pv xs.length ys H->∀ p,H p=none->Q (.ref p) (upd H p (.lst ys))) :
 ∃ b,V.ref a=.ref b/\(((∃ xs,SqL K H b xs)/\qw0 g tt te σ' Q (Itl K b) H)\/((∃ xs,SqT K H b xs)/\qw0 g tt te σ' Q (Itt K b) H)):=by
 rcases hq with hq|hq
 ·exact qe0 (s0.sqL hq) Pv h0 hlen (fun i ys H' _ p=>(hk i ys H' p).sqL hq) hs hd
 ·refine⟨a,rfl,.inr ⟨⟨xs,s0.sqT hq⟩,wf6 (n:=xs.length) (fun i x=>xs[i]?=some x) Pv h0 hlen (fun i ys H hi p=>?_) (fun i ys H x H' hi p y=>?_) (fun ys H p=>?_) (fun i x ys H _ hx p=>hs i x ys H hx p) hd⟩⟩
  ·exact⟨xs,xs[i],(hk i ys H p).sqT hq,by simp[hi]⟩
  ·exact⟨y.1,y.2 xs ((hk i ys H p).sqT hq)⟩
  ·exact⟨xs,(hk _ ys H p).sqT hq,Nat.le_refl _⟩
theorem qx1{xs:List Str}{x:V}(h:(D4 xs)[i]?=some x):∃ y,xs[i]?=some y/\x=.str y:=by
 unfold D4 at h
 rw[List.getElem?_map] at h
 obtain⟨y,hy,e⟩:=Option.map_eq_some_iff.mp h
 exact⟨y,hy,e.symm⟩
theorem X8{xs:List Str}(h:i<xs.length):(D4 xs)[i]?=some (.str xs[i]):=by unfold D4;rw[List.getElem?_map,List.getElem?_eq_getElem h];rfl
theorem U7(xs:List Str)(x:Str):D4 xs++[V.str x]=D4 (xs++[x]):=by simp[D4]
theorem ixI{xs:List α}{i:Int}{v:α}(h0:0<=i)(e:xs[i.toNat]?=some v):atI xs i=some v:=by
 have:=D8 e
 rwa [Int.toNat_of_nonneg h0] at this
def Dk(H:Hp)(d:Addr):Prop:=∃ ns:List Int,H d=some (.lst (E9 ns))/\1<=ns.length/\ns.length<=1000
structure Mv(d:Addr)(H H':Hp):Prop where
 but:But [d] H H'
 dk:Dk H' d
theorem But.tr{ps:List Addr}(a:But ps H H1)(b:But ps H1 H2):But ps H H2:=fun c o e n=>b c o (a c o e n) n
theorem Mv.refl(h:Dk H d):Mv d H H:=⟨fun _ _ e _=>e,h⟩
theorem Mv.tr(a:Mv d H H1)(b:Mv d H1 H2):Mv d H H2:=⟨But.tr a.but b.but,b.dk⟩
theorem Mv.at{o:HO}(a:Mv d H H')(h:H p=some o)(n:p≠d):H' p=some o:=a.but p o h (by simpa using n)
theorem Dk.ne(h:Dk H d)(g:H p=none):p≠d:=fun e=>by obtain⟨ns,h,_⟩:=h;rw[<-e,g] at h;cases h
theorem Mv.put(a:Mv d H H1)(h0:Dk H d)(h:H p=none)(o:HO):Mv d H (upd H1 p o):=by
 have np:=h0.ne h
 refine⟨fun b u e n=>?_,?_⟩
 ·have nb:b≠p:=fun z=>by rw[z,h] at e;cases e
  rw[C6 nb];exact a.but b u e n
 ·obtain⟨ns,h1,h2⟩:=a.dk
  exact⟨ns,by rw[C6 (Ne.symm np)];exact h1,h2⟩
theorem Mv.new(a:Mv d H H1)(h:H1 p=none)(o:HO):Mv d H (upd H1 p o):=by
 refine⟨fun b u e n=>?_,?_⟩
 ·have:=a.but b u e n
  rw[C6 (N2 this h)];exact this
 ·obtain⟨ns,h1,h2⟩:=a.dk
  exact⟨ns,by rw[C6 (N2 h1 h)];exact h1,h2⟩
theorem Mv.same(a:Mv d H H1)(b:A6 H1 H2):Mv d H H2:=⟨fun c o e n=>b c o (a.but c o e n),by obtain⟨ns,h1,h2⟩:=a.dk;exact⟨ns,b _ _ h1,h2⟩⟩
theorem Mv.tupK(a:Mv d H H1)(h:Dk H d):qh4 H H1:=by
 obtain⟨ns,h,_⟩:=h
 exact⟨fun b xs e=>a.but b _ e (by simp;rintro rfl;rw[h] at e;cases e),fun b o xs e=>a.but b _ e (by simp;rintro rfl;rw[h] at e;cases e)⟩
theorem Dvs.snoc{d:PyData}:∀ {vs:List V},Dvs K H (ds++[d]) vs->∃ ws y,vs=ws++[y]/\Dvs K H ds ws/\Dv K H d y:=by
 induction ds with
 | nil =>
   intro vs h
   rw[List.nil_append,Dvs] at h
   obtain⟨v,r,rfl,h1,h2⟩:=h
   rw[Dvs] at h2;subst h2
   exact⟨[],v,rfl,E6,h1⟩
 | cons e ds ih =>
   intro vs h
   rw[List.cons_append,Dvs] at h
   obtain⟨v,r,rfl,h1,h2⟩:=h
   obtain⟨ws,y,rfl,h3,h4⟩:=ih h2
   exact⟨v::ws,y,rfl,E1 h1 h3,h4⟩
theorem Dvs.one{d:PyData}(h:Dv K H d v):Dvs K H [d] [v]:=E1 h E6
theorem yc9:∀ {vs:List V},vs.length=ds.length->(∀ (i:Nat) (d:PyData) (v:V),ds[i]?=some d->vs[i]?=some v->Dv K H d v)->Dvs K H ds vs:=by
 induction ds with
 | nil=>intro vs h _;rw[List.length_eq_zero_iff.mp h];exact E6
 | cons d ds ih =>
   intro vs h g
   cases vs with
   | nil=>cases h
   | cons v vs =>
     refine E1 (g 0 d v rfl rfl) (ih (by simpa using h) fun i d' v' a b=>g (i+1) d' v' (by simpa using a) (by simpa using b))
def qa8(ns:List Int):List PyData:=ns.map .int
theorem N7:∀ {ns:List Int} {vs:List V},Dvs K H (qa8 ns) vs↔vs=E9 ns
 | [],_=>by show Dvs K H [] _↔_=[];rw[Dvs]
 | x::xs,vs=>by
   show Dvs K H (.int x::qa8 xs) vs↔vs=V.int x::E9 xs
   rw[Dvs]
   constructor
   ·rintro⟨v,r,rfl,h1,h2⟩
    rw[wd3.mp h1,N7.mp h2]
   ·rintro rfl
    exact⟨_,_,rfl,wd3.mpr rfl,N7.mpr rfl⟩
theorem yy5(hn:(n:Int)<2 ^ 62)(Pv:Nat->List V->Hp->Prop)(p0:Pv 0 [] H)(hlen:∀ (i:Nat) ys H,i<=n->Pv i ys H->ys.length<=sizeLine)(hs:∀ (i:Nat) ys H,i<n->Pv i ys H->g (.int ((n:Int)-1-i)) σ' H fun σ2 H2=>tt σ2 H2 fun b H3=>if b=true then te σ2 H3 fun y H4=>PAt Pv (i+1) (ys++[y]) H4 else PAt Pv (i+1) ys H3)(hd:∀ ys H,Pv n ys H->∀ p,H p=none->Q (.ref p) (upd H p (.lst ys))) :
 ∃ m:Nat,[V.int ((n:Int)-1),V.int (-1),V.int (-1)]=[.int ((m:Int)-1),.int (-1),.int (-1)]/\(m:Int)<2 ^ 62/\qw0 g tt te σ' Q (Itv m) H :=
 ⟨n,rfl,hn,wf6 (n:=n) (fun i x=>x=.int ((n:Int)-1-i)) Pv p0 hlen (fun i ys H hi _=>hi) (fun i ys H x H' hi _ y=>⟨y.1,y.2⟩) (fun ys H _=>Nat.le_refl _) (fun i x ys H hi hx p=>by subst hx;exact hs i ys H hi p) hd⟩
theorem yd0(h1:Dv K H (.list ds) (.ref p))(h2:H e=some (.lst []))(h:Q (.bl (!ds.isEmpty)) H):W5 K (.ref p) (.ref e) H Q:=by
 refine wx4 h1 (e:=.list []) (P5.mpr ⟨e,[],rfl,SqL.of h2,E6⟩) ?_ ?_
 ·exact Nat.le_trans (Nat.min_le_right _ _) (by decide)
 ·cases ds <;> exact h
theorem Ak2(h1:Dv K H (.list ds) (.ref p))(h2:H e=some (.lst []))(h:Q (.bl ds.isEmpty) H):Q7 K (.ref p) (.ref e) H Q:=by
 refine wx3 h1 (e:=.list []) (P5.mpr ⟨e,[],rfl,SqL.of h2,E6⟩) ?_ ?_
 ·exact Nat.le_trans (Nat.min_le_right _ _) (by decide)
 ·cases ds <;> exact h
theorem But.two{k:Addr}(b:But [d,k] H H')(h1:H d=some (.lst xs))(h2:H k=some (.lst ys)):qh4 H H' :=
 ⟨fun c zs e=>b c _ e (by simp;exact⟨(by rintro rfl;rw[h1] at e;cases e),(by rintro rfl;rw[h2] at e;cases e)⟩),
  fun c o zs e=>b c _ e (by simp;exact⟨(by rintro rfl;rw[h1] at e;cases e),(by rintro rfl;rw[h2] at e;cases e)⟩)⟩
theorem Mv.two(k:Addr)(a:Mv d H H'):But [d,k] H H':=But.mono a.but (by simp)
theorem A6.two(d k:Addr)(a:A6 H H'):But [d,k] H H':=fun b o e _=>a b o e
theorem Dk.lst{d:Addr}(h:Dk H d):∃ xs,H d=some (.lst xs):=let ⟨ns,h,_⟩:=h;⟨_,h⟩
theorem Dk.same(h:Dk H d)(s:A6 H H'):Dk H' d:=let ⟨ns,h,r⟩:=h;⟨ns,s _ _ h,r⟩
theorem Dk.put(h:Dk H d)(n:p≠d)(o:HO):Dk (upd H p o) d:=let ⟨ns,h,r⟩:=h;⟨ns,by rw[C6 (Ne.symm n)];exact h,r⟩
theorem qz5(s:A6 H H')(h:H' p=none):H p=none:=by
 cases e:H p with
 | none=>rfl
 | some o=>have:=s _ _ e;rw[h] at this;cases this
theorem wv0(s:Mv d H H')(h0:Dk H d)(h:H' p=none):H p=none:=by
 cases e:H p with
 | none=>rfl
 | some o =>
   by_cases n:p=d
   ·subst n;obtain⟨ns,h1,_⟩:=s.dk;rw[h] at h1;cases h1
   ·have:=s.at e n;rw[h] at this;cases this
inductive Tr where
 | tx (s:Str)
 | nd (n:Str) (ps:List Tr)
mutual
def Tr.da:Tr->PyData
 | .tx s=>.str s
 | .nd n ps=>.tuple [.str n,.tuple (Tr.das ps)]
def Tr.das:List Tr->List PyData
 | []=>[]
 | t::ts=>t.da::Tr.das ts
end
theorem O4:∀ ts:List Tr,Tr.das ts=ts.map Tr.da
 | []=>by rw[Tr.das];rfl
 | t::ts=>by rw[Tr.das,O4 ts];rfl
mutual
theorem qa9:∀ t:Tr,fix t.da=true
 | .tx s=>by rw[Tr.da,fix]
 | .nd n ps=>by rw[Tr.da,fix,Z0,fix,Z0,fix,Z0,qe9 ps];rfl
theorem qe9:∀ ts:List Tr,Z0 (Tr.das ts)=true
 | []=>by rw[Tr.das,Z0]
 | t::ts=>by rw[Tr.das,Z0,qa9 t,qe9 ts];rfl
end
def Tr.isTx:Tr->Bool
 | .tx _=>true
 | .nd _ _=>false
def Tr.kids:Tr->List Tr
 | .tx _=>[]
 | .nd _ ps=>ps
def qg9(pl:List Int):Nat->List Tr->List (List Int×Tr)
 | _,[]=>[]
 | k,t::ts=>(pl++[(k:Int)],t)::qg9 pl (k+1) ts
theorem qj8(pl:List Int):∀ (k:Nat) (ts:List Tr),(qg9 pl k ts).length=ts.length
 | _,[]=>rfl
 | k,t::ts=>by rw[qg9,List.length_cons,List.length_cons,qj8 pl (k+1) ts]
theorem xr1(pl:List Int):∀ (k:Nat) (ts:List Tr) (i:Nat),(qg9 pl k ts)[i]?=(ts[i]?).map fun t=>(pl++[((k+i:Nat):Int)],t)
 | _,[],i=>by simp[qg9]
 | k,t::ts,0=>by simp[qg9]
 | k,t::ts,i+1=>by
   rw[qg9,List.getElem?_cons_succ,xr1 pl (k+1) ts i,List.getElem?_cons_succ]
   congr 1;funext t;rw[show k+1+i=k+(i+1) by omega]
mutual
def pre(pl:List Int):Tr->List (List Int×Tr)
 | .tx s=>[(pl,.tx s)]
 | .nd n ps=>(pl,.nd n ps)::qp8 pl 0 ps
def qp8(pl:List Int)(k:Nat):List Tr->List (List Int×Tr)
 | []=>[]
 | t::ts=>pre (pl++[(k:Int)]) t++qp8 pl (k+1) ts
end
def qv2(stk:List (List Int×Tr)):List (List Int×Tr):=stk.flatMap fun p=>pre p.1 p.2
theorem xr2(pl:List Int):∀ (k:Nat) (ts:List Tr),qp8 pl k ts=qv2 (qg9 pl k ts)
 | k,[]=>by rw[qp8];rfl
 | k,t::ts=>by rw[qp8,xr2 pl (k+1) ts,qg9];rfl
theorem zg5(pl:List Int):∀ t:Tr,pre pl t=(pl,t)::qv2 (qg9 pl 0 t.kids)
 | .tx s=>by rw[pre];rfl
 | .nd n ps=>by rw[pre,xr2];rfl
theorem wg3(a b:List (List Int×Tr)):qv2 (a++b)=qv2 a++qv2 b:=by unfold qv2;rw[List.flatMap_append]
theorem wk8(p:List Int×Tr)(r:List (List Int×Tr)):qv2 (p::r)=p::qv2 (qg9 p.1 0 p.2.kids++r):=by
 rw[wg3]
 show pre p.1 p.2++qv2 r=_
 rw[zg5];rfl
mutual
def wt:Tr->Nat
 | .tx s=>1+s.length
 | .nd _ ps=>1+wts ps
def wts:List Tr->Nat
 | []=>0
 | t::ts=>wt t+wts ts
end
theorem ym1:∀ t:Tr,1<=wt t
 | .tx s=>by rw[wt];omega
 | .nd _ ps=>by rw[wt];omega
mutual
theorem ym2(pl:List Int):∀ t:Tr,(pre pl t).length<=wt t
 | .tx s=>by rw[pre,wt,List.length_singleton];omega
 | .nd n ps=>by rw[pre,wt,List.length_cons];have:=yr4 pl 0 ps;omega
theorem yr4(pl:List Int)(k:Nat):∀ ts:List Tr,(qp8 pl k ts).length<=wts ts
 | []=>by rw[qp8,wts];exact Nat.le_refl _
 | t::ts=>by rw[qp8,wts,List.length_append];have:=ym2 (pl++[(k:Int)]) t;have:=yr4 pl (k+1) ts;omega
end
theorem wg4:∀ ts:List Tr,ts.length<=wts ts
 | []=>Nat.zero_le _
 | t::ts=>by rw[wts,List.length_cons];have:=ym1 t;have:=wg4 ts;omega
mutual
theorem zg6(pl:List Int):∀ (t:Tr) (p:List Int×Tr),p∈pre pl t->p.1.length+1<=pl.length+wt t
 | .tx s,p,h=>by rw[pre,List.mem_singleton] at h;subst h;rw[wt];show pl.length+1<=_;omega
 | .nd n ps,p,h=>by
   rw[pre,List.mem_cons] at h
   rw[wt]
   rcases h with rfl|h
   ·show pl.length+1<=_;omega
   ·have:=yr5 pl 0 ps p h;omega
theorem yr5(pl:List Int)(k:Nat):∀ (ts:List Tr) (p:List Int×Tr),p∈qp8 pl k ts->p.1.length<=pl.length+wts ts
 | [],p,h=>by rw[qp8] at h;cases h
 | t::ts,p,h=>by
   rw[qp8,List.mem_append] at h
   rw[wts]
   rcases h with h|h
   ·have:=zg6 _ t p h;rw[List.length_append,List.length_singleton] at this;omega
   ·have:=yr5 pl (k+1) ts p h;omega
end
def pD(p:List Int×Tr):PyData:=.tuple [.tuple (qa8 p.1),p.2.da]
theorem wz3:∀ ns:List Int,Z0 (qa8 ns)=true
 | []=>by show Z0 []=true;rw[Z0]
 | x::xs=>by show Z0 (.int x::qa8 xs)=true;rw[Z0,wz3 xs,fix];rfl
theorem wz4(p:List Int×Tr):fix (pD p)=true:=by unfold pD;rw[fix,Z0,fix,Z0,Z0,qa9,wz3];rfl
theorem P8{α:Type}{f:α->PyData}(h:∀ x,fix (f x)=true):∀ l:List α,Z0 (l.map f)=true
 | []=>by show Z0 []=true;rw[Z0]
 | x::l=>by show Z0 (f x::l.map f)=true;rw[Z0,h,P8 h l];rfl
theorem yd1{p:List Int×Tr}(h:Dv K H (pD p) v):∃ a b u,v=.ref a/\SqT K H a [.ref b,u]/\SqT K H b (E9 p.1)/\Dv K H p.2.da u:=by
 obtain⟨a,xs,rfl,ha,h⟩:=C3.mp h
 rw[Dvs] at h;obtain⟨v1,r1,rfl,e1,h⟩:=h
 rw[Dvs] at h;obtain⟨v2,r2,rfl,e2,h⟩:=h
 rw[Dvs] at h;subst h
 obtain⟨b,ys,rfl,hb,h⟩:=C3.mp e1
 rw[N7] at h;subst h
 exact⟨a,b,v2,rfl,ha,hb,e2⟩
variable{ps:List Tr}
theorem U8{n:Str}(h:Dv K H (Tr.nd n ps).da v):∃ a b us,v=.ref a/\SqT K H a [.str n,.ref b]/\SqT K H b us/\Dvs K H (Tr.das ps) us:=by
 rw[Tr.da] at h
 obtain⟨a,xs,rfl,ha,h⟩:=C3.mp h
 rw[Dvs] at h;obtain⟨v1,r1,rfl,e1,h⟩:=h
 rw[Dvs] at h;obtain⟨v2,r2,rfl,e2,h⟩:=h
 rw[Dvs] at h;subst h
 rw[N6.mp e1] at ha
 obtain⟨b,ys,rfl,hb,h⟩:=C3.mp e2
 exact⟨a,b,ys,rfl,ha,hb,h⟩
variable{s:Str}
theorem yr6(h:Dv K H (Tr.tx s).da v):v=.str s:=by rw[Tr.da] at h;exact N6.mp h
variable{ts:List Tr}
theorem qb6{us:List V}(h:Dvs K H (Tr.das ts) us){t:Tr}(e:ts[i]?=some t):∃ u,us[i]?=some u/\Dv K H t.da u :=
 h.get (by rw[O4,List.getElem?_map,e];rfl)
theorem Q5{us:List V}(h:Dvs K H (Tr.das ts) us):us.length=ts.length:=by have:=h.length;rw[O4,List.length_map] at this;exact this
theorem wz5{t:Tr}(h:Dv K H t.da v)(q:Q (.bl t.isTx) H):wa9 K [v,.ty "str"] H Q:=by
 cases t with
 | tx s=>rw[yr6 h];exact yb1 (.str _) (b:=true) rfl q
 | nd n ps=>obtain⟨a,b,us,rfl,ha,_⟩:=U8 h;exact wx5 ha (b:=false) rfl q
def qb0(K:Fg):Sp:=fun vs H Q _=>∃ (t:Tr) (v:V),vs=[v]/\Dv K H t.da v/\Q (.bl t.isTx) H
def qz6(K:Fg):TS :=
 (G9 (tCB (wa9 K) (A2 (A4 0) (A2 (tC (.ty "str")) B0))))
theorem ym3(h:qb0 K vs H Q E):qz6 K {nx:=fun _ H'=>Q .non H',rt:=Q} (J0 ["part"] vs) H:=by
 obtain⟨t,v,rfl,hd,q⟩:=h
 show qz6 K _ [some v] H
 unfold qz6
 lk
 exact wz5 hd q
def Q6(K:Fg):Sp:=fun vs H Q _=>∃ (t:Tr) (v:V),vs=[v]/\Dv K H t.da v/\∀ (p:Addr) (us:List V) (H':Hp),A6 H H'->SqT K H' p us->Dvs K H' (Tr.das t.kids) us->Q (.ref p) H'
def qr6(K:Fg):TS :=
 (G9 (tIf (tB (C2 (qb0 K) [] E0 (A2 (A4 0) B0))) (M6 B0) (tOp (I9 K) (A4 0) (tC (.int 1)))))
theorem yd3(h:Q6 K vs H Q E):qr6 K {nx:=fun _ H'=>Q .non H',rt:=Q} (J0 ["part"] vs) H:=by
 obtain⟨t,v,rfl,hd,q⟩:=h
 show qr6 K _ [some v] H
 unfold qr6
 lk
 refine⟨t,v,rfl,hd,?_⟩
 lk
 cases t with
 | tx s =>
   x_go
   lk
   exact⟨D5 (by z_go),fun p hp=>q p [] _ (A6.new hp _) (SqT.of A7) (by show Dvs K _ (Tr.das []) [];rw[Tr.das];exact E6)⟩
 | nd n ps =>
   obtain⟨a,b,us,rfl,ha,hb,hu⟩:=U8 hd
   k_go
   lk
   refine G7 ha (v:=.ref b) rfl ?_
   exact q b us H (fun _ _ e=>e) hb hu
abbrev wr1(K:Fg):TS :=
 (G9 (Y4 [some 0,some 2,none] (yq1 (A2 (tOp (rI0 fun i j=>.int (i-j)) (tCB (P6 K) (A2 (A4 2) B0)) (tC (.int 1))) (A2 (tUn (rU fun i=>.int (-i)) (tC (.int 1))) (A2 (tUn (rU fun i=>.int (-i)) (tC (.int 1))) B0)))) (B3 2) tTT (M6 (A2 (tOp (R1 K) (A4 0) (M6 (A2 (A4 2) B0))) (A2 (tOp (I9 K) (A4 1) (A4 2)) B0)))))
def qb7(K:Fg):Sp:=fun vs H Q _=>∃ (pl:List Int) (t:Tr) (a:Addr) (v:V),vs=[.ref a,v]/\SqT K H a (E9 pl)/\Dv K H t.da v/\pl.length+t.kids.length<=90000/\∀ (p:Addr) (us:List V) (H':Hp),A6 H H'->H' p=some (.lst us)->H p=none->Dvs K H' ((qg9 pl 0 t.kids).reverse.map pD) us->Q (.ref p) H'
def qf0(K:Fg):TS :=
 (C1 (E4 (C2 (Q6 K) [] E0 (A2 (A4 1) B0)) (B3 2))
 (wr1 K))
theorem wz6(h:qb7 K vs H Q E):qf0 K {nx:=fun _ H'=>Q .non H',rt:=Q} (J0 ["place","part","parts"] vs) H:=by
 obtain⟨pl,t,a,v,rfl,ha,hd,hz,q⟩:=h
 show qf0 K _ [some (.ref a),some v,none] H
 unfold qf0
 lk
 refine⟨t,v,rfl,hd,fun p us H1 s1 hp hu=>?_⟩
 lk
 have hul:=Q5 hu
 refine O1 (.inr hp) ?_
 rw[hul]
 lk
 refine⟨1,rfl,?_⟩
 lk
 refine⟨1,rfl,?_⟩
 lk
 refine yy5 (n:=t.kids.length) (by omega) (fun i ys H'=>A6 H1 H'/\ys.length=i/\Dvs K H' (((qg9 pl 0 t.kids).reverse.take i).map pD) ys) ⟨fun _ _ e=>e,rfl,E6⟩ ?_ ?_ ?_
 ·rintro i ys H' hi ⟨_,hl,_⟩
  exact D5 (by omega)
 ·rintro i ys H' hi ⟨s2,hl,hds⟩
  lk
  refine⟨D5 (by z_go),fun c hc=>?_⟩
  have ha':SqT K (upd H' c (.tup [V.int ((t.kids.length:Int)-1-i)])) a (E9 pl):=A6.sqT (A6.tr (A6.tr s1 s2) (A6.new hc _)) ha
  refine qe1 ha' (SqT.of A7) (by rw[M5];exact D5 (by simp;omega)) fun t1 H2 st2 sq2=>?_
  lk
  have hp':SqT K H2 p us:=A6.sqT (A6.tr (A6.tr s2 (A6.new hc _)) st2) hp
  have hk:t.kids.length-1-i<t.kids.length:=by omega
  obtain⟨u,eu,du⟩:=qb6 hu (List.getElem?_eq_getElem hk)
  have e1:(t.kids.length:Int)-1-i=((t.kids.length-1-i:Nat):Int):=by omega
  rw[e1]
  refine G7 hp' (v:=u) (D8 eu) ?_
  lk
  refine⟨D5 (by z_go),fun t2 ht2=>?_⟩
  have s3:A6 H1 (upd H2 t2 (.tup [.ref t1,u])):=A6.tr s2 (A6.tr (A6.new hc _) (A6.tr st2 (A6.new ht2 _)))
  refine⟨s3,by simp[hl],?_⟩
  have s4:A6 H' (upd H2 t2 (.tup [.ref t1,u])):=A6.tr (A6.new hc _) (A6.tr st2 (A6.new ht2 _))
  rw[List.take_add_one,List.map_append]
  refine Dvs.append (Dvs.same s4 _ _ hds) ?_
  have eg:(qg9 pl 0 t.kids).reverse[i]?=some (pl++[((t.kids.length-1-i:Nat):Int)],t.kids[t.kids.length-1-i]):=by
   rw[List.getElem?_reverse (by rw[qj8];omega),qj8,xr1,List.getElem?_eq_getElem hk]
   simp
  rw[eg]
  refine Dvs.one ?_
  unfold pD
  refine C3.mpr ⟨t2,_,rfl,SqT.of A7,E1 (C3.mpr ⟨t1,_,rfl,A6.sqT (A6.new ht2 _) sq2,?_⟩) (E1 (Dv.same s3 _ _ du) E6)⟩
  rw[N7,e1]
  simp[E9]
 ·rintro ys H' ⟨s2,hl,hds⟩ p2 hp2
  rw[List.take_of_length_le (by rw[List.length_reverse,qj8];exact Nat.le_refl _)] at hds
  have s5:=A6.tr s1 s2
  have hn:H p2=none:=by
   cases e:H p2 with
   | none=>rfl
   | some o=>have:=s5 _ _ e;rw[hp2] at this;cases this
  exact q p2 ys _ (A6.tr s5 (A6.new hp2 _)) A7 hn (Dvs.same (A6.new hp2 _) _ _ hds)
abbrev wk9(K:Fg):TS :=
 (qh6 (tBM K "list" xt5 (A4 2) (A2 (C2 (qb7 K) [] E0 (A2 (tOp (I9 K) (A4 3) (tC (.int 0))) (A2 (tOp (I9 K) (A4 3) (tC (.int 1))) B0))) B0)))
abbrev wl0(K:Fg):TS :=
 (C1 (E4 (zm2 K "list" zm3 (A4 2)) (B3 3))
 (C1 (qh6 (tBM K "list" X6 (A4 1) (A2 (A4 3) B0)))
 (wk9 K)))
abbrev wl1(K:Fg):TS :=
 (C1 (wv6 (D6 (tOp ww8 (tCB (P6 K) (A2 (A4 2) B0)) (tC (.int 0))))
 (wl0 K))
 (G9 (A4 1)))
abbrev wl2(K:Fg):TS :=
 (C1 (E4 (Y8 (A2 (M6 (A2 (M6 B0) (A2 (A4 0) B0))) B0)) (B3 2))
 (wl1 K))
def qa0(K:Fg):Sp:=fun vs H Q _=>∃ (t:Tr) (v:V),vs=[v]/\Dv K H t.da v/\wt t<=40000/\∀ (p:Addr) (us:List V) (H':Hp),A6 H H'->H p=none->H' p=some (.lst us)->Dvs K H' ((pre [] t).map pD) us->Q (.ref p) H'
def qb8(K:Fg):TS :=
 (C1 (E4 (Y8 B0) (B3 1))
 (wl2 K))
theorem wr3(h:qa0 K vs H Q E):qb8 K {nx:=fun _ H'=>Q .non H',rt:=Q} (J0 ["tree","placed","ahead","step"] vs) H:=by
 obtain⟨t,v,rfl,hd,hz,q⟩:=h
 show qb8 K _ [some v,none,none,none] H
 unfold qb8
 have hpl:=ym2 [] t
 lk
 refine⟨D5 (by z_go),fun p1 hp1=>?_⟩
 lk
 refine⟨D5 (by z_go),fun c0 hc0=>?_⟩
 lk
 refine⟨D5 (by z_go),fun c1 hc1=>?_⟩
 lk
 refine⟨D5 (by z_go),fun p2 hp2=>?_⟩
 lk
 have sA:A6 H (upd (upd (upd (upd H p1 (.lst [])) c0 (.tup [])) c1 (.tup [.ref c0,v])) p2 (.lst [.ref c1])):=A6.tr (A6.new hp1 _) (A6.tr (A6.new hc0 _) (A6.tr (A6.new hc1 _) (A6.new hp2 _)))
 have n2:H p2=none:=by
  cases e:H p2 with
  | none=>rfl
  | some o=>have:=A6.tr (A6.new hp1 (.lst [])) (A6.tr (A6.new hc0 (.tup [])) (A6.new hc1 (.tup [.ref c0,v]))) _ _ e;rw[hp2] at this;cases this
 have np:p1≠p2:=fun e=>by
  have:=A6.tr (A6.new hc0 (.tup [])) (A6.new hc1 (.tup [.ref c0,v])) p1 (.lst []) A7
  rw[<-e] at hp2;rw[hp2] at this;cases this
 have hA1:(upd (upd (upd (upd H p1 (.lst [])) c0 (.tup [])) c1 (.tup [.ref c0,v])) p2 (.lst [.ref c1])) p1=some (.lst []) :=
  A6.tr (A6.new hc0 (.tup [])) (A6.tr (A6.new hc1 (.tup [.ref c0,v])) (A6.new hp2 _)) p1 (.lst []) A7
 have hA2:(upd (upd (upd (upd H p1 (.lst [])) c0 (.tup [])) c1 (.tup [.ref c0,v])) p2 (.lst [.ref c1])) p2=some (.lst [.ref c1]):=A7
 have hAd:Dvs K (upd (upd (upd (upd H p1 (.lst [])) c0 (.tup [])) c1 (.tup [.ref c0,v])) p2 (.lst [.ref c1])) [pD ([],t)] [.ref c1]:=by
  refine Dvs.one ?_
  unfold pD
  have sc0:A6 (upd (upd H p1 (.lst [])) c0 (.tup [])) (upd (upd (upd (upd H p1 (.lst [])) c0 (.tup [])) c1 (.tup [.ref c0,v])) p2 (.lst [.ref c1])):=A6.tr (A6.new hc1 _) (A6.new hp2 _)
  have sc1:A6 (upd (upd (upd H p1 (.lst [])) c0 (.tup [])) c1 (.tup [.ref c0,v])) (upd (upd (upd (upd H p1 (.lst [])) c0 (.tup [])) c1 (.tup [.ref c0,v])) p2 (.lst [.ref c1])):=A6.new hp2 _
  exact C3.mpr ⟨c1,_,rfl,A6.sqT sc1 (SqT.of A7),E1 (C3.mpr ⟨c0,[],rfl,A6.sqT sc0 (SqT.of A7),E6⟩) (E1 (Dv.same sA _ _ hd) E6)⟩
 generalize (upd (upd (upd (upd H p1 (.lst [])) c0 (.tup [])) c1 (.tup [.ref c0,v])) p2 (.lst [.ref c1]))=HA at *
 refine wk7 (fun σ H'=>∃ (w:Option V) (us ws:List V) (done stk:List (List Int×Tr)),σ=[some v,some (.ref p1),some (.ref p2),w]/\A6 H H'/\H' p1=some (.lst us)/\H' p2=some (.lst ws)/\Dvs K H' (done.map pD) us/\Dvs K H' (stk.reverse.map pD) ws/\done++qv2 stk=pre [] t)
  (fun σ H'=>match H' p1 with|some (.lst us)=>(pre [] t).length-us.length|_=>0) ⟨none,[],[.ref c1],[],[([],t)],rfl,sA,hA1,hA2,E6,hAd,by simp[qv2]⟩ ?_
 rintro σ H' ⟨w,us,ws,done,stk,rfl,s1,h1,h2,d1,d2,e⟩
 have hel:done.length+(qv2 stk).length=(pre [] t).length:=by rw[<-e,List.length_append]
 have hdl:us.length=done.length:=by have:=d1.length;rw[List.length_map] at this;exact this
 have hwl:ws.length=stk.length:=by have:=d2.length;rw[List.length_map,List.length_reverse] at this;exact this
 lk
 refine O1 (.inl (SqL.of h2)) ?_
 lk
 rw[hwl]
 cases stk with
 | nil =>
   k_go
   lk
   have:done=pre [] t:=by simpa [qv2] using e
   rw[this] at d1
   exact q p1 us H' s1 hp1 h1 d1
 | cons pt rest =>
   rw[decide_eq_true (by rw[List.length_cons];omega)]
   x_go
   obtain⟨pl,u⟩:=pt
   rw[List.reverse_cons,List.map_append] at d2
   obtain⟨ws',y,rfl,d3,d4⟩:=Dvs.snoc d2
   rw[wk8] at e hel
   dsimp only at e hel
   rw[List.length_cons,wg3,List.length_append] at hel
   have hm:(pl,u)∈pre [] t:=by rw[<-e];simp
   have hplw:=zg6 [] t _ hm
   have hkw:(qv2 (qg9 pl 0 u.kids)).length>=u.kids.length:=by
    have:∀ (l:List (List Int×Tr)),l.length<=(qv2 l).length:=fun l=>by
     induction l with
     | nil=>exact Nat.zero_le _
     | cons p r ih=>rw[wk8,wg3,List.length_cons,List.length_cons,List.length_append];omega
    have:=this (qg9 pl 0 u.kids)
    rw[qj8] at this;exact this
   have hrl:rest.length<=(qv2 rest).length:=by
    have:∀ (l:List (List Int×Tr)),l.length<=(qv2 l).length:=fun l=>by
     induction l with
     | nil=>exact Nat.zero_le _
     | cons p r ih=>rw[wk8,wg3,List.length_cons,List.length_cons,List.length_append];omega
    exact this rest
   dsimp only at hplw
   rw[List.length_nil] at hplw
   refine⟨fun σ' H''=>∃ (w:Option V) (us ws:List V) (stk:List (List Int×Tr)),σ'=[some v,some (.ref p1),some (.ref p2),w]/\A6 H H''/\H'' p1=some (.lst us)/\H'' p2=some (.lst ws)/\Dvs K H'' ((done++[(pl,u)]).map pD) us/\Dvs K H'' (stk.reverse.map pD) ws/\done++[(pl,u)]++qv2 stk=pre [] t,?_,?_⟩
   ·rintro σ' H'' ⟨w,us',ws,stk,rfl,s1',h1',h2',d1',d2',e'⟩
    have hl':us'.length=done.length+1:=by have:=d1'.length;rw[List.length_map,List.length_append] at this;exact this
    refine⟨_,?_,rfl,w,us',ws,_,stk,rfl,s1',h1',h2',d1',d2',e'⟩
    dsimp only
    rw[h1,h1']
    dsimp only
    omega
   ·lk
    refine⟨.inl ⟨rfl,_,SqL.of h2⟩,?_⟩
    refine zu3 h2 ?_
    lk
    have h1':(upd H' p2 (.lst ws')) p1=some (.lst us):=by rw[C6 np];exact h1
    refine⟨.inl ⟨rfl,_,SqL.of h1'⟩,?_⟩
    lk
    refine W6 h1' (by rw[sizeLine_eq];omega) ?_
    lk
    have sB:A6 H (upd (upd H' p2 (.lst ws')) p1 (.lst (us++[y]))):=A6.put (A6.put s1 n2 _) hp1 _
    have tB:qh4 H' (upd (upd H' p2 (.lst ws')) p1 (.lst (us++[y]))):=(U6 h2).trans (U6 h1')
    have hB1:(upd (upd H' p2 (.lst ws')) p1 (.lst (us++[y]))) p1=some (.lst (us++[y])):=A7
    have hB2:(upd (upd H' p2 (.lst ws')) p1 (.lst (us++[y]))) p2=some (.lst ws'):=by rw[C6 (Ne.symm np)];exact A7
    have dB1:Dvs K (upd (upd H' p2 (.lst ws')) p1 (.lst (us++[y]))) ((done++[(pl,u)]).map pD) (us++[y]):=by
     rw[List.map_append]
     exact Dvs.tupK tB _ _ (by rw[<-List.map_append];exact P8 wz4 _) (Dvs.append d1 (Dvs.one d4))
    have dB2:Dvs K (upd (upd H' p2 (.lst ws')) p1 (.lst (us++[y]))) (rest.reverse.map pD) ws':=Dvs.tupK tB _ _ (P8 wz4 _) d3
    have dBy:Dv K (upd (upd H' p2 (.lst ws')) p1 (.lst (us++[y]))) (pD (pl,u)) y:=Dv.tupK tB _ _ (wz4 _) d4
    generalize (upd (upd H' p2 (.lst ws')) p1 (.lst (us++[y])))=HB at *
    refine⟨.inl ⟨rfl,_,SqL.of hB2⟩,?_⟩
    obtain⟨a,bq,uu,rfl,ha,hb,hu⟩:=yd1 dBy
    lk
    refine G7 ha (v:=.ref bq) rfl ?_
    lk
    refine G7 ha (v:=uu) rfl ?_
    lk
    refine⟨pl,u,bq,uu,rfl,hb,hu,by omega,fun p3 zs HC sC hC3 n3 dC=>?_⟩
    lk
    have hC2:=sC _ _ hB2
    have hzl:zs.length=u.kids.length:=by have:=dC.length;rw[List.length_map,List.length_reverse,qj8] at this;exact this
    have hwl':ws'.length=rest.length:=by have:=d3.length;rw[List.length_map,List.length_reverse] at this;exact this
    refine ze5 hC2 hC3 (D5 (by omega)) ?_
    lk
    have hC1:=sC _ _ hB1
    have tC:qh4 HC (upd HC p2 (.lst (ws'++zs))):=U6 hC2
    refine⟨_,_,_,qg9 pl 0 u.kids++rest,rfl,A6.put (A6.tr sB sC) n2 _,by rw[C6 np];exact hC1,A7,Dvs.tupK tC _ _ (P8 wz4 _) (Dvs.same sC _ _ dB1),?_,by simp[e]⟩
    rw[List.reverse_append,List.map_append]
    refine Dvs.tupK tC _ _ (by rw[<-List.map_append];exact P8 wz4 _) (Dvs.append (Dvs.same sC _ _ dB2) dC)
theorem Row.fix(r:Row):L2.fix r.da=true:=by
 unfold Row.da
 have hs:∀ xs:List Str,Z0 (sDa xs)=true:=fun xs=>P8 (f:=PyData.str) (fun x=>by rw[L2.fix]) xs
 rw[L2.fix,Z0,Z0,Z0,Z0,Z0,Z0,L2.fix,L2.fix,L2.fix,L2.fix,L2.fix,hs,hs];rfl
theorem zq7{d:PyData}{us:List V}{u:V}{k:Nat}(h:Dvs K H ds us)(hd:Dv K H d u)(hk:k<=us.length):Dvs K H (Y6 ds k d) (Y6 us k u):=by
 have hl:=h.length
 refine yc9 ?_ ?_
 ·unfold Y6;simp;omega
 ·intro i e v he hv
  unfold Y6 at he hv
  have ld:(ds.take k).length=k:=by rw[List.length_take];omega
  have lu:(us.take k).length=k:=by rw[List.length_take];omega
  by_cases h1:i<k
  ·rw[List.getElem?_append_left (by omega),List.getElem?_take_of_lt h1] at he
   rw[List.getElem?_append_left (by omega),List.getElem?_take_of_lt h1] at hv
   obtain⟨v',hv',dv'⟩:=h.get he
   rw[hv] at hv';cases hv';exact dv'
  ·rw[List.getElem?_append_right (by omega),ld] at he
   rw[List.getElem?_append_right (by omega),lu] at hv
   by_cases h2:i=k
   ·subst h2
    rw[Nat.sub_self] at he hv
    cases he;cases hv;exact hd
   ·obtain⟨j,rfl⟩:∃ j,i=k+1+j:=⟨i-(k+1),by omega⟩
    rw[show k+1+j-k=j+1 by omega,List.getElem?_cons_succ,List.getElem?_drop] at he hv
    obtain⟨v',hv',dv'⟩:=h.get he
    rw[hv] at hv';cases hv';exact dv'
variable{β:Type}
theorem qe4(f:α->β)(l:List α)(k:Nat)(x:α):(Y6 l k x).map f=Y6 (l.map f) k (f x):=by unfold Y6;simp
theorem yy6(l:List α)(k:Nat)(x:α)(h:k<=l.length):(Y6 l k x).length=l.length+1:=by unfold Y6;simp;omega
theorem yy7{l:List α}{k:Nat}{x y:α}(h:y∈Y6 l k x):y=x\/y∈l:=by
 unfold Y6 at h
 rcases List.mem_append.mp h with h|h
 ·exact .inr (List.mem_of_mem_take h)
 ·rcases List.mem_cons.mp h with h|h
  ·exact .inl h
  ·exact .inr (List.mem_of_mem_drop h)
theorem qx2{n:Str}{r t:Addr}{us:List V}(h1:SqT K H r [.str n,.ref t])(h2:SqT K H t us)(h3:Dvs K H (Tr.das ps) us):Dv K H (Tr.nd n ps).da (.ref r):=by
 rw[Tr.da]
 exact C3.mpr ⟨r,_,rfl,h1,E1 (N6.mpr rfl) (E1 (C3.mpr ⟨t,us,rfl,h2,h3⟩) E6)⟩
theorem zg7(s:Str):Dv K H (Tr.tx s).da (.str s):=by rw[Tr.da];exact N6.mpr rfl
mutual
def hgt:Tr->Nat
 | .tx _=>0
 | .nd _ ps=>1+O2 ps
def O2:List Tr->Nat
 | []=>0
 | t::ts=>max (hgt t) (O2 ts)
end
theorem qf1:∀ a b:List Tr,wts (a++b)=wts a+wts b
 | [],b=>by rw[List.nil_append,wts,Nat.zero_add]
 | t::a,b=>by rw[List.cons_append,wts,wts,qf1 a b];omega
theorem W7:∀ a b:List Tr,O2 (a++b)=max (O2 a) (O2 b)
 | [],b=>by rw[List.nil_append,O2];omega
 | t::a,b=>by rw[List.cons_append,O2,O2,W7 a b];omega
mutual
theorem zg8(pl:List Int):∀ (t:Tr) (p:List Int×Tr),p∈pre pl t->p.1.length<=pl.length+hgt t
 | .tx s,p,h=>by rw[pre,List.mem_singleton] at h;subst h;show pl.length<=_;omega
 | .nd n ps,p,h=>by
   rw[pre,List.mem_cons] at h
   rw[hgt]
   rcases h with rfl|h
   ·show pl.length<=_;omega
   ·have:=zg9 pl 0 ps p h;omega
theorem zg9(pl:List Int)(k:Nat):∀ (ts:List Tr) (p:List Int×Tr),p∈qp8 pl k ts->p.1.length<=pl.length+1+O2 ts
 | [],p,h=>by rw[qp8] at h;cases h
 | t::ts,p,h=>by
   rw[qp8,List.mem_append] at h
   rw[O2]
   rcases h with h|h
   ·have:=zg8 _ t p h;rw[List.length_append,List.length_singleton] at this;omega
   ·have:=zg9 pl (k+1) ts p h;omega
end
abbrev wl4(K:Fg):TS :=
 (C1 (E4 (tOp (rI (fun _ j=>0<j) fun i j=>.int (i % j)) (tOp (Y5 K) (tOp (Y5 K) (tOp qp2 (A4 4) (A4 4)) (tOp qp2 (tC (.int 69621)) (A4 4))) (tC (.int 7))) (tC (.int 2147483629))) (B3 4))
 (qh6 (tBM K "list" X6 (A4 2) (A2 (A4 4) B0))))
abbrev wl5(K:Fg):TS :=
 (C1 (E4 (tOp (rI (fun _ j=>0<j) fun i j=>.int (i % j)) (tOp (Y5 K) (tOp (Y5 K) (tOp qp2 (A4 4) (A4 4)) (tOp qp2 (tC (.int 48271)) (A4 4))) (tCB (P6 K) (A2 (A4 2) B0))) (tC (.int 2147483647))) (B3 4))
 (wl4 K))
abbrev wl6(K:Fg):TS :=
 (C1 (wv6 (D6 (tOp yj1 (tCB (P6 K) (A2 (A4 2) B0)) (A4 1)))
 (wl5 K))
 (G9 (tOp (Y5 K) (Y8 (A2 (A4 3) B0)) (zd9 K (A4 2)))))
def Ac9(K:Fg):TS :=
 (C1 (E4 (tOp (Y5 K) (tC (.int 48271)) (tOp (rI (fun _ j=>0<j) fun i j=>.int (i % j)) (tCB (ze4 K) (A2 (A4 2) B0)) (tC (.int 2147483647)))) (B3 4))
 (wl6 K))
def zh0(K:Fg):TS :=
 (E4 (tOp (Y5 K) (A4 6) (tOp (I9 K) (A4 2) (tOp (rI (fun _ j=>0<j) fun i j=>.int (i % j)) (tOp (Y5 K) (A4 3) (A4 8)) (tC (.int 26))))) (B3 6))
abbrev wl7(K:Fg):TS :=
 (E4 (tOp (rI xs6 fun i j=>.int (i / j)) (tOp (I9 K) (A4 2) (tC (.int 0))) (tC (.int 2))) (yu1 (A4 2) (tC (.int 0)) xq5))
abbrev wl8(K:Fg):TS :=
 (C1 (E4 (tOp (rI (fun _ j=>0<j) fun i j=>.int (i % j)) (tOp (I9 K) (A4 2) (tC (.int 0))) (tC (.int 2))) (B3 3))
 (wl7 K))
abbrev wl9(K:Fg):TS :=
 (C1 (M3 (D6 (tOp (W5 K) (A4 2) (Y8 B0)))
 (wl8 K) E8)
 (Ac9 K))
def qa1(K:Fg):Sp:=fun vs H Q _=>∃ (a:Addr) (ns:List Int) (m:Nat),vs=[.ref a,.int m]/\SqL K H a (E9 ns)/\m<=900/\∀ (d:Addr) (H':Hp),A6 H H'->H d=none->Dk H' d->Q (.ref d) H'
def qb9(K:Fg):TS :=
 (C1 (E4 (tCB (xt7 K) (A2 (tSl (zd6 K) (A4 0) Q1 (Z1 (tC (.int 63)))) B0)) (B3 2))
 (C1 (E4 (tC (.int 0)) (B3 3))
 (wl9 K)))
theorem wr4(h:qa1 K vs H Q E):qb9 K {nx:=fun _ H'=>Q .non H',rt:=Q} (J0 ["_law_script","_law_most","_law_deck","_law_kind","_law_last"] vs) H:=by
 obtain⟨sc,ns,m,rfl,hS,hm,q⟩:=h
 show qb9 K _ [some (.ref sc),some (.int m),none,none,none] H
 unfold qb9
 lk
 refine zu1 hS fun p hp=>?_
 lk
 obtain⟨ms,ems,hms⟩:∃ ms:List Int,qg7 (E9 ns) none (some 63)=E9 ms/\ms.length<=63:=by
  refine⟨ns.take 63,?_,by rw[List.length_take];omega⟩
  have:qg7 (E9 ns) none (some 63)=(E9 ns).take 63:=by
   unfold qg7
   show((E9 ns).drop 0).take (HT.sIx (E9 ns).length (E9 ns).length (some 63)-0)=_
   rw[List.drop_zero,Nat.sub_zero]
   unfold HT.sIx
   simp only[]
   by_cases h:(E9 ns).length<=63
   ·rw[List.take_of_length_le h,List.take_of_length_le]
    simp;omega
   ·congr 1
    simp;omega
  rw[this];unfold E9;rw[List.map_take]
 rw[ems]
 refine⟨p,_,rfl,.inl (SqL.of A7),fun d hd=>?_⟩
 have s1:A6 H (upd (upd H p (.lst (E9 ms))) d (.lst (E9 ms))):=A6.tr (A6.new hp _) (A6.new hd _)
 have hd1:(upd (upd H p (.lst (E9 ms))) d (.lst (E9 ms))) d=some (.lst (E9 ms)):=A7
 have hd0:H d=none:=by
  cases e:H d with
  | none=>rfl
  | some o=>have:=A6.new hp (.lst (E9 ms)) _ _ e;rw[hd] at this;cases this
 generalize upd (upd H p (.lst (E9 ms))) d (.lst (E9 ms))=H1 at *
 lk
 refine⟨D5 (by z_go),fun e he=>?_⟩
 have hd2:(upd H1 e (.lst [])) d=some (.lst (E9 ms)):=by rw[C6 (N2 hd1 he)];exact hd1
 have s2:A6 H (upd H1 e (.lst [])):=A6.tr s1 (A6.new he _)
 have he2:(upd H1 e (.lst [])) e=some (.lst []):=A7
 generalize upd H1 e (.lst [])=H2 at *
 refine yd0 (ds:=qa8 ms) (P5.mpr ⟨d,_,rfl,SqL.of hd2,N7.mpr rfl⟩) he2 ?_
 lk
 have fin:∀ (ms:List Int) (kind:Int) (H2:Hp),A6 H H2->H2 d=some (.lst (E9 ms))->ms.length<=63->(Ac9 K) {nx:=fun _ H'=>Q .non H',rt:=Q} [some (.ref sc),some (.int m),some (.ref d),some (.int kind),none] H2:=by
  clear hd1 hd2 s1 s2 he2 ems
  intro ms kind H2 s2 hd2 hms
  unfold Ac9
  lk
  refine Aj1 (js:=ms) (SqL.of hd2) fun j=>?_
  lk
  have j0:=Int.emod_nonneg j (show(2147483647:Int)≠0 by decide)
  have j1:=Int.emod_lt_of_pos j (show(0:Int)<2147483647 by decide)
  generalize hL:48271+j % 2147483647=L at *
  refine wk7 (fun σ H'=>∃ (L:Int) (ms:List Int),σ=[some (.ref sc),some (.int m),some (.ref d),some (.int kind),some (.int L)]/\A6 H H'/\H' d=some (.lst (E9 ms))/\ms.length<=900/\0<=L/\L<2 ^ 40)
   (fun σ H'=>match H' d with|some (.lst us)=>m-us.length|_=>0) ⟨L,ms,rfl,s2,hd2,by omega,by omega,by omega⟩ ?_
  rintro σ H' ⟨L,ms,rfl,s1,h1,hl,l0,l1⟩
  lk
  refine O1 (.inl (SqL.of h1)) ?_
  rw[M5]
  lk
  by_cases hlt:((ms.length:Nat):Int)<(m:Int)
  ·rw[decide_eq_true hlt]
   x_go
   refine⟨fun σ' H''=>∃ (L:Int) (ms':List Int),σ'=[some (.ref sc),some (.int m),some (.ref d),some (.int kind),some (.int L)]/\A6 H H''/\H'' d=some (.lst (E9 ms'))/\ms'.length=ms.length+1/\0<=L/\L<2 ^ 40,?_,?_⟩
   ·rintro σ' H'' ⟨L',ms',rfl,s1',h1',hl',l0',l1'⟩
    refine⟨_,?_,rfl,L',ms',rfl,s1',h1',by omega,l0',l1'⟩
    dsimp only
    rw[h1,h1']
    dsimp only
    rw[M5,M5]
    omega
   ·lk
    refine wx2 (.inl ⟨by omega,by omega⟩) ?_
    lk
    refine wx2 (.inl ⟨by decide,by decide⟩) ?_
    lk
    refine O1 (.inl (SqL.of h1)) ?_
    lk
    generalize hX:(L*L+48271*L+((E9 ms).length:Int)) % 2147483647=Y
    have y0:0<=Y:=by rw[<-hX];exact Int.emod_nonneg _ (by decide)
    have y1:Y<2147483647:=by rw[<-hX];exact Int.emod_lt_of_pos _ (by decide)
    refine wx2 (.inl ⟨by omega,by omega⟩) ?_
    lk
    refine wx2 (.inl ⟨by decide,by decide⟩) ?_
    lk
    generalize hX2:(Y*Y+69621*Y+7) % 2147483629=Z
    have z0:0<=Z:=by rw[<-hX2];exact Int.emod_nonneg _ (by decide)
    have z1:Z<2147483629:=by rw[<-hX2];exact Int.emod_lt_of_pos _ (by decide)
    refine⟨.inl ⟨rfl,_,SqL.of h1⟩,?_⟩
    lk
    refine W6 h1 (by rw[M5,sizeLine_eq];omega) ?_
    exact⟨Z,ms++[Z],rfl,A6.put s1 hd0 _,by rw[<-qx0];exact A7,by simp,z0,by omega⟩
  ·rw[decide_eq_false hlt]
   k_go
   lk
   refine⟨D5 (by z_go),fun x hx=>?_⟩
   lk
   have hd3:(upd H' x (.lst [.int kind])) d=some (.lst (E9 ms)):=by rw[C6 (N2 h1 hx)];exact h1
   refine⟨d,_,rfl,SqL.of hd3,fun y hy=>?_⟩
   have hx4:(upd (upd H' x (.lst [.int kind])) y (.lst (E9 ms).reverse)) x=some (.lst [.int kind]):=by rw[C6 (N2 A7 hy)];exact A7
   refine zd1 hx4 A7 (by rw[List.length_reverse,M5];exact D5 (by simp;omega)) fun r hr=>?_
   have sx:A6 H (upd (upd (upd H' x (.lst [.int kind])) y (.lst (E9 ms).reverse)) r (.lst ([.int kind]++(E9 ms).reverse))):=A6.tr s1 (A6.tr (A6.new hx _) (A6.tr (A6.new hy _) (A6.new hr _)))
   have hr0:H r=none:=by
    cases e:H r with
    | none=>rfl
    | some o=>have:=A6.tr s1 (A6.tr (A6.new hx (.lst [.int kind])) (A6.new hy (.lst (E9 ms).reverse))) _ _ e;rw[hr] at this;cases this
   refine q r _ sx hr0 ⟨kind::ms.reverse,?_,by simp,by simp;omega⟩
   rw[A7]
   simp[E9]
 cases ms with
 | nil =>
   k_go
   lk
   exact fin [] 0 H2 s2 hd2 (by simp)
 | cons y ys =>
   x_go
   lk
   refine S5 (SqL.of hd2) (v:=.int y) (D8 (j:=0) rfl) ?_
   lk
   refine S5 (SqL.of hd2) (v:=.int y) (D8 (j:=0) rfl) ?_
   lk
   refine .inl (zd3 hd2 (j:=0) (Ak1 (by simp[E9])) ?_)
   lk
   exact fin ((y / 2)::ys) _ _ (A6.put s2 hd0 _) (by rw[A7];simp[E9]) (by simpa using hms)
abbrev xi0(K:Fg):TS :=
 (qh6 (tBM K "list" X6 (A4 0) (A2 (tOp (rI yb5 fun i j=>.int (i / j)) (A4 2) (A4 1)) B0)))
abbrev xi1(K:Fg):TS :=
 (C1 (M3 (wa6 (D6 (tOp (Q7 K) (tOp (I9 K) (A4 0) (tC (.int 0))) (tC (.int 1)))) (D6 (tOp (W5 K) (tOp (rI yb5 fun i j=>.int (i / j)) (A4 2) (A4 1)) (tC (.int 0)))))
 (xi0 K) E8)
 (G9 (tOp (rI (fun _ j=>0<j) fun i j=>.int (i % j)) (A4 2) (A4 1))))
def D0(K:Fg):Sp:=fun vs H Q _=>∃ (d:Addr) (m:Int),vs=[.ref d,.int m]/\0<m/\m<2 ^ 200/\Dk H d/\∀ (n:Int) (H':Hp),0<=n->n<m->Mv d H H'->Q (.int n) H'
def qm3(K:Fg):TS :=
 (C1 (M3 (D6 (tOp (Q7 K) (tCB (P6 K) (A2 (A4 0) B0)) (tC (.int 1))))
 (G9 (tC (.int 0))) E8)
 (C1 (E4 (zm2 K "list" zm3 (A4 0)) (B3 2))
 (xi1 K)))
theorem xv3(h:D0 K vs H Q E):qm3 K {nx:=fun _ H'=>Q .non H',rt:=Q} (J0 ["_law_deck","_law_most","_law_number"] vs) H:=by
 obtain⟨d,m,rfl,h0,h1,⟨ns,hd,hl,hz⟩,q⟩:=h
 show qm3 K _ [some (.ref d),some (.int m),none] H
 unfold qm3
 lk
 refine O1 (.inl (SqL.of hd)) ?_
 rw[M5]
 lk
 by_cases e1:((ns.length:Nat):Int)=1
 ·rw[decide_eq_true e1];refine V9 ?_
  lk
  exact q 0 H (by decide) h0 (Mv.refl ⟨ns,hd,hl,hz⟩)
 ·rw [decide_eq_false e1];refine S7 ?_
  obtain⟨x,xs,y,rfl⟩:∃ x xs y,ns=x::(xs++[y]):=by
   cases ns with
   | nil=>simp at hl
   | cons x r =>
     have hr:r≠[]:=fun z=>by rw[z] at e1;exact e1 rfl
     exact⟨x,r.dropLast,r.getLast hr,by rw[List.dropLast_concat_getLast hr]⟩
  lk
  refine⟨.inl ⟨rfl,_,SqL.of hd⟩,?_⟩
  have hd':H d=some (.lst (E9 (x::xs)++[.int y])):=by rw[hd];simp[E9]
  refine zu3 hd' ?_
  lk
  have b1:But [d] H (upd H d (.lst (E9 (x::xs)))):=But.upd (by simp) _
  have hd2:(upd H d (.lst (E9 (x::xs)))) d=some (.lst (E9 (x::xs))):=A7
  have n0:=Int.emod_nonneg y (show m≠0 by omega)
  have n1:=Int.emod_lt_of_pos y h0
  have dk1:Dk (upd H d (.lst (E9 (x::xs)))) d:=⟨x::xs,hd2,by simp,by simp at hz ⊢;omega⟩
  refine S5 (SqL.of hd2) (v:=.int x) (D8 (j:=0) rfl) ?_
  lk
  by_cases ex:x=1
  ·rw[decide_eq_true ex];refine V9 ?_
   lk
   refine yq3 ⟨h0,h1⟩ ?_
   lk
   by_cases ez:y / m=0
   ·rw[decide_eq_true ez];refine S7 ?_
    lk
    exact q _ _ n0 n1 ⟨b1,dk1⟩
   ·rw[decide_eq_false ez];refine V9 ?_
    lk
    refine⟨.inl ⟨rfl,_,SqL.of hd2⟩,?_⟩
    lk
    refine yq3 ⟨h0,h1⟩ ?_
    lk
    refine W6 hd2 (by rw[M5,sizeLine_eq];simp at hz ⊢;omega) ?_
    lk
    refine q _ _ n0 n1 ⟨But.tr b1 (But.upd (by simp) _),(x::xs)++[y / m],?_,by simp,by simp at hz ⊢;omega⟩
    rw[A7,qx0]
  ·rw[decide_eq_false ex];refine S7 ?_
   k_go
   lk
   exact q _ _ n0 n1 ⟨b1,dk1⟩
def nmG(c k:Int)(j:Nat):Nat:=97+((c / 64 % 26+(if(j:Int)=c / 8 % (1+c % 8) then c / 1664 % 3*j+k else c / 1664 % 3*j)) % 26).toNat
def wb5(c k:Int):List Nat :=
 if c / 1664 % 3=2 then List.replicate (1+k % 8).toNat (97+((c / 64 % 26+k / 8) % 26).toNat)
 else(List.range (1+c % 8).toNat).map (nmG c k)
def W8(c k:Int):Str:=⟨(wb5 c k).toArray⟩
theorem wm1(c k:Int):(wb5 c k).length=if c / 1664 % 3=2 then(1+k % 8).toNat else(1+c % 8).toNat:=by
 unfold wb5
 split <;> simp
theorem xr3(c k:Int):1<=(W8 c k).length/\(W8 c k).length<=8:=by
 have e:(W8 c k).length=(wb5 c k).length:=by show(wb5 c k).toArray.size=_;simp
 rw[e,wm1]
 split <;> omega
theorem zh1(c k:Int):W8 c k≠("":Str):=fun e=>by
 have:=(xr3 c k).1
 rw[e] at this
 exact absurd this (by decide)
variable{c j:Int}
theorem yy8{i:Int}(h0:0<=i)(h1:i<8)(h2:0<=j)(h3:j<8)(e:W8 c i=W8 c j):i=j:=by
 have e:wb5 c i=wb5 c j:=by
  have:=congrArg (fun s:Str=>s.cps.toList) e
  simpa [W8] using this
 by_cases h:c / 1664 % 3=2
 ·have:=congrArg List.length e
  rw[wm1,wm1,if_pos h,if_pos h] at this
  omega
 ·unfold wb5 at e
  rw[if_neg h,if_neg h] at e
  unfold nmG at e
  have g0:=Int.emod_nonneg c (show(8:Int)≠0 by decide)
  have t0:=Int.emod_nonneg (c / 8) (show(1+c % 8:Int)≠0 by omega)
  have t1:=Int.emod_lt_of_pos (c / 8) (show(0:Int)<1+c % 8 by omega)
  generalize c / 8 % (1+c % 8)=t at *
  have:=congrArg (fun l:List Nat=>l[t.toNat]?) e
  simp only[List.getElem?_map,List.getElem?_range (show t.toNat<(1+c % 8).toNat by omega),Option.map_some,Option.some.injEq] at this
  have et:((t.toNat:Nat):Int)=t:=by omega
  rw[if_pos et,if_pos et] at this
  generalize c / 1664 % 3*(t.toNat:Int)=z at *
  omega
def nmP(c k:Int)(i:Nat):Str:=⟨((List.range i).map (nmG c k)).toArray⟩
theorem zh2(c k:Int)(i:Nat):nmP c k i++(⟨#[nmG c k i]⟩:Str)=nmP c k (i+1):=by
 refine yr2 ?_
 show((nmP c k i).cps++#[nmG c k i]).toList=((List.range (i+1)).map (nmG c k)).toArray.toList
 rw[Array.toList_append,List.range_succ,List.map_append]
 rfl
theorem zq8(c k:Int)(i:Nat):(nmP c k i).length=i:=by show((List.range i).map (nmG c k)).toArray.size=i;simp
abbrev xi3(K:Fg):TS :=
 (G9 (tOp qp2 (tOp (I9 K) (A4 2) (tOp (rI (fun _ j=>0<j) fun i j=>.int (i % j)) (tOp (Y5 K) (A4 3) (tOp (rI xs6 fun i j=>.int (i / j)) (A4 1) (tC (.int 8)))) (tC (.int 26)))) (tOp (Y5 K) (tC (.int 1)) (tOp (rI (fun _ j=>0<j) fun i j=>.int (i % j)) (A4 1) (tC (.int 8))))))
abbrev xi4(K:Fg):TS :=
 (C1 (M3 (D6 (tOp (Q7 K) (A4 7) (A4 5)))
 (E4 (tOp (Y5 K) (A4 8) (A4 1)) (B3 8)) E8)
 (zh0 K))
abbrev xi5(K:Fg):TS :=
 (C1 (E4 (tOp qp2 (tOp (rI (fun _ j=>0<j) fun i j=>.int (i % j)) (tOp (rI xs6 fun i j=>.int (i / j)) (A4 0) (tC (.int 1664))) (tC (.int 3))) (A4 7)) (B3 8))
 (xi4 K))
abbrev xi6(K:Fg):TS :=
 (C1 (E4 (tC (.str "")) (B3 6))
 (C1 (qh9 (qh7 (A2 (A4 4) B0)) (B3 7)
 (xi5 K))
 (G9 (A4 6))))
abbrev xi7(K:Fg):TS :=
 (C1 (E4 (tOp (rI (fun _ j=>0<j) fun i j=>.int (i % j)) (tOp (rI xs6 fun i j=>.int (i / j)) (A4 0) (tC (.int 8))) (A4 4)) (B3 5))
 (xi6 K))
abbrev xi8(K:Fg):TS :=
 (C1 (E4 (tOp (Y5 K) (tC (.int 1)) (tOp (rI (fun _ j=>0<j) fun i j=>.int (i % j)) (A4 0) (tC (.int 8)))) (B3 4))
 (xi7 K))
abbrev xi9(K:Fg):TS :=
 (C1 (M3 (D6 (tOp (Q7 K) (tOp (rI (fun _ j=>0<j) fun i j=>.int (i % j)) (tOp (rI xs6 fun i j=>.int (i / j)) (A4 0) (tC (.int 1664))) (tC (.int 3))) (tC (.int 2))))
 (xi3 K) E8)
 (xi8 K))
abbrev xj0(K:Fg):TS :=
 (C1 (E4 (tOp (rI (fun _ j=>0<j) fun i j=>.int (i % j)) (tOp (rI xs6 fun i j=>.int (i / j)) (A4 0) (tC (.int 64))) (tC (.int 26))) (B3 3))
 (xi9 K))
def qc0(K:Fg):Sp:=fun vs H Q _=>∃ c k:Int,vs=[.int c,.int k]/\Q (.str (W8 c k)) H
def qm4(K:Fg):TS :=
 (C1 (E4 (tC (.str "abcdefghijklmnopqrstuvwxyz")) (B3 2))
 (xj0 K))
theorem xv4(h:qc0 K vs H Q E):qm4 K {nx:=fun _ H'=>Q .non H',rt:=Q} (J0 ["_law_code","_law_k","_law_letters","_law_first_here","_law_long","_law_told_here","_law_name_here","_law_j","_law_step"] vs) H:=by
 obtain⟨c,k,rfl,q⟩:=h
 show qm4 K _ [some (.int c),some (.int k),none,none,none,none,none,none,none] H
 unfold qm4
 lk
 have e0:W8 c k=⟨(wb5 c k).toArray⟩:=rfl
 unfold wb5 at e0
 by_cases h2:c / 1664 % 3=2
 ·rw[decide_eq_true h2];refine V9 ?_
  rw[if_pos h2] at e0
  lk
  refine zd2 (D5 (by rw[show("abcdefghijklmnopqrstuvwxyz":Str)=Lt from rfl,zg3];decide)) (zu9 (Int.emod_nonneg _ (by decide)) (Int.emod_lt_of_pos _ (by decide))) ?_
  lk
  have k0:=Int.emod_nonneg k (show(8:Int)≠0 by decide)
  have k1:=Int.emod_lt_of_pos k (show(0:Int)<8 by decide)
  refine yj3 (by omega) (by omega) (show(1:Nat)<=1000 by decide) ?_
  have e1:PySem.Txt.mul (ch (97+((c / 64 % 26+k / 8) % 26).toNat)) (1+k % 8)=W8 c k:=by
   rw[e0]
   exact yr2 (Ac8 (by omega))
  rw[<-e1] at q
  exact q
 ·rw[decide_eq_false h2];refine S7 ?_
  rw[if_neg h2] at e0
  have e0:W8 c k=nmP c k (1+c % 8).toNat:=e0
  rw[e0] at q
  have hG:∀ j,nmG c k j=97+((c / 64 % 26+(if(j:Int)=c / 8 % (1+c % 8) then c / 1664 % 3*j+k else c / 1664 % 3*j)) % 26).toNat:=fun _=>rfl
  generalize hf:c / 64 % 26=f at *
  lk
  have g0:=Int.emod_nonneg c (show(8:Int)≠0 by decide)
  have g1:=Int.emod_lt_of_pos c (show(0:Int)<8 by decide)
  generalize hg:(1:Int)+c % 8=g at *
  lk
  generalize htl:c / 8 % g=tl at *
  refine qg8 (by omega) (by omega) (fun i σ H'=>H'=H/\∃ (a1 a2:Option V),σ=[some (.int c),some (.int k),some (.str Lt),some (.int f),some (.int g),some (.int tl),some (.str (nmP c k i)),a1,a2]) ⟨rfl,_,_,rfl⟩ ?_ ?_
  ·rintro i σ H' hi ⟨rfl,a1,a2,rfl⟩
   have m0:=Int.emod_nonneg (c / 1664) (show(3:Int)≠0 by decide)
   have m1:=Int.emod_lt_of_pos (c / 1664) (show(0:Int)<3 by decide)
   lk
   refine wx2 (.inl ⟨by omega,by omega⟩) ?_
   have fin:∀ (D:V0) (sv:Int),97+((f+sv) % 26).toNat=nmG c k i->(∀ (a1 a2:Option V),D.nx [some (.int c),some (.int k),some (.str Lt),some (.int f),some (.int g),some (.int tl),some (.str (nmP c k (i+1))),a1,a2] H')->(zh0 K) D [some (.int c),some (.int k),some (.str Lt),some (.int f),some (.int g),some (.int tl),some (.str (nmP c k i)),some (.int i),some (.int sv)] H':=by
    intro D sv hsv qq
    unfold zh0
    lk
    refine zd2 (D5 (by rw[zg3];decide)) (zu9 (Int.emod_nonneg _ (by decide)) (Int.emod_lt_of_pos _ (by decide))) ?_
    rw[hsv]
    refine zd0 (by rw[zq8];show _+1<=_;rw[sizeLine_eq];omega) ?_
    rw[zh2]
    lk
    exact qq _ _
   lk
   by_cases et:(i:Int)=tl
   ·rw[decide_eq_true et];refine V9 ?_
    lk
    exact fin _ _ (by rw[hG,if_pos et]) fun a1 a2=>⟨rfl,a1,a2,rfl⟩
   ·rw[decide_eq_false et];refine S7 ?_
    lk
    exact fin _ _ (by rw[hG,if_neg et]) fun a1 a2=>⟨rfl,a1,a2,rfl⟩
  ·rintro σ H' ⟨rfl,a1,a2,rfl⟩
   lk
   exact q
def gd(l:List Str)(i:Nat):Str:=l.getD i ("":Str)
theorem zh3{l:List Str}(h:i<l.length):l[i]?=some (gd l i):=by
 unfold gd;rw[List.getD_eq_getElem?_getD];simp[h]
theorem Ad0{xs:List Str}:gd (xs++[y]) xs.length=y:=by
 have h1:=zh3 (l:=xs++[y]) (i:=xs.length) (by simp)
 rw[List.getElem?_append_right (Nat.le_refl _),Nat.sub_self] at h1
 exact(Option.some.inj h1).symm
variable{rs:List Row}
theorem Rws.same(h:Rws K H v rs)(s:A6 H H'):Rws K H' v rs:=by
 obtain⟨a,vs,rfl,hq,hd⟩:=h
 exact⟨a,vs,rfl,hq.imp s.sqL s.sqT,Dvs.same s _ _ hd⟩
theorem yd4{n:Str}{r:Row}(h:Z3 rs (some n)=some r):r∈rs/\r.name=n:=by
 refine⟨List.mem_of_find?_eq_some h,?_⟩
 have:=List.find?_some h
 simpa using this
def xv5(rs:List Row)(n:Str):Bool:=match Z3 rs (some n) with|none=>false|some r=>decide (r.sort∈[("room":Str),("frame":Str)])
def qh0(rs:List Row)(ns:List Str):List Str:=ns.foldl (fun acc n=>if xv5 rs n then[] else acc++[n]) []
theorem qp9(rs:List Row)(ns:List Str)(n:Str):qh0 rs (ns++[n])=if xv5 rs n then[] else qh0 rs ns++[n]:=by
 unfold qh0;rw[List.foldl_append];rfl
theorem wz7(rs:List Row):∀ (k:Nat) (ns:List Str),ns.length=k->(qh0 rs ns).length<=k
 | 0,ns,h=>by rw[List.length_eq_zero_iff.mp h];exact Nat.le_refl _
 | k+1,ns,h=>by
   have hp:ns≠[]:=fun e=>by rw[e] at h;cases h
   rw[<-List.dropLast_concat_getLast hp,qp9]
   have:=wz7 rs k ns.dropLast (by rw[List.length_dropLast];omega)
   split
   ·exact Nat.zero_le _
   ·rw[List.length_append,List.length_singleton];omega
def L5(ys:List Str):Str:=gd ys (ys.length-1)
theorem yd5(xs:List Str)(y:Str):L5 (xs++[y])=y:=by
 unfold L5
 rw[List.length_append,List.length_singleton,Nat.add_sub_cancel];exact Ad0
theorem zq9(xs:List Str):inV .non (D4 xs)=false:=by
 induction xs with
 | nil=>rfl
 | cons x l ih =>
   unfold inV at ih ⊢
   show(eqV (.str x) .non || (D4 l).any fun z=>eqV z .non)=false
   rw[ih];rfl
def qr7(K:Fg):Sp:=fun vs H Q _=>∃ v n rs,vs=[v,.str n]/\Rws K H v rs/\Q (.bl (xv5 rs n)) H
def qz7(K:Fg)(c_WALL_SORTS:Addr):TS :=
 (G9 (tOp (wd5 K false) (C2 (qk5 K) [] E0 (A2 (A4 0) (A2 (A4 1) B0))) (tC (.ref c_WALL_SORTS))))
theorem ym4{c_WALL_SORTS:Addr}(q_WALL_SORTS:∀ H:Hp,SqT K H c_WALL_SORTS [.str "room",.str "frame"])(h:qr7 K vs H Q E):qz7 K c_WALL_SORTS {nx:=fun _ H'=>Q .non H',rt:=Q} (J0 ["book","name"] vs) H:=by
 obtain⟨v,n,rs,rfl,hR,q⟩:=h
 show qz7 K c_WALL_SORTS _ [some v,some (.str n)] H
 unfold qz7
 lk
 refine⟨v,some n,rs,rfl,hR,?_⟩
 lk
 have hw:xv5 rs n=inV (oV (qa7 rs (some n))) (D4 [("room":Str),("frame":Str)]):=by
  unfold xv5 qa7
  cases Z3 rs (some n) with
  | none=>exact(zq9 _).symm
  | some r=>exact(qk7 _ _).symm
 refine .inl (yj4 (xs:=D4 [("room":Str),("frame":Str)]) (.inr (q_WALL_SORTS H)) ?_ (qe3 _) ?_)
 ·cases qa7 rs (some n) <;> rfl
 ·rw[<-hw];exact q
abbrev yd7(K:Fg):TS :=
 (M3 (tB (C2 (qr7 K) [] E0 (A2 (A4 0) (A2 (A4 4) B0))))
 (E4 (tOp (R1 K) (A4 3) (tC (.int 1))) (B3 2)) E8)
abbrev yd8(K:Fg):TS :=
 (C1 (qh9 (yj9 K (A2 (A4 1) B0)) (wj6 K 2 (R7 (B3 3) (R7 (B3 4) wj5)))
 (yd7 K))
 (G9 (tCB (qm1 K) (A2 (tSl (qr1 K) (A4 1) (Z1 (A4 2)) Q1) B0))))
def qr8(K:Fg):Sp:=fun vs H Q _=>∃ v a ys rs,vs=[v,.ref a]/\Rws K H v rs/\SqT K H a (D4 ys)/\ys.length<=1000/\∀ p H',A6 H H'->SqT K H' p (D4 (qh0 rs ys))->Q (.ref p) H'
def qz8(K:Fg):TS :=
 (C1 (E4 (tC (.int 0)) (B3 2))
 (yd8 K))
theorem ym5(h:qr8 K vs H Q E):qz8 K {nx:=fun _ H'=>Q .non H',rt:=Q} (J0 ["book","names","start","number","name"] vs) H:=by
 obtain⟨v,a,ys,rs,rfl,hR,hq,hl,q⟩:=h
 show qz8 K _ [some v,some (.ref a),none,none,none] H
 unfold qz8
 lk
 refine yx2 hq (fun i σ H'=>A6 H H'/\∃ (st:Nat) (a3 a4:Option V),σ=[some v,some (.ref a),some (.int st),a3,a4]/\st<=i/\qh0 rs (ys.take i)=(ys.take i).drop st) ⟨A6.refl _,0,none,none,rfl,Nat.le_refl _,rfl⟩ (fun i σ H' p=>p.1.sqT hq) ?_ ?_
 ·rintro i x σ H' p hx ⟨s1,st,a3,a4,rfl,hst,hnr⟩ hp
  obtain⟨y,hy,rfl⟩:=qx1 hx
  have il:=(List.getElem?_eq_some_iff.mp hy).1
  have etk:ys.take (i+1)=ys.take i++[y]:=by rw[List.take_add_one,hy];rfl
  have s2:A6 H (upd H' p (.tup [.int (i:Int),.str y])):=A6.tr s1 (A6.new hp _)
  refine⟨p,_,rfl,SqT.of A7,rfl,_,_,rfl,N1 ⟨_,_,rfl,N1 ⟨rfl,?_⟩⟩⟩
  lk
  refine⟨v,y,rs,rfl,hR.same s2,?_⟩
  lk
  cases hw:xv5 rs y with
  | true =>
    x_go
    lk
    refine .inl (qq9 ?_)
    lk
    refine⟨s2,i+1,_,_,rfl,Nat.le_refl _,?_⟩
    rw[etk,qp9,if_pos hw,List.drop_eq_nil_of_le (by rw[List.length_append,List.length_take,List.length_singleton];omega)]
  | false =>
    k_go
    lk
    refine⟨s2,st,_,_,rfl,by omega,?_⟩
    rw[etk,qp9,if_neg (by rw[hw];exact Bool.false_ne_true),hnr,List.drop_append_of_le_length (by rw[List.length_take];omega)]
 ·rintro σ H' ⟨s1,st,a3,a4,rfl,hst,hnr⟩
  rw[G8,List.take_length] at hnr
  lk
  refine qk3 (s1.sqT hq) fun p H2 s2 hp=>?_
  have e:qg7 (D4 ys) (some (st:Int)) none=D4 (qh0 rs ys):=by
   unfold qg7
   rw[HT.xs7]
   show((D4 ys).drop (min st (D4 ys).length)).take ((D4 ys).length-min st (D4 ys).length)=_
   rw[G8] at hst ⊢
   rw[Nat.min_eq_left hst,List.take_of_length_le (by rw[List.length_drop,G8];exact Nat.le_refl _),hnr]
   unfold D4
   rw[List.map_drop]
  rw[e] at hp
  lk
  refine⟨p,_,rfl,.inr ⟨hp,?_⟩⟩
  exact q p H2 (A6.tr s1 s2) hp
def U9(K:Fg):Sp:=fun vs H Q _=>∃ (a b:Addr) (ys zs:List Str),vs=[.ref a,.ref b]/\SqT K H a (D4 ys)/\SqT K H b (D4 zs)/\ys.length<=1000/\∀ H',A6 H H'->Q (.bl (ys.any fun y=>decide (y∈zs))) H'
def qc1(K:Fg):TS :=
 (G9 (tCB (zd8 K) (A2 (Y4 [some 1,none] (qi1 K (A4 0)) (B3 1) tTT (tOp (wd5 K false) (A4 1) (A4 0))) B0)))
theorem wr5(h:U9 K vs H Q E):qc1 K {nx:=fun _ H'=>Q .non H',rt:=Q} (J0 ["names","others"] vs) H:=by
 obtain⟨a,b,ys,zs,rfl,ha,hb,hl,q⟩:=h
 show qc1 K _ [some (.ref a),some (.ref b)] H
 unfold qc1
 lk
 refine qp7 (H0:=H) (.inr ha) (A6.refl _) (fun i us H'=>H'=H/\us=((ys.take i).map fun y=>decide (y∈zs)).map V.bl) ⟨rfl,rfl⟩ ?_ (fun i us H' p=>p.1▸A6.refl _) ?_ ?_
 ·rintro i us H' hi ⟨_,rfl⟩
  rw[List.length_map,List.length_map,List.length_take];exact D5 (by omega)
 ·rintro i x us H' hx ⟨rfl,rfl⟩
  obtain⟨y,hy,rfl⟩:=qx1 hx
  lk
  refine .inl (yj4 (.inr hb) rfl (qe3 _) ?_)
  rw[qk7]
  refine⟨rfl,?_⟩
  rw[List.take_add_one,hy]
  simp
 ·rintro us H' ⟨rfl,rfl⟩ p hp
  rw[G8,List.take_length]
  lk
  refine Ai8 (SqL.of A7) ?_
  rw[List.any_map]
  exact q _ (A6.new hp _)
def S1(K:Fg):Sp:=fun vs H Q _=>∃ (a:Addr) (ys:List Str),vs=[.ref a]/\(SqL K H a (D4 ys)\/SqT K H a (D4 ys))/\Q (.str (L5 ys)) H
def X9(K:Fg):TS :=
 (G9 (tIf (D6 (tOp ww8 (tCB (P6 K) (A2 (A4 0) B0)) (tC (.int 0)))) (tOp (I9 K) (A4 0) (tUn (rU fun i=>.int (-i)) (tC (.int 1)))) (tC (.str ""))))
theorem wg5(h:S1 K vs H Q E):X9 K {nx:=fun _ H'=>Q .non H',rt:=Q} (J0 ["names"] vs) H:=by
 obtain⟨a,ys,rfl,hq,q⟩:=h
 show X9 K _ [some (.ref a)] H
 unfold X9
 lk
 refine O1 hq ?_
 rw[G8]
 lk
 by_cases h0:(0:Int)<(ys.length:Int)
 ·rw[decide_eq_true h0]
  x_go
  lk
  refine⟨1,rfl,?_⟩
  have e1:(D4 ys)[(D4 ys).length-1]?=some (.str (L5 ys)):=by
   rw[G8];unfold D4 L5;rw[List.getElem?_map,zh3 (by omega)];rfl
  have e2:=zq6 (by rw[G8];omega) e1
  rcases hq with hq|hq
  ·exact S5 hq e2 q
  ·exact G7 hq e2 q
 ·rw[decide_eq_false h0]
  k_go
  lk
  have:ys=[]:=List.length_eq_zero_iff.mp (by omega)
  subst this
  exact q
def way:Tr->List Int->Option (List Tr)
 | t,[]=>some [t]
 | t,k::pl=>if 0<=k then(match t.kids[k.toNat]? with|some u=>(way u pl).map (t::·)|none=>none) else none
variable{pl:List Int}{ws:List Tr}
theorem S2{t:Tr}{k:Int}(h:way t (k::pl)=some ws):0<=k/\∃ u ws',t.kids[k.toNat]?=some u/\way u pl=some ws'/\ws=t::ws':=by
 rw[way] at h
 by_cases h0:0<=k
 ·rw[if_pos h0] at h
  cases e:t.kids[k.toNat]? with
  | none=>rw[e] at h;cases h
  | some u =>
    rw[e] at h
    obtain⟨ws',h1,h2⟩:=Option.map_eq_some_iff.mp h
    exact⟨h0,u,ws',rfl,h1,h2.symm⟩
 ·rw[if_neg h0] at h;cases h
variable{u:Tr}
theorem ym6{t:Tr}{k:Nat}(e:t.kids[k]?=some u)(h:way u pl=some ws):way t ((k:Int)::pl)=some (t::ws):=by
 rw[way,if_pos (by omega)]
 rw[show((k:Int)).toNat=k by omega,e]
 show(way u pl).map (t::·)=_
 rw[h];rfl
theorem V7:∀ {pl:List Int} {t:Tr} {ws:List Tr},way t pl=some ws->ws.length=pl.length+1
 | [],t,ws,h=>by rw[way] at h;cases h;rfl
 | k::pl,t,ws,h=>by
   obtain⟨_,u,ws',_,h2,rfl⟩:=S2 h
   rw[List.length_cons,List.length_cons,V7 h2]
theorem qx3:∀ {pl:List Int} {t:Tr} {ws:List Tr} {i:Nat} {k:Int},way t pl=some ws->pl[i]?=some k->∃ u w,ws[i]?=some u/\0<=k/\u.kids[k.toNat]?=some w/\ws[i+1]?=some w
 | [],t,ws,i,k,_,e=>by simp at e
 | j::pl,t,ws,0,k,h,e=>by
   obtain⟨h0,u,ws',h1,h2,rfl⟩:=S2 h
   cases e
   refine⟨t,u,rfl,h0,h1,?_⟩
   cases pl with
   | nil=>rw[way] at h2;cases h2;rfl
   | cons k' pl'=>obtain⟨_,_,_,_,_,rfl⟩:=S2 h2;rfl
 | j::pl,t,ws,i+1,k,h,e=>by
   obtain⟨h0,u,ws',h1,h2,rfl⟩:=S2 h
   obtain⟨u',w,a1,a2,a3,a4⟩:=qx3 (i:=i) h2 (by simpa using e)
   exact⟨u',w,by simpa using a1,a2,a3,by simpa using a4⟩
theorem qx4{t:Tr}(h:way t pl=some ws):ws[0]?=some t:=by
 cases pl with
 | nil=>rw[way] at h;cases h;rfl
 | cons k pl=>obtain⟨_,_,_,_,_,rfl⟩:=S2 h;rfl
theorem U5{xs:List α}{v:α}(hn:xs.length=n+1)(e:xs[n]?=some v):atI xs (-1)=some v:=by
 unfold atI ixN
 rw[if_neg (by decide),if_pos (by omega)]
 show xs[((xs.length:Int) + -1).toNat]?=some v
 rw[show((xs.length:Int) + -1).toNat=n by omega];exact e
def U0(K:Fg):Sp:=fun vs H Q _=>∃ (n:Str) (ps:List Tr) (v:V),vs=[v]/\Dv K H (Tr.nd n ps).da v/\Q (.str n) H
def qz9(K:Fg):TS :=
 (G9 (tOp (I9 K) (A4 0) (tC (.int 0))))
theorem ym7(h:U0 K vs H Q E):qz9 K {nx:=fun _ H'=>Q .non H',rt:=Q} (J0 ["tree"] vs) H:=by
 obtain⟨n,ps,v,rfl,hd,q⟩:=h
 show qz9 K _ [some v] H
 unfold qz9
 obtain⟨a,bq,us,rfl,ha,_⟩:=U8 hd
 lk
 exact G7 ha (v:=.str n) rfl q
abbrev ym8(K:Fg):TS :=
 (C1 (M3 (wj3 (D6 (wv9 zc2 yj1 (tC (.int 0)) (A4 3) (tCB (P6 K) (A2 (A4 4) B0)))))
 yz5 E8)
 (qh6 (tBM K "list" X6 (A4 2) (A2 (tOp (I9 K) (A4 4) (A4 3)) B0))))
abbrev ym9(K:Fg):TS :=
 (C1 (E4 (C2 (Q6 K) [] E0 (A2 (tOp (I9 K) (A4 2) (tUn (rU fun i=>.int (-i)) (tC (.int 1)))) B0)) (B3 4))
 (ym8 K))
def qj9(K:Fg):Sp:=fun vs H Q _=>∃ (t:Tr) (v:V) (a:Addr) (pl:List Int) (ws:List Tr),vs=[v,.ref a]/\Dv K H t.da v/\SqT K H a (E9 pl)/\way t pl=some ws/\pl.length<=50000/\∀ (p:Addr) (us:List V) (H':Hp),A6 H H'->H' p=some (.lst us)->Dvs K H' (Tr.das ws) us->Q (.ref p) H'
def wg6(K:Fg):TS :=
 (C1 (E4 (Y8 (A2 (A4 0) B0)) (B3 2))
 (C1 (qh9 (qi1 K (A4 1)) (B3 3)
 (ym9 K))
 (G9 (A4 2))))
theorem yy9(h:qj9 K vs H Q E):wg6 K {nx:=fun _ H'=>Q .non H',rt:=Q} (J0 ["tree","place","way","number","parts"] vs) H:=by
 obtain⟨t,v,a,pl,ws,rfl,hd,ha,hw,hl,q⟩:=h
 show wg6 K _ [some v,some (.ref a),none,none,none] H
 unfold wg6
 have hwl:=V7 hw
 lk
 refine⟨D5 (by z_go),fun p hp=>?_⟩
 lk
 refine qp6 (H0:=H) (xs:=E9 pl) (.inr ha) (A6.new hp _) (fun i σ H'=>∃ (us:List V) (a3 a4:Option V),σ=[some v,some (.ref a),some (.ref p),a3,a4]/\A6 H H'/\H' p=some (.lst us)/\Dvs K H' (Tr.das (ws.take (i+1))) us) ⟨[v],_,_,rfl,A6.new hp _,A7,?_⟩ (fun i σ H' ⟨_,_,_,_,s,_⟩=>s) ?_ ?_
 ·rw[List.take_add_one,List.take_zero,qx4 hw]
  show Dvs K _ (Tr.das [t]) [v]
  rw[Tr.das,Tr.das]
  exact Dvs.one (Dv.same (A6.new hp _) _ _ hd)
 ·rintro i x σ H' hx ⟨us,a3,a4,rfl,s1,hp',dv⟩
  unfold E9 at hx
  rw[List.getElem?_map] at hx
  obtain⟨k,hk,rfl⟩:=Option.map_eq_some_iff.mp hx
  obtain⟨u,w,h1,h2,h3,h4⟩:=qx3 hw hk
  have il:=(List.getElem?_eq_some_iff.mp hk).1
  have hul:us.length=i+1:=by rw[Q5 dv,List.length_take];omega
  obtain⟨y,hy,dy⟩:=qb6 dv (i:=i) (t:=u) (by rw[List.getElem?_take_of_lt (by omega)];exact h1)
  lk
  refine⟨1,rfl,?_⟩
  refine S5 (SqL.of hp') (U5 hul hy) ?_
  lk
  refine⟨u,y,rfl,dy,fun c ys H2 s2 hc dc=>?_⟩
  lk
  rw[decide_eq_true h2]
  x_go
  lk
  refine O1 (.inr hc) ?_
  have hkl:=(List.getElem?_eq_some_iff.mp h3).1
  have hyl:=Q5 dc
  lk
  rw[decide_eq_true (by omega)]
  k_go
  lk
  have hp2:=s2 _ _ hp'
  refine⟨.inl ⟨rfl,_,SqL.of hp2⟩,?_⟩
  lk
  obtain⟨z,hz,dz⟩:=qb6 dc h3
  refine G7 hc (ixI h2 hz) ?_
  lk
  refine W6 hp2 (by rw[sizeLine_eq];omega) ?_
  have tk:qh4 H2 (upd H2 p (.lst (us++[z]))):=U6 hp2
  refine⟨us++[z],_,_,rfl,A6.put (A6.tr s1 s2) hp _,A7,?_⟩
  rw[List.take_add_one,h4,O4,List.map_append,<-O4]
  exact Dvs.append (Dvs.tupK tk _ _ (qe9 _) (Dvs.same s2 _ _ dv)) (Dvs.one (Dv.tupK tk _ _ (qa9 w) dz))
 ·rintro σ H' ⟨us,a3,a4,rfl,s1,hp',dv⟩
  lk
  rw[List.take_of_length_le (by rw[M5];omega)] at dv
  exact q p us H' s1 hp' dv
def qk8(K:Fg):Sp:=fun vs H Q _=>∃ (t u:Tr) (v:V) (a:Addr) (pl:List Int) (ws:List Tr),vs=[v,.ref a]/\Dv K H t.da v/\SqT K H a (E9 pl)/\way t pl=some (ws++[u])/\pl.length<=50000/\∀ (x:V) (H':Hp),A6 H H'->Dv K H' u.da x->Q x H'
def wa0(K:Fg):TS :=
 (G9 (tOp (I9 K) (C2 (qj9 K) [] E0 (A2 (A4 0) (A2 (A4 1) B0))) (tUn (rU fun i=>.int (-i)) (tC (.int 1)))))
theorem yn1(h:qk8 K vs H Q E):wa0 K {nx:=fun _ H'=>Q .non H',rt:=Q} (J0 ["tree","place"] vs) H:=by
 obtain⟨t,u,v,a,pl,ws,rfl,hd,ha,hw,hl,q⟩:=h
 show wa0 K _ [some v,some (.ref a)] H
 unfold wa0
 lk
 refine⟨t,v,a,pl,ws++[u],rfl,hd,ha,hw,hl,fun p us H' s1 hp dv=>?_⟩
 lk
 refine⟨1,rfl,?_⟩
 rw[O4,List.map_append] at dv
 obtain⟨us',x,rfl,_,dx⟩:=Dvs.snoc dv
 refine S5 (SqL.of hp) (v:=x) (U5 (n:=us'.length) (by simp) (by simp)) ?_
 exact q x H' s1 dx
def ql6:Tr->Str
 | .nd n _=>n
 | .tx _ => ""
theorem zr0(xs:List V)(x z:V):qg7 (x::(xs++[z])) (some 1) (some (-1))=xs:=by
 unfold qg7
 have e1:HT.sIx (x::(xs++[z])).length 0 (some 1)=1:=by
  have:=HT.xs7 (x::(xs++[z])).length 0 1
  rw[show((1:Nat):Int)=1 from rfl] at this
  rw[this];simp
 have e2:HT.sIx (x::(xs++[z])).length (x::(xs++[z])).length (some (-1))=xs.length+1:=by
  unfold HT.sIx;simp;omega
 rw[e1,e2];simp
def qc2(K:Fg):Sp:=fun vs H Q _=>∃ (t u:Tr) (v:V) (a:Addr) (pl:List Int) (ws:List Tr),vs=[v,.ref a]/\Dv K H t.da v/\SqT K H a (E9 pl)/\way t pl=some (t::(ws++[u]))/\(∀ w∈ws,w.isTx=false)/\pl.length<=50000/\∀ (p:Addr) (H':Hp),A6 H H'->H' p=some (.tup (D4 (ws.map ql6)))->Q (.ref p) H'
def qf2(K:Fg):TS :=
 (G9 (tCB (qm1 K) (A2 (Y4 [none] (qi1 K (tSl (zd6 K) (C2 (qj9 K) [] E0 (A2 (A4 0) (A2 (A4 1) B0))) (Z1 (tC (.int 1))) (Z1 (tUn (rU fun i=>.int (-i)) (tC (.int 1)))))) (B3 0) tTT (C2 (U0 K) [] E0 (A2 (A4 0) B0))) B0)))
theorem wz8(h:qc2 K vs H Q E):qf2 K {nx:=fun _ H'=>Q .non H',rt:=Q} (J0 ["tree","place"] vs) H:=by
 obtain⟨t,u,v,a,pl,ws,rfl,hd,ha,hw,hn,hl,q⟩:=h
 show qf2 K _ [some v,some (.ref a)] H
 unfold qf2
 have hwl:=V7 hw
 rw[List.length_cons,List.length_append] at hwl
 lk
 refine⟨t,v,a,pl,_,rfl,hd,ha,hw,hl,fun p us H' s1 hp dv=>?_⟩
 lk
 rw[O4,List.map_cons,List.map_append,Dvs] at dv
 obtain⟨v0,r,rfl,_,dv⟩:=dv
 obtain⟨us,x,rfl,dus,dx⟩:=Dvs.snoc dv
 refine⟨1,rfl,?_⟩
 lk
 refine zu1 (SqL.of hp) fun p2 hp2=>?_
 rw[zr0]
 have s2:=A6.tr s1 (A6.new hp2 (.lst us))
 have dus2:Dvs K (upd H' p2 (.lst us)) (Tr.das ws) us:=by rw[O4];exact Dvs.same (A6.new hp2 _) _ _ dus
 have hp3:(upd H' p2 (.lst us)) p2=some (.lst us):=A7
 have hul:=Q5 dus2
 generalize upd H' p2 (.lst us)=H2 at *
 refine qe0 (xs:=us) (SqL.of hp3) (fun i ys H'=>H'=H2/\ys=D4 ((ws.take i).map ql6)) ⟨rfl,rfl⟩ ?_ ?_ ?_ ?_
 ·rintro i ys H' hi ⟨rfl,rfl⟩
  rw[G8,List.length_map,List.length_take]
  exact D5 (by omega)
 ·rintro i ys H' hi ⟨rfl,rfl⟩
  exact SqL.of hp3
 ·rintro i y ys H' hy ⟨rfl,rfl⟩
  obtain⟨d,h1,h2⟩:=dus2.get' hy
  rw[O4,List.getElem?_map] at h1
  obtain⟨w,hw1,rfl⟩:=Option.map_eq_some_iff.mp h1
  have hwn:=hn w (List.mem_of_getElem? hw1)
  cases w with
  | tx s=>cases hwn
  | nd n ps =>
    lk
    refine⟨n,ps,y,rfl,h2,?_⟩
    refine⟨rfl,?_⟩
    rw[List.take_add_one,hw1]
    simp[D4,ql6]
 ·rintro ys H' ⟨rfl,rfl⟩ p4 hp4
  rw[hul,List.take_length]
  lk
  refine⟨p4,_,rfl,.inl ⟨SqL.of A7,fun t4 ht4=>?_⟩⟩
  exact q t4 _ (A6.tr s2 (A6.tr (A6.new hp4 _) (A6.new ht4 _))) A7
def qi2(K:Fg):Sp:=fun vs H Q _=>∃ (t:Tr) (v:V),vs=[v]/\Dv K H t.da v/\wt t<=40000/\∀ (p:Addr) (us:List V) (H':Hp),A6 H H'->H' p=some (.lst us)->Dvs K H' ((pre [] t).map fun p=>.tuple (qa8 p.1)) us->Q (.ref p) H'
def qm5(K:Fg):TS :=
 (G9 (Y4 [none,none] (qi1 K (C2 (qa0 K) [] E0 (A2 (A4 0) B0))) (wj6 K 2 (R7 (B3 0) (R7 (B3 1) wj5))) tTT (A4 0)))
theorem xv6(h:qi2 K vs H Q E):qm5 K {nx:=fun _ H'=>Q .non H',rt:=Q} (J0 ["tree"] vs) H:=by
 obtain⟨t,v,rfl,hd,hz,q⟩:=h
 show qm5 K _ [some v] H
 unfold qm5
 lk
 refine⟨t,v,rfl,hd,hz,fun p us H1 s1 _ hp dvs=>?_⟩
 have hlen:us.length=(pre [] t).length:=by have:=dvs.length;rw[List.length_map] at this;exact this
 have hpw:=ym2 [] t
 refine qe0 (xs:=us) (SqL.of hp) (fun i ys H'=>H'=H1/\ys.length=i/\Dvs K H1 (((pre [] t).take i).map fun p=>.tuple (qa8 p.1)) ys) ⟨rfl,rfl,E6⟩ ?_ ?_ ?_ ?_
 ·rintro i ys H' hi ⟨rfl,hl,_⟩
  exact D5 (by omega)
 ·rintro i ys H' hi ⟨rfl,_⟩
  exact SqL.of hp
 ·rintro i x ys H' hx ⟨rfl,hl,dy⟩
  obtain⟨e,he,hdx⟩:=dvs.get' hx
  rw[List.getElem?_map] at he
  obtain⟨pt,hpt,rfl⟩:=Option.map_eq_some_iff.mp he
  obtain⟨a,bq,u,rfl,ha,hb,hu⟩:=yd1 hdx
  refine⟨a,_,rfl,ha,rfl,_,_,rfl,?_⟩
  lk
  refine⟨_,_,rfl,?_⟩
  lk
  refine⟨rfl,?_⟩
  lk
  refine⟨rfl,by simp[hl],?_⟩
  rw[List.take_add_one,hpt,List.map_append]
  exact Dvs.append dy (Dvs.one (C3.mpr ⟨bq,_,rfl,hb,N7.mpr rfl⟩))
 ·rintro ys H' ⟨rfl,hl,dy⟩ r hr
  rw[hlen,List.take_length] at dy
  exact q r ys _ (A6.tr s1 (A6.new hr _)) A7 (Dvs.same (A6.new hr _) _ _ dy)
def qr9(rs:List Row)(ns:List Str)(n:Str):Option Str :=
 if(T9 rs (some (L5 ns))).isSome && decide (T9 rs (some (L5 ns))≠some n) then some "guest"
 else if(frameOf rs (some n)).isSome && decide (frameOf rs (some n)≠some (L5 ns)) then some "lost" else none
def wp5(rs:List Row)(ns:List Str)(n:Str):Option Str :=
 match Z3 rs (some n) with
 | none=>none
 | some r=>if((qh0 rs ns).any fun y=>decide (y∈r.shuts)) then some "shut" else if((qh0 rs ns).any fun y=>decide (y∈r.bars)) then some "barred" else none
def wg7(rs:List Row)(ns:List Str)(n:Str)(m:Nat):Option Str :=
 match qa7 rs (some n) with
 | none=>some "strange"
 | some s=>if s=("bare":Str)/\0<m then some "full" else if 19<ns.length then some "deep" else match qr9 rs ns n with|some f=>some f|none=>wp5 rs ns n
def wz9(rs:List Row)(ns:List Str)(s:Str)(bs:Bool):Option Str :=
 if(T9 rs (some (L5 ns))).isSome then some "guest" else if s=("":Str) then some "empty" else if bs then some "beside" else none
def qc3(rs:List Row)(ns:List Str)(t:Tr)(bs:Bool):Option Str :=
 match t with
 | .tx s=>wz9 rs ns s bs
 | .nd n ps=>wg7 rs ns n ps.length
theorem wd9(x:Option Str):decide (oV x=.non)=x.isNone:=by cases x <;> rfl
theorem wv1{xs:List Str}(h:Dv K H (.tuple (sDa xs)) v):∃ b,v=.ref b/\SqT K H b (D4 xs):=by
 obtain⟨b,ys,rfl,hb,h⟩:=C3.mp h
 rw[V6] at h;subst h
 exact⟨b,rfl,hb⟩
abbrev xa0(K:Fg):TS :=
 (C1 (M3 (D6 (tOp (Q7 K) (A4 2) (tC (.str ""))))
 (G9 (tC (.str "empty"))) E8)
 (G9 (tIf (tB (A4 3)) (tC (.str "beside")) (tC .non))))
def qf3(K:Fg):Sp:=fun vs H Q _=>∃ (v:V) (rs:List Row) (a:Addr) (ns:List Str) (s:Str) (c:Bool),vs=[v,.ref a,.str s,.bl c]/\Rws K H v rs/\SqT K H a (D4 ns)/\Q (oV (wz9 rs ns s c)) H
def qi3(K:Fg):TS :=
 (C1 (M3 (D6 (tOp qm0 (C2 (qk6 K) [] E0 (A2 (A4 0) (A2 (C2 (S1 K) [] E0 (A2 (A4 1) B0)) B0))) (tC .non)))
 (G9 (tC (.str "guest"))) E8)
 (xa0 K))
theorem xj3(h:qf3 K vs H Q E):qi3 K {nx:=fun _ H'=>Q .non H',rt:=Q} (J0 ["book","names","text","beside"] vs) H:=by
 obtain⟨v,rs,a,ns,s,c,rfl,hR,ha,q⟩:=h
 show qi3 K _ [some v,some (.ref a),some (.str s),some (.bl c)] H
 unfold qi3
 unfold wz9 at q
 lk
 refine⟨a,ns,rfl,.inr ha,?_⟩
 lk
 refine⟨v,some (L5 ns),rs,rfl,hR,?_⟩
 lk
 rw[wd9]
 cases e:T9 rs (some (L5 ns)) with
 | some hh =>
   rw[e] at q
   x_go
   lk
   exact q
 | none =>
   rw[e] at q
   k_go
   lk
   by_cases h0:s=("":Str)
   ·rw[decide_eq_true h0];refine V9 ?_
    lk
    rw[if_neg (by decide),if_pos h0] at q
    exact q
   ·rw[decide_eq_false h0];refine S7 ?_
    rw[if_neg (by decide),if_neg h0] at q
    lk
    cases c with
    | true=>exact q
    | false=>exact q
abbrev wr7(K:Fg):TS :=
 (C1 (M3 (wa6 (D6 (tOp qm0 (A4 5) (tC .non))) (D6 (tOp (W5 K) (A4 5) (A4 3))))
 (G9 (tC (.str "lost"))) E8)
 (G9 (tC .non)))
def yn2(K:Fg):TS :=
 (C1 (E4 (C2 (qm2 K) [] E0 (A2 (A4 0) (A2 (A4 2) B0))) (B3 5))
 (wr7 K))
abbrev wr8(K:Fg):TS :=
 (C1 (M3 (wa6 (D6 (tOp qm0 (A4 4) (tC .non))) (D6 (tOp (W5 K) (A4 4) (A4 2))))
 (G9 (tC (.str "guest"))) E8)
 (yn2 K))
abbrev wr9(K:Fg):TS :=
 (C1 (E4 (C2 (qk6 K) [] E0 (A2 (A4 0) (A2 (A4 3) B0))) (B3 4))
 (wr8 K))
def qc4(K:Fg):Sp:=fun vs H Q _=>∃ (v:V) (rs:List Row) (a:Addr) (ns:List Str) (n:Str),vs=[v,.ref a,.str n]/\Rws K H v rs/\SqT K H a (D4 ns)/\Q (oV (qr9 rs ns n)) H
def qf4(K:Fg):TS :=
 (C1 (E4 (C2 (S1 K) [] E0 (A2 (A4 1) B0)) (B3 3))
 (wr9 K))
theorem xa2(h:qc4 K vs H Q E):qf4 K {nx:=fun _ H'=>Q .non H',rt:=Q} (J0 ["book","names","name","above","host","frame"] vs) H:=by
 obtain⟨v,rs,a,ns,n,rfl,hR,ha,q⟩:=h
 show qf4 K _ [some v,some (.ref a),some (.str n),none,none,none] H
 unfold qf4
 unfold qr9 at q
 lk
 refine⟨a,ns,rfl,.inr ha,?_⟩
 lk
 refine⟨v,some (L5 ns),rs,rfl,hR,?_⟩
 lk
 rw[wd9]
 have fin:((T9 rs (some (L5 ns))).isSome && decide (T9 rs (some (L5 ns))≠some n))=false->yn2 K {nx:=fun _ H'=>Q .non H',rt:=Q} [some v,some (.ref a),some (.str n),some (.str (L5 ns)),some (oV (T9 rs (some (L5 ns)))),none] H:=by
  intro hc
  rw[hc,if_neg Bool.false_ne_true] at q
  unfold yn2
  lk
  refine⟨v,some n,rs,rfl,hR,?_⟩
  lk
  rw[wd9]
  cases e:frameOf rs (some n) with
  | none =>
    rw[e] at q
    k_go
    k_go
    lk
    exact q
  | some f =>
    rw[e] at q
    x_go
    lk
    refine yb2 ?_
    lk
    by_cases ef:f=L5 ns
    ·rw[decide_eq_true ef]
     k_go
     lk
     have:((some f).isSome && decide (some f≠some (L5 ns)))=false:=by simp[ef]
     rw[this,if_neg Bool.false_ne_true] at q
     exact q
    ·rw[decide_eq_false ef]
     x_go
     lk
     have:((some f).isSome && decide (some f≠some (L5 ns)))=true:=by simp[ef]
     rw[this,if_pos rfl] at q
     exact q
 cases e:T9 rs (some (L5 ns)) with
 | none =>
   k_go
   k_go
   have:=fin (by rw[e];rfl)
   rw[e] at this
   exact this
 | some hh =>
   x_go
   lk
   refine yb2 ?_
   lk
   by_cases eh:hh=n
   ·rw[decide_eq_true eh]
    k_go
    have:=fin (by rw[e];simp[eh])
    rw[e] at this
    exact this
   ·rw[decide_eq_false eh]
    x_go
    lk
    have:((T9 rs (some (L5 ns))).isSome && decide (T9 rs (some (L5 ns))≠some n))=true:=by rw[e];simp[eh]
    rw[this,if_pos rfl] at q
    exact q
abbrev xa3(K:Fg):TS :=
 (G9 (tIf (tB (C2 (U9 K) [] E0 (A2 (A4 4) (A2 (tOp (I9 K) (A4 3) (tC (.int 4))) B0)))) (tC (.str "barred")) (tC .non)))
abbrev xa4(K:Fg):TS :=
 (C1 (M3 (tB (C2 (U9 K) [] E0 (A2 (A4 4) (A2 (tOp (I9 K) (A4 3) (tC (.int 3))) B0))))
 (G9 (tC (.str "shut"))) E8)
 (xa3 K))
abbrev xa5(K:Fg):TS :=
 (C1 (E4 (C2 (qr8 K) [] E0 (A2 (A4 0) (A2 (A4 1) B0))) (B3 4))
 (xa4 K))
def qf5(K:Fg):Sp:=fun vs H Q _=>∃ (v:V) (rs:List Row) (a:Addr) (ns:List Str) (n:Str) (r:Row),vs=[v,.ref a,.str n]/\Rws K H v rs/\SqT K H a (D4 ns)/\ns.length<=1000/\Z3 rs (some n)=some r/\∀ H',A6 H H'->Q (oV (wp5 rs ns n)) H'
def qi4(K:Fg):TS :=
 (C1 (E4 (C2 (qj7 K) [] E0 (A2 (A4 0) (A2 (A4 2) B0))) (B3 3))
 (xa5 K))
theorem xj4(h:qf5 K vs H Q E):qi4 K {nx:=fun _ H'=>Q .non H',rt:=Q} (J0 ["book","names","name","row","near"] vs) H:=by
 obtain⟨v,rs,a,ns,n,r,rfl,hR,ha,hl,er,q⟩:=h
 show qi4 K _ [some v,some (.ref a),some (.str n),none,none] H
 unfold qi4
 unfold wp5 at q
 rw[er] at q
 dsimp only at q
 lk
 refine⟨v,some n,rs,rfl,hR,(fun e=>by rw[er] at e;cases e),fun r' u er' du=>?_⟩
 rw[er] at er'
 injection er' with er'
 subst er'
 lk
 refine⟨v,a,ns,rs,rfl,hR,ha,hl,fun p H1 s1 hp=>?_⟩
 lk
 obtain⟨b,sv,bv,rfl,hb,hs,hbv⟩:=N3 du
 obtain⟨sb,rfl,hsb⟩:=wv1 hs
 obtain⟨bb,rfl,hbb⟩:=wv1 hbv
 have hnl:=wz7 rs ns.length ns rfl
 refine G7 (s1.sqT hb) (v:=.ref sb) rfl ?_
 lk
 refine⟨p,sb,qh0 rs ns,r.shuts,rfl,hp,s1.sqT hsb,by omega,fun H2 s2=>?_⟩
 lk
 have s12:=A6.tr s1 s2
 cases e1:(qh0 rs ns).any fun y=>decide (y∈r.shuts) with
 | true =>
   x_go
   lk
   have:=q H2 s12
   rw[e1,if_pos rfl] at this
   exact this
 | false =>
   k_go
   lk
   refine G7 (s12.sqT hb) (v:=.ref bb) rfl ?_
   lk
   refine⟨p,bb,qh0 rs ns,r.bars,rfl,s2.sqT hp,s12.sqT hbb,by omega,fun H3 s3=>?_⟩
   lk
   have:=q H3 (A6.tr s12 s3)
   rw[e1,if_neg Bool.false_ne_true] at this
   cases e2:(qh0 rs ns).any fun y=>decide (y∈r.bars) with
   | true=>rw[e2,if_pos rfl] at this;exact this
   | false=>rw[e2,if_neg Bool.false_ne_true] at this;exact this
theorem xr4(rs:List Row)(ns:List Str)(n:Str):qr9 rs ns n=none\/qr9 rs ns n=some "guest"\/qr9 rs ns n=some "lost":=by
 unfold qr9
 split
 ·exact .inr (.inl rfl)
 ·split
  ·exact .inr (.inr rfl)
  ·exact .inl rfl
abbrev xa7(K:Fg):TS :=
 (G9 (Ab1 K (C2 (qc4 K) [] E0 (A2 (A4 0) (A2 (A4 1) (A2 (C2 (U0 K) [] E0 (A2 (A4 2) B0)) B0)))) (C2 (qf5 K) [] E0 (A2 (A4 0) (A2 (A4 1) (A2 (C2 (U0 K) [] E0 (A2 (A4 2) B0)) B0))))))
def zh4(K:Fg):TS :=
 (C1 (M3 (D6 (tOp ww8 (tCB (P6 K) (A2 (A4 1) B0)) (tC (.int 19))))
 (G9 (tC (.str "deep"))) E8)
 (xa7 K))
abbrev xa8(K:Fg):TS :=
 (C1 (M3 (wa6 (D6 (tOp (Q7 K) (A4 3) (tC (.str "bare")))) (D6 (tOp ww8 (tCB (P6 K) (A2 (C2 (Q6 K) [] E0 (A2 (A4 2) B0)) B0)) (tC (.int 0)))))
 (G9 (tC (.str "full"))) E8)
 (zh4 K))
abbrev xa9(K:Fg):TS :=
 (C1 (M3 (D6 (tOp xt6 (A4 3) (tC .non)))
 (G9 (tC (.str "strange"))) E8)
 (xa8 K))
def qf6(K:Fg):Sp:=fun vs H Q _=>∃ (v:V) (rs:List Row) (a:Addr) (ns:List Str) (n:Str) (ps:List Tr) (x:V),vs=[v,.ref a,x]/\Rws K H v rs/\SqT K H a (D4 ns)/\ns.length<=1000/\Dv K H (Tr.nd n ps).da x/\∀ H',A6 H H'->Q (oV (wg7 rs ns n ps.length)) H'
def qi5(K:Fg):TS :=
 (C1 (E4 (C2 (qk5 K) [] E0 (A2 (A4 0) (A2 (C2 (U0 K) [] E0 (A2 (A4 2) B0)) B0))) (B3 3))
 (xa9 K))
theorem xj5(h:qf6 K vs H Q E):qi5 K {nx:=fun _ H'=>Q .non H',rt:=Q} (J0 ["book","names","tree","sort"] vs) H:=by
 obtain⟨v,rs,a,ns,n,ps,x,rfl,hR,ha,hl,dx,q⟩:=h
 show qi5 K _ [some v,some (.ref a),some x,none] H
 unfold qi5
 unfold wg7 at q
 lk
 refine⟨n,ps,x,rfl,dx,?_⟩
 lk
 refine⟨v,some n,rs,rfl,hR,?_⟩
 lk
 rw[wd9]
 cases e:qa7 rs (some n) with
 | none =>
   rw[e] at q
   x_go
   lk
   exact q H (fun _ _ e=>e)
 | some s =>
   rw[e] at q
   dsimp only at q
   k_go
   lk
   obtain⟨r,er⟩:∃ r,Z3 rs (some n)=some r:=by
    unfold qa7 at e
    obtain⟨r,er,_⟩:=Option.map_eq_some_iff.mp e
    exact⟨r,er⟩
   have fin:∀ H1,A6 H H1->¬(s=("bare":Str)/\0<ps.length)->zh4 K {nx:=fun _ H'=>Q .non H',rt:=Q} [some v,some (.ref a),some x,some (.str s)] H1:=by
    intro H1 s1 hb
    rw[if_neg hb] at q
    unfold zh4
    lk
    refine O1 (.inr (s1.sqT ha)) ?_
    rw[G8]
    lk
    by_cases hd:19<ns.length
    ·rw[decide_eq_true (by omega)]
     x_go
     lk
     rw[if_pos hd] at q
     exact q H1 s1
    ·rw[decide_eq_false (by omega)]
     k_go
     rw[if_neg hd] at q
     lk
     refine⟨n,ps,x,rfl,Dv.same s1 _ _ dx,?_⟩
     lk
     refine⟨v,rs,a,ns,n,rfl,hR.same s1,s1.sqT ha,?_⟩
     rcases xr4 rs ns n with ef|ef|ef
     ·rw[ef] at q ⊢
      refine⟨false,rfl,?_⟩
      k_go
      lk
      refine⟨n,ps,x,rfl,Dv.same s1 _ _ dx,?_⟩
      lk
      exact⟨v,rs,a,ns,n,r,rfl,hR.same s1,s1.sqT ha,hl,er,fun H2 s2=>q H2 (A6.tr s1 s2)⟩
     ·rw[ef] at q ⊢
      refine⟨true,⟨D5 (by decide),by decide⟩,?_⟩
      x_go
      exact q H1 s1
     ·rw[ef] at q ⊢
      refine⟨true,⟨D5 (by decide),by decide⟩,?_⟩
      x_go
      exact q H1 s1
   refine yq0 ?_
   lk
   by_cases hb:s=("bare":Str)
   ·rw[decide_eq_true hb]
    x_go
    lk
    refine⟨.nd n ps,x,rfl,dx,fun c us H1 s1 hc dc=>?_⟩
    lk
    refine O1 (.inr hc) ?_
    have hul:us.length=ps.length:=Q5 dc
    rw[hul]
    lk
    by_cases hz:0<ps.length
    ·rw[decide_eq_true (by omega)]
     x_go
     lk
     rw[if_pos ⟨hb,hz⟩] at q
     exact q H1 s1
    ·rw[decide_eq_false (by omega)]
     k_go
     exact fin H1 s1 fun h=>hz h.2
   ·rw[decide_eq_false hb]
    k_go
    k_go
    exact fin H (fun _ _ e=>e) fun h=>hb h.1
theorem qq0:∀ {q:List Int} {t:Tr} {ws:List Tr} {p u:Tr} {k:Nat},way t q=some (ws++[p])->p.kids[k]?=some u->way t (q++[(k:Int)])=some (ws++[p]++[u])
 | [],t,ws,p,u,k,h,e=>by
   rw[way] at h
   injection h with h
   have hw:ws=[]:=by
    cases ws with
    | nil=>rfl
    | cons a l=>have:=congrArg List.length h;simp at this
   subst hw
   injection h with h _
   subst h
   exact ym6 e (by rw[way];rfl)
 | j :: q,t,ws,p,u,k,h,e=>by
   obtain⟨h0,v,ws',h1,h2,h3⟩:=S2 h
   cases ws with
   | nil =>
     injection h3 with _ h3
     subst h3
     have:=V7 h2
     cases this
   | cons a l =>
     injection h3 with ha h3
     subst h3
     have:=qq0 h2 e
     rw[List.cons_append,way,if_pos h0,h1]
     show(way v (q++[(k:Int)])).map (t::·)=_
     rw[this,ha];rfl
theorem zh5{p:Tr}{k:Nat}(e:p.kids[k]?=some u):p.isTx=false:=by
 cases p with
 | tx s=>cases e
 | nd n ps=>rfl
theorem zh6:∀ {q:List Int} {t:Tr} {ws:List Tr} {p:Tr},way t q=some (ws++[p])->p.isTx=false->∀ w∈ws++[p],w.isTx=false
 | [],t,ws,p,h,hp=>by
   rw[way] at h
   injection h with h
   rw[<-h]
   have hl:=congrArg List.length h
   have hw:ws=[]:=by
    cases ws with
    | nil=>rfl
    | cons a l=>simp at hl
   subst hw
   injection h with h _
   intro w hw
   rw[List.mem_singleton.mp hw,h];exact hp
 | j :: q,t,ws,p,h,hp=>by
   obtain⟨h0,v,ws',h1,h2,h3⟩:=S2 h
   cases ws with
   | nil =>
     injection h3 with _ h3
     subst h3
     have:=V7 h2
     cases this
   | cons a l =>
     injection h3 with ha h3
     subst h3
     intro w hw
     rcases List.mem_cons.mp hw with rfl|hw
     ·rw[ha];exact zh5 h1
     ·exact zh6 h2 hp w hw
variable{q:List Int}
theorem zh7{t:Tr}(h:way t q=some ws):ws=t::ws.drop 1:=by
 have:=qx4 h
 cases ws with
 | nil=>simp at this
 | cons a l=>cases this;rfl
def bsd(p:Tr)(k:Nat):Bool:=decide (0<k) && ((p.kids[k-1]?).map Tr.isTx).getD false
theorem wg8(xs:List V)(z:V):qg7 (xs++[z]) none (some (-1))=xs:=by
 unfold qg7
 have e2:HT.sIx (xs++[z]).length (xs++[z]).length (some (-1))=xs.length:=by
  unfold HT.sIx;simp;omega
 show((xs++[z]).drop 0).take (HT.sIx (xs++[z]).length (xs++[z]).length (some (-1))-0)=xs
 rw[e2];simp
theorem S9(q:List Int)(k:Int):E9 (q++[k])=E9 q++[.int k]:=by simp[E9]
abbrev wm3(K:Fg):TS :=
 (G9 (xp3 (tOp ww8 (A4 2) (tC (.int 0))) (C2 (qb0 K) [] E0 (A2 (C2 (qk8 K) [] E0 (A2 (A4 0) (A2 (tOp (R1 K) (tSl (qr1 K) (A4 1) Q1 (Z1 (tUn (rU fun i=>.int (-i)) (tC (.int 1))))) (M6 (A2 (tOp (rI0 fun i j=>.int (i-j)) (A4 2) (tC (.int 1))) B0))) B0))) B0))))
def qa2(K:Fg):Sp:=fun vs H Q _=>∃ (t p u:Tr) (v:V) (a:Addr) (q:List Int) (k:Nat) (ws:List Tr),vs=[v,.ref a]/\Dv K H t.da v/\SqT K H a (E9 (q++[(k:Int)]))/\way t q=some (ws++[p])/\p.kids[k]?=some u/\q.length<=40000/\∀ H',A6 H H'->Q (.bl (bsd p k)) H'
def qc5(K:Fg):TS :=
 (C1 (E4 (tOp (I9 K) (A4 1) (tUn (rU fun i=>.int (-i)) (tC (.int 1)))) (B3 2))
 (wm3 K))
theorem ws1(h:qa2 K vs H Q E):qc5 K {nx:=fun _ H'=>Q .non H',rt:=Q} (J0 ["tree","place","number"] vs) H:=by
 obtain⟨t,p,u,v,a,q,k,ws,rfl,hd,ha,hw,hk,hl,qq⟩:=h
 show qc5 K _ [some v,some (.ref a),none] H
 unfold qc5
 rw[S9] at ha
 lk
 refine⟨1,rfl,?_⟩
 refine G7 ha (v:=.int k) (U5 (n:=(E9 q).length) (by simp) (by simp)) ?_
 lk
 by_cases h0:0<k
 ·rw[decide_eq_true (by omega)]
  x_go
  lk
  refine⟨1,rfl,?_⟩
  lk
  refine qk3 ha fun p1 H1 s1 hp1=>?_
  rw[wg8] at hp1
  lk
  refine⟨D5 (by z_go),fun c hc=>?_⟩
  refine qe1 ((A6.new hc _:A6 H1 _).sqT hp1) (SqT.of A7) (by rw[M5];exact D5 (by simp;omega)) fun p2 H2 s2 hp2=>?_
  lk
  have s3:A6 H H2:=A6.tr s1 (A6.tr (A6.new hc _) s2)
  obtain⟨j,rfl⟩:∃ j,k=j+1:=⟨k-1,by omega⟩
  have hj:j<p.kids.length:=by have:=(List.getElem?_eq_some_iff.mp hk).1;omega
  have hkj:=List.getElem?_eq_getElem hj
  refine⟨t,p.kids[j],v,p2,q++[(j:Int)],ws++[p],rfl,Dv.same s3 _ _ hd,?_,qq0 hw hkj,by simp;omega,fun x H3 s4 dx=>?_⟩
  ·rw[S9]
   have e:((j+1:Nat):Int)-1=(j:Int):=by omega
   rw[e] at hp2
   exact hp2
  lk
  refine⟨_,x,rfl,dx,?_⟩
  have:=qq H3 (A6.tr s3 s4)
  unfold bsd at this
  rw[decide_eq_true h0,Nat.add_sub_cancel,hkj] at this
  exact this
 ·rw[decide_eq_false (by omega)]
  k_go
  have:=qq H (fun _ _ e=>e)
  unfold bsd at this
  rw[decide_eq_false h0] at this
  exact this
abbrev xv7(K:Fg):TS :=
 (G9 (C2 (qf3 K) [] E0 (A2 (A4 0) (A2 (A4 4) (A2 (A4 3) (A2 (C2 (qa2 K) [] E0 (A2 (A4 1) (A2 (A4 2) B0))) B0))))))
abbrev xv8(K:Fg):TS :=
 (C1 (M3 (tB (C2 (qb0 K) [] E0 (A2 (A4 3) B0)))
 (xv7 K) E8)
 (G9 (C2 (qf6 K) [] E0 (A2 (A4 0) (A2 (A4 4) (A2 (A4 3) B0))))))
abbrev xv9(K:Fg):TS :=
 (C1 (E4 (C2 (qc2 K) [] E0 (A2 (A4 1) (A2 (A4 2) B0))) (B3 4))
 (xv8 K))
def qm6(K:Fg):Sp:=fun vs H Q _=>∃ (t p u:Tr) (bv v:V) (rs:List Row) (a:Addr) (q:List Int) (k:Nat) (ws:List Tr),vs=[bv,v,.ref a]/\Rws K H bv rs/\Dv K H t.da v/\SqT K H a (E9 (q++[(k:Int)]))/\way t q=some (ws++[p])/\p.kids[k]?=some u/\q.length<=900/\∀ H',A6 H H'->Q (oV (qc3 rs (((ws++[p]).drop 1).map ql6) u (bsd p k))) H'
def qs0(K:Fg):TS :=
 (C1 (E4 (C2 (qk8 K) [] E0 (A2 (A4 1) (A2 (A4 2) B0))) (B3 3))
 (xv9 K))
theorem ye2(h:qm6 K vs H Q E):qs0 K {nx:=fun _ H'=>Q .non H',rt:=Q} (J0 ["book","tree","place","part","names"] vs) H:=by
 obtain⟨t,p,u,bv,v,rs,a,q,k,ws,rfl,hR,hd,ha,hw,hk,hl,qq⟩:=h
 show qs0 K _ [some bv,some v,some (.ref a),none,none] H
 unfold qs0
 have hw2:=qq0 hw hk
 have hwl:=V7 hw
 lk
 refine⟨t,u,v,a,_,ws++[p],rfl,hd,ha,hw2,by simp;omega,fun x H1 s1 dx=>?_⟩
 lk
 have hh:=zh7 hw
 have hnd:=zh6 hw (zh5 hk)
 refine⟨t,u,v,a,q++[(k:Int)],(ws++[p]).drop 1,rfl,Dv.same s1 _ _ hd,s1.sqT ha,?_,fun w hw'=>hnd w (List.mem_of_mem_drop hw'),by simp;omega,fun c H2 s2 hc=>?_⟩
 ·rw[hw2]
  conv=>lhs;rw[hh]
  rfl
 lk
 have s12:=A6.tr s1 s2
 have hnl:(((ws++[p]).drop 1).map ql6).length<=1000:=by rw[List.length_map,List.length_drop];omega
 refine⟨u,x,rfl,Dv.same s2 _ _ dx,?_⟩
 lk
 cases u with
 | tx s =>
   x_go
   lk
   rw[yr6 dx]
   refine⟨t,p,.tx s,v,a,q,k,ws,rfl,Dv.same s12 _ _ hd,s12.sqT ha,hw,hk,by omega,fun H3 s3=>?_⟩
   lk
   exact⟨bv,rs,c,_,s,_,rfl,hR.same (A6.tr s12 s3),SqT.of (s3 _ _ hc),qq H3 (A6.tr s12 s3)⟩
 | nd n ps =>
   k_go
   lk
   exact⟨bv,rs,c,_,n,ps,x,rfl,hR.same s12,SqT.of hc,hnl,Dv.same s2 _ _ dx,fun H3 s3=>qq H3 (A6.tr s12 s3)⟩
mutual
def ffk(rs:List Row)(pl:List Int)(ns:List Str):Tr->List (List Int×Option Str)
 | .tx _=>[]
 | .nd _ ps=>ffs rs pl ns 0 false ps
def ffs(rs:List Row)(pl:List Int)(ns:List Str)(k:Nat)(bs:Bool):List Tr->List (List Int×Option Str)
 | []=>[]
 | u::us=>(pl++[(k:Int)],qc3 rs ns u bs)::(ffk rs (pl++[(k:Int)]) (ns++[ql6 u]) u++ffs rs pl ns (k+1) u.isTx us)
end
mutual
theorem xw1(rs:List Row)(pl:List Int)(ns:List Str):∀ t:Tr,(pre pl t).map (·.1)=pl::(ffk rs pl ns t).map (·.1)
 | .tx s=>by rw[pre,ffk];rfl
 | .nd n ps=>by rw[pre,ffk,List.map_cons,yr7 rs pl ns 0 false ps]
theorem yr7(rs:List Row)(pl:List Int)(ns:List Str)(k:Nat)(bs:Bool):∀ ts:List Tr,(qp8 pl k ts).map (·.1)=(ffs rs pl ns k bs ts).map (·.1)
 | []=>by rw[qp8,ffs];rfl
 | u::us=>by
   rw[qp8,ffs,List.map_append,xw1 rs _ (ns++[ql6 u]) u,yr7 rs pl ns (k+1) u.isTx us,List.map_cons,List.map_append];rfl
end
def Ad1(rs:List Row)(t:Tr)(x:List Int×Option Str):Prop:=∃ (q:List Int) (k:Nat) (ws:List Tr) (p u:Tr),x.1=q++[(k:Int)]/\way t q=some (ws++[p])/\p.kids[k]?=some u/\x.2=qc3 rs (((ws++[p]).drop 1).map ql6) u (bsd p k)
mutual
theorem ye3(rs:List Row)(t:Tr)(q:List Int)(ns:List Str)(ws:List Tr):∀ p:Tr,way t q=some (ws++[p])->ns=((ws++[p]).drop 1).map ql6->∀ x∈ffk rs q ns p,Ad1 rs t x
 | .tx s,_,_,x,hx=>by rw[ffk] at hx;cases hx
 | .nd n ps,hw,hn,x,hx=>by
   rw[ffk] at hx
   exact ye4 rs t q ns ws (.nd n ps) hw hn [] ps rfl rfl 0 false rfl rfl x hx
theorem ye4(rs:List Row)(t:Tr)(q:List Int)(ns:List Str)(ws:List Tr)(p:Tr)(hw:way t q=some (ws++[p]))(hn:ns=((ws++[p]).drop 1).map ql6) :
 ∀ (done ts:List Tr),p.kids=done++ts->True=True->∀ (k:Nat) (bs:Bool),k=done.length->bs=(match done.getLast? with|some w=>w.isTx|none=>false)->∀ x∈ffs rs q ns k bs ts,Ad1 rs t x
 | done,[],_,_,k,bs,_,_,x,hx=>by rw[ffs] at hx;cases hx
 | done,u::us,hk,_,k,bs,hl,hb,x,hx=>by
   have ek:p.kids[k]?=some u:=by rw[hk,hl];simp
   rw[ffs,List.mem_cons,List.mem_append] at hx
   rcases hx with rfl|hx|hx
   ·refine⟨q,k,ws,p,u,rfl,hw,ek,?_⟩
    show qc3 rs ns u bs=_
    rw[hn]
    congr 1
    unfold bsd
    rw[hb]
    cases k with
    | zero =>
      have:done=[]:=List.length_eq_zero_iff.mp hl.symm
      subst this;rfl
    | succ j =>
      have hj:j<done.length:=by omega
      rw[decide_eq_true (by omega),Nat.add_sub_cancel,hk,List.getElem?_append_left hj,List.getLast?_eq_getElem?,<-hl,Nat.add_sub_cancel,List.getElem?_eq_getElem hj]
      rfl
   ·have hw2:=qq0 hw ek
    refine ye3 rs t _ _ (ws++[p]) u hw2 ?_ x hx
    rw[hn,show((ws++[p])++[u]).drop 1=(ws++[p]).drop 1++[u] from List.drop_append_of_le_length (by simp),List.map_append];rfl
   ·exact ye4 rs t q ns ws p hw hn (done++[u]) us (by rw[hk];simp) rfl (k+1) u.isTx (by simp[hl]) (by simp) x hx
end
theorem ye5(rs:List Row)(t:Tr):∀ x∈ffk rs [] [] t,Ad1 rs t x:=ye3 rs t [] [] [] t (by rw[way];rfl) rfl
def V1(l:List (List Int×Option Str)):Option (Str×List Int):=l.findSome? fun x=>x.2.map fun r=>(r,x.1)
def Ak3(K:Fg)(H:Hp)(o:Option (Str×List Int))(v:V):Prop:=match o with
 | none=>v=.non
 | some (r,pl)=>Dv K H (.tuple [.str r,.tuple (qa8 pl)]) v
variable{l:List (List Int×Option Str)}{r:Str}
theorem wp6{x:List Int×Option Str}(h:∀ y∈l.take i,y.2=none)(e:l[i]?=some x)(ex:x.2=some r):V1 l=some (r,x.1):=by
 induction l generalizing i with
 | nil=>simp at e
 | cons a l ih =>
   unfold V1
   rw[List.findSome?_cons]
   cases i with
   | zero =>
     have e:a=x:=by simpa using e
     subst e
     rw[ex];rfl
   | succ i =>
     rw[h a (by simp)]
     exact ih (i:=i) (fun y hy=>h y (by simp[hy])) (by simpa using e)
theorem xb1(h:∀ y∈l,y.2=none):V1 l=none:=by
 unfold V1
 rw[List.findSome?_eq_none_iff]
 intro x hx
 rw[h x hx];rfl
theorem wg9(ns:List Int):PyData.eqv (.tuple (qa8 ns)) (.tuple [])=ns.isEmpty:=by cases ns <;> rfl
abbrev xw2(K:Fg):TS :=
 (M3 (D6 (tOp qm0 (A4 3) (tC .non)))
 (G9 (M6 (A2 (A4 3) (A2 (A4 2) B0)))) E8)
abbrev xw3(K:Fg):TS :=
 (C1 (E4 (tIf (D6 (tOp (Q7 K) (A4 2) (M6 B0))) (tC .non) (C2 (qm6 K) [] E0 (A2 (A4 0) (A2 (A4 1) (A2 (A4 2) B0))))) (B3 3))
 (xw2 K))
def qm7(K:Fg):Sp:=fun vs H Q _=>∃ (t:Tr) (bv v:V) (rs:List Row),vs=[bv,v]/\Rws K H bv rs/\Dv K H t.da v/\wt t<=40000/\(∀ p∈pre [] t,p.1.length<=800)/\∀ (x:V) (H':Hp),A6 H H'->Ak3 K H' (V1 (ffk rs [] [] t)) x->Q x H'
def qs1(K:Fg):TS :=
 (C1 (qh9 (qi1 K (C2 (qi2 K) [] E0 (A2 (A4 1) B0))) (B3 2)
 (xw3 K))
 (G9 (tC .non)))
theorem ye6(h:qm7 K vs H Q E):qs1 K {nx:=fun _ H'=>Q .non H',rt:=Q} (J0 ["book","tree","place","rule"] vs) H:=by
 obtain⟨t,bv,v,rs,rfl,hR,hd,hz,hpl,q⟩:=h
 show qs1 K _ [some bv,some v,none,none] H
 unfold qs1
 lk
 refine⟨t,v,rfl,hd,hz,fun p us H1 s1 hp dv=>?_⟩
 have dv:Dvs K H1 (((pre [] t).map (·.1)).map fun pl=>.tuple (qa8 pl)) us:=by rw[List.map_map];exact dv
 have hpl:∀ pl∈(pre [] t).map (·.1),pl.length<=800:=fun pl h=>by obtain⟨x,hx,rfl⟩:=List.mem_map.mp h;exact hpl x hx
 rw[xw1 rs [] []] at dv hpl
 have hul:us.length=(ffk rs [] [] t).length+1:=by have:=dv.length;simpa using this
 refine qp6 (H0:=H1) (xs:=us) (.inl (SqL.of hp)) (fun _ _ e=>e) (fun i σ H'=>∃ (a2 a3:Option V),σ=[some bv,some v,a2,a3]/\A6 H1 H'/\∀ y∈(ffk rs [] [] t).take (i-1),y.2=none) ⟨_,_,rfl,fun _ _ e=>e,by simp⟩ (fun i σ H' ⟨_,_,_,s,_⟩=>s) ?_ ?_
 ·rintro i x σ H' hx ⟨a2,a3,rfl,s2,hnone⟩
  obtain⟨d,h1,h2⟩:=dv.get' hx
  rw[List.getElem?_map] at h1
  obtain⟨pl,hpl1,rfl⟩:=Option.map_eq_some_iff.mp h1
  obtain⟨a,ks,rfl,ha,hks⟩:=C3.mp (Dv.same s2 _ _ h2)
  rw[N7] at hks
  subst hks
  lk
  refine⟨D5 (by z_go),fun e he=>?_⟩
  have s3:A6 H1 (upd H' e (.tup [])):=A6.tr s2 (A6.new he _)
  have ha3:SqT K (upd H' e (.tup [])) a (E9 pl):=(A6.new he _:A6 H' _).sqT ha
  refine wx3 (d:=.tuple (qa8 pl)) (e:=.tuple []) (C3.mpr ⟨a,_,rfl,ha3,N7.mpr rfl⟩) (C3.mpr ⟨e,[],rfl,SqT.of A7,E6⟩) ?_ ?_
  ·exact Nat.le_trans (Nat.min_le_right _ _) (by decide)
  rw[wg9]
  lk
  cases i with
  | zero =>
    have:pl=[]:=by simpa using hpl1.symm
    subst this
    x_go
    lk
    rw[decide_eq_true rfl]
    k_go
    exact⟨_,_,rfl,s3,hnone⟩
  | succ i =>
    rw[List.getElem?_cons_succ,List.getElem?_map] at hpl1
    obtain⟨y,hy,rfl⟩:=Option.map_eq_some_iff.mp hpl1
    obtain⟨qq,k,ws,pp,u,e1,e2,e3,e4⟩:=ye5 rs t y (List.mem_of_getElem? hy)
    have hle:=hpl y.1 (by simp;exact .inr ⟨_,List.mem_of_getElem? hy⟩)
    rw[e1] at ha3 hle ⊢
    rw[List.length_append] at hle
    have hemp:(qq++[(k:Int)]).isEmpty=false:=by cases qq <;> rfl
    rw[hemp]
    k_go
    lk
    have s13:=A6.tr s1 s3
    refine⟨t,pp,u,bv,v,rs,a,qq,k,ws,rfl,hR.same s13,Dv.same s13 _ _ hd,ha3,e2,e3,by omega,fun H4 s4=>?_⟩
    lk
    rw[<-e4,wd9]
    cases ef:y.2 with
    | none =>
      k_go
      refine⟨_,_,rfl,A6.tr s3 s4,?_⟩
      intro z hz
      rw[Nat.add_sub_cancel,List.take_add_one,hy] at hz
      rcases List.mem_append.mp hz with h|h
      ·exact hnone z (by rw[Nat.add_sub_cancel];exact h)
      ·have:z=y:=by simpa using h
       rw[this];exact ef
    | some r =>
      x_go
      lk
      refine⟨D5 (by z_go),fun c hc=>?_⟩
      rw[Nat.add_sub_cancel] at hnone
      refine q _ _ (A6.tr (A6.tr s13 s4) (A6.new hc _)) ?_
      rw[wp6 hnone hy ef]
      show Dv K _ (.tuple [.str r,.tuple (qa8 y.1)]) (.ref c)
      refine C3.mpr ⟨c,_,rfl,SqT.of A7,E1 (N6.mpr rfl) (E1 (C3.mpr ⟨a,_,rfl,(A6.tr s4 (A6.new hc _)).sqT ha3,?_⟩) E6)⟩
      rw[e1];exact N7.mpr rfl
 ·rintro σ H' ⟨a2,a3,rfl,s2,hnone⟩
  lk
  rw[hul,Nat.add_sub_cancel,List.take_length] at hnone
  refine q _ _ (A6.tr s1 s2) ?_
  rw[xb1 hnone]
  rfl
def zr1:Row:=⟨"","","",[],[]⟩
def V2(rs:List Row)(n:Str):Row:=(Z3 rs (some n)).getD zr1
structure BkS(rs:List Row):Prop where
 ne:∀ r∈rs,r.name≠("":Str)
 so:∀ r∈rs,r.sort≠("":Str)
 nf:∀ r∈rs,r.sort≠("frame":Str)->r.host=("":Str)
 un:∀ n:Str,n≠("":Str)->(rs.filter fun r=>decide (r.host=n)).length<=1
theorem Ad2(rs:List Row)(n:Str):xv5 rs n=decide ((V2 rs n).sort∈[("room":Str),("frame":Str)]):=by
 unfold xv5 V2
 cases Z3 rs (some n) with
 | none=>rfl
 | some r=>rfl
theorem zh8(rs:List Row)(n:Str):T9 rs (some n)=if(V2 rs n).sort=("frame":Str) then some (V2 rs n).host else none:=by
 unfold T9 V2
 cases Z3 rs (some n) with
 | none=>rfl
 | some r=>rfl
theorem Ad3(B:BkS rs)(n:Str):qa7 rs (some n)=if(V2 rs n).sort=("":Str) then none else some (V2 rs n).sort:=by
 unfold qa7 V2
 cases e:Z3 rs (some n) with
 | none=>rfl
 | some r =>
   have:=B.so r (yd4 e).1
   show some r.sort=if r.sort=("":Str) then none else some r.sort
   rw[if_neg this]
theorem xr5{p:Row->Bool}:∀ l:List Row,l.find? p=(l.filter p).head?
 | []=>rfl
 | r::l=>by
   rw[List.find?_cons,List.filter_cons]
   cases e:p r with
   | true=>rfl
   | false=>exact xr5 l
theorem zr2(B:BkS rs){n:Str}(hn:n≠("":Str)):frameOf rs (some n)=((rs.filter fun r=>decide (r.host=n)).map (·.name)).head?:=by
 unfold frameOf
 have e:(rs.filter fun r=>decide (r.sort=("frame":Str)) && decide (some r.host=some n))=rs.filter fun r=>decide (r.host=n):=by
  apply List.filter_congr
  intro r hr
  by_cases h:r.host=n
  ·have hs:r.sort=("frame":Str):=by
    by_cases hs:r.sort=("frame":Str)
    ·exact hs
    ·exact absurd (h.symm.trans (B.nf r hr hs)) hn
   simp[h,hs]
  ·simp[h]
 rw[xr5,e,List.head?_map]
theorem xb2(h:SqT K H p [.str "",.str "",.str "",.ref a,.ref b])(ha:SqT K H a [])(hb:SqT K H b []):Dv K H zr1.da (.ref p):=by
 unfold Row.da zr1
 exact C3.mpr ⟨p,_,rfl,h,E1 (N6.mpr rfl) (E1 (N6.mpr rfl) (E1 (N6.mpr rfl) (E1 (C3.mpr ⟨a,[],rfl,ha,E6⟩) (E1 (C3.mpr ⟨b,[],rfl,hb,E6⟩) E6))))⟩
abbrev xw5(K:Fg):TS :=
 (G9 (M6 (A2 (tC (.str "")) (A2 (tC (.str "")) (A2 (tC (.str "")) (A2 (M6 B0) (A2 (M6 B0) B0)))))))
def S3(K:Fg):Sp:=fun vs H Q _=>∃ v n rs,vs=[v,.str n]/\Rws K H v rs/\∀ u H',A6 H H'->Dv K H' (V2 rs n).da u->Q u H'
def qs2(K:Fg):TS :=
 (C1 (qh9 (qi1 K (A4 0)) (B3 2)
 (M3 (D6 (tOp (Q7 K) (tOp (I9 K) (A4 2) (tC (.int 0))) (A4 1)))
 (G9 (A4 2)) E8))
 (xw5 K))
theorem ye7(h:S3 K vs H Q E):qs2 K {nx:=fun _ H'=>Q .non H',rt:=Q} (J0 ["_law_book_here","_law_name_here","_law_row_here"] vs) H:=by
 obtain⟨v,n,rs,rfl,⟨a,xs,rfl,hq,hd⟩,q⟩:=h
 show qs2 K _ [some (.ref a),some (.str n),none] H
 have hlen:xs.length=rs.length:=by have:=hd.length;simpa using this
 unfold qs2
 lk
 refine qp6 (H0:=H) hq (fun _ _ e=>e) (fun i σ H'=>H'=H/\(∃ w,σ=[some (.ref a),some (.str n),w])/\∀ r∈rs.take i,decide (some r.name=some n)=false) ⟨rfl,⟨_,rfl⟩,by simp⟩ (fun i σ H' p=>p.1▸fun _ _ e=>e) ?_ ?_
 ·rintro i x σ H' hx ⟨rfl,⟨w,rfl⟩,hn⟩
  obtain⟨d,hd1,hd2⟩:=hd.get' hx
  rw[List.getElem?_map] at hd1
  obtain⟨r,hr,rfl⟩:=Option.map_eq_some_iff.mp hd1
  obtain⟨b,sv,bv,rfl,hb,hsv,hbv⟩:=N3 hd2
  lk
  refine G7 hb (v:=.str r.name) (D8 (j:=0) rfl) ?_
  lk
  by_cases e:r.name=n
  ·rw[decide_eq_true e];refine V9 ?_
   lk
   have hf:Z3 rs (some n)=some r:=qb5 hr hn (by simp[e])
   refine q _ _ (fun _ _ e=>e) ?_
   unfold V2
   rw[hf];exact hd2
  ·rw[decide_eq_false e];refine S7 ?_
   lk
   exact⟨rfl,⟨_,rfl⟩,qw9 hr hn (by simp[e])⟩
 ·rintro σ H' ⟨rfl,⟨w,rfl⟩,hn⟩
  lk
  refine⟨D5 (by z_go),fun p1 hp1=>?_⟩
  lk
  refine⟨D5 (by z_go),fun p2 hp2=>?_⟩
  lk
  refine⟨D5 (by z_go),fun p3 hp3=>?_⟩
  have s1:=A6.new hp1 (.tup [])
  have s2:=A6.new hp2 (.tup [])
  have s3:=A6.new hp3 (.tup [.str "",.str "",.str "",.ref p1,.ref p2])
  refine q _ _ (A6.tr s1 (A6.tr s2 s3)) ?_
  have hf:Z3 rs (some n)=none:=by
   unfold Z3
   rw[List.find?_eq_none]
   intro r hr
   rw[hlen,List.take_length] at hn
   simpa using hn r hr
  unfold V2
  rw[hf]
  exact xb2 (SqT.of A7) (SqT.of (s3 _ _ (s2 _ _ A7))) (SqT.of (s3 _ _ A7))
abbrev xj6(K:Fg):TS :=
 (E4 (tCB (xt7 K) (A2 (tSl (qr1 K) (A4 1) (Z1 (tOp (R1 K) (A4 3) (tC (.int 1)))) Q1) B0)) (B3 2))
abbrev xj7(K:Fg):TS :=
 (M3 (D6 (tOp (wd5 K false) (tOp (I9 K) (C2 (S3 K) [] E0 (A2 (A4 0) (A2 (tOp (I9 K) (A4 1) (A4 3)) B0))) (tC (.int 1))) (M6 (A2 (tC (.str "room")) (A2 (tC (.str "frame")) B0)))))
 (xj6 K) E8)
abbrev xj8(K:Fg):TS :=
 (C1 (qh9 (qh7 (A2 (tCB (P6 K) (A2 (A4 1) B0)) B0)) (B3 3)
 (xj7 K))
 (G9 (A4 2)))
def qi6(K:Fg):Sp:=fun vs H Q _=>∃ v a ys rs,vs=[v,.ref a]/\Rws K H v rs/\SqT K H a (D4 ys)/\ys.length<=1000/\∀ p H',A6 H H'->H' p=some (.lst (D4 (qh0 rs ys)))->Q (.ref p) H'
def qm8(K:Fg):TS :=
 (C1 (E4 (tCB (xt7 K) (A2 (A4 1) B0)) (B3 2))
 (xj8 K))
theorem xw7(h:qi6 K vs H Q E):qm8 K {nx:=fun _ H'=>Q .non H',rt:=Q} (J0 ["_law_book_here","_law_names","_law_near_here","_law_k"] vs) H:=by
 obtain⟨v,a,ys,rs,rfl,hR,hq,hl,q⟩:=h
 show qm8 K _ [some v,some (.ref a),none,none] H
 unfold qm8
 lk
 refine⟨a,_,rfl,.inr hq,fun nr hnr=>?_⟩
 have s0:A6 H (upd H nr (.lst (D4 ys))):=A6.new hnr _
 have n0:(upd H nr (.lst (D4 ys))) nr=some (.lst (D4 ys)):=A7
 generalize upd H nr (.lst (D4 ys))=H1 at *
 lk
 refine O1 (.inr (s0.sqT hq)) ?_
 rw[G8]
 lk
 refine qg8 (by omega) (by omega) (fun i σ H'=>A6 H H'/\∃ (st:Nat) (nr:Addr) (a3:Option V),σ=[some v,some (.ref a),some (.ref nr),a3]/\st<=i/\H' nr=some (.lst (D4 (ys.drop st)))/\qh0 rs (ys.take i)=(ys.take i).drop st) ⟨s0,0,nr,none,rfl,Nat.le_refl _,n0,rfl⟩ ?_ ?_
 ·rintro i σ H' hi ⟨s1,st,nr,a3,rfl,hst,hnr,hne⟩
  have hi:i<ys.length:=by omega
  have hy:ys[i]?=some ys[i]:=List.getElem?_eq_getElem hi
  have etk:ys.take (i+1)=ys.take i++[ys[i]]:=by rw[List.take_add_one,hy];rfl
  lk
  refine G7 (s1.sqT hq) (D8 (X8 hi)) ?_
  lk
  refine⟨v,ys[i],rs,rfl,hR.same s1,fun u H2 s2 du=>?_⟩
  lk
  obtain⟨b,sv,bv,rfl,hb,_,_⟩:=N3 du
  refine G7 hb (v:=.str (V2 rs ys[i]).sort) (D8 (j:=1) rfl) ?_
  lk
  refine⟨D5 (by z_go),fun t ht=>?_⟩
  have s3:A6 H (upd H2 t (.tup [.str "room",.str "frame"])):=A6.tr s1 (A6.tr s2 (A6.new ht _))
  have hnr3:=A6.new ht (.tup [.str "room",.str "frame"]) _ _ (s2 _ _ hnr)
  refine .inl (yj4 (xs:=D4 [("room":Str),("frame":Str)]) (.inr (SqT.of A7)) rfl (qe3 _) ?_)
  rw[qk7,<-Ad2]
  generalize upd H2 t (.tup [.str "room",.str "frame"])=H3 at *
  lk
  cases hw:xv5 rs ys[i] with
  | true =>
    x_go
    lk
    refine .inl (qq9 ?_)
    lk
    refine qk3 (s3.sqT hq) fun p H4 s4 hp=>?_
    have e:qg7 (D4 ys) (some ((i:Int)+1)) none=D4 (ys.drop (i+1)):=by
     unfold qg7
     rw[show((i:Int)+1)=((i+1:Nat):Int) by omega,HT.xs7]
     show((D4 ys).drop (min (i+1) (D4 ys).length)).take ((D4 ys).length-min (i+1) (D4 ys).length)=_
     rw[G8,Nat.min_eq_left (by omega),List.take_of_length_le (by rw[List.length_drop,G8];exact Nat.le_refl _)]
     unfold D4
     rw[List.map_drop]
    rw[e] at hp
    lk
    refine⟨p,_,rfl,.inr hp,fun r hr=>?_⟩
    lk
    refine⟨A6.tr s3 (A6.tr s4 (A6.new hr _)),i+1,r,_,rfl,Nat.le_refl _,A7,?_⟩
    rw[etk,qp9,if_pos hw,List.drop_eq_nil_of_le (by rw[List.length_append,List.length_take,List.length_singleton];omega)]
  | false =>
    k_go
    lk
    refine⟨s3,st,nr,_,rfl,by omega,hnr3,?_⟩
    rw[etk,qp9,if_neg (by rw[hw];exact Bool.false_ne_true),hne,List.drop_append_of_le_length (by rw[List.length_take];omega)]
 ·rintro σ H' ⟨s1,st,nr,a3,rfl,hst,hnr,hne⟩
  lk
  refine q nr H' s1 ?_
  rw[show((ys.length:Int)).toNat=ys.length by omega,List.take_length] at hne
  rw[hne];exact hnr
abbrev xb3(K:Fg):TS :=
 (C1 (M3 (D6 (tOp (W5 K) (Y4 [some 10,none] (qi1 K (A4 12)) (B3 1) (D6 (tOp (wd5 K false) (A4 1) (A4 0))) (A4 1)) (Y8 B0)))
 (G9 (tC (.str "barred"))) E8)
 (G9 (tC .non)))
abbrev xb4(K:Fg):TS :=
 (C1 (M3 (D6 (tOp (W5 K) (Y4 [some 9,none] (qi1 K (A4 12)) (B3 1) (D6 (tOp (wd5 K false) (A4 1) (A4 0))) (A4 1)) (Y8 B0)))
 (G9 (tC (.str "shut"))) E8)
 (xb3 K))
def Ad4(K:Fg):TS :=
 (C1 (E4 (C2 (qi6 K) [] E0 (A2 (A4 0) (A2 (A4 1) B0))) (B3 12))
 (xb4 K))
abbrev xb5(K:Fg):TS :=
 (C1 (M3 (wa6 (D6 (tOp (W5 K) (A4 11) (Y8 B0))) (D6 (tOp (W5 K) (A4 11) (Y8 (A2 (A4 4) B0)))))
 (G9 (tC (.str "lost"))) E8)
 (Ad4 K))
def zr3(K:Fg):TS :=
 (C1 (E4 (Y4 [some 6,none] (qi1 K (A4 0)) (B3 1) (D6 (tOp (Q7 K) (tOp (I9 K) (A4 1) (tC (.int 2))) (A4 0))) (tOp (I9 K) (A4 1) (tC (.int 0)))) (B3 11))
 (xb5 K))
abbrev xb6(K:Fg):TS :=
 (C1 (M3 (wa6 (D6 (tOp (Q7 K) (tOp (I9 K) (A4 5) (tC (.int 1))) (tC (.str "frame")))) (D6 (tOp (W5 K) (tOp (I9 K) (A4 5) (tC (.int 2))) (A4 6))))
 (G9 (tC (.str "guest"))) E8)
 (zr3 K))
def Ad5(K:Fg):TS :=
 (C1 (M3 (D6 (tOp zm8 (tCB (P6 K) (A2 (A4 1) B0)) (tC (.int 20))))
 (G9 (tC (.str "deep"))) E8)
 (xb6 K))
abbrev ws3(K:Fg):TS :=
 (C1 (M3 (wa6 (D6 (tOp (Q7 K) (A4 7) (tC (.str "bare")))) (D6 (tOp ww8 (tCB (P6 K) (A2 (tOp (I9 K) (A4 2) (tC (.int 1))) B0)) (tC (.int 0)))))
 (G9 (tC (.str "full"))) E8)
 (Ad5 K))
abbrev ws4(K:Fg):TS :=
 (C1 (M3 (D6 (tOp (Q7 K) (A4 7) (tC (.str ""))))
 (G9 (tC (.str "strange"))) E8)
 (ws3 K))
def Ad6(K:Fg):TS :=
 (C1 (E4 (C2 (S3 K) [] E0 (A2 (A4 0) (A2 (tOp (I9 K) (A4 2) (tC (.int 0))) B0))) (wj6 K 5 (R7 (B3 6) (R7 (B3 7) (R7 (B3 8) (R7 (B3 9) (R7 (B3 10) wj5)))))))
 (ws4 K))
abbrev xb7(K:Fg):TS :=
 (C1 (M3 (tB (tCB (wa9 K) (A2 (A4 3) (A2 (tC (.ty "str")) B0))))
 (G9 (tC (.str "beside"))) E8)
 (G9 (tC .non)))
abbrev xb8(K:Fg):TS :=
 (C1 (M3 (D6 (tOp (Q7 K) (A4 2) (tC (.str ""))))
 (G9 (tC (.str "empty"))) E8)
 (xb7 K))
abbrev xb9(K:Fg):TS :=
 (C1 (M3 (D6 (tOp (Q7 K) (tOp (I9 K) (A4 5) (tC (.int 1))) (tC (.str "frame"))))
 (G9 (tC (.str "guest"))) E8)
 (xb8 K))
abbrev ws5(K:Fg):TS :=
 (C1 (M3 (tB (tCB (wa9 K) (A2 (A4 2) (A2 (tC (.ty "str")) B0))))
 (xb9 K) E8)
 (Ad6 K))
def Ad7(K:Fg):TS :=
 (C1 (E4 (C2 (S3 K) [] E0 (A2 (A4 0) (A2 (A4 4) B0))) (B3 5))
 (ws5 K))
theorem yr8(xs:List Str):(sDa xs).isEmpty=xs.isEmpty:=by cases xs <;> rfl
theorem ye8(p:Str->Bool):∀ xs:List Str,(!(xs.filter p).isEmpty)=xs.any p
 | []=>rfl
 | x::xs=>by
   rw[List.filter_cons,List.any_cons]
   cases p x with
   | true=>rfl
   | false=>rw[if_neg Bool.false_ne_true,ye8 p xs];rfl
theorem wm5(xs:List Str):PyData.eqv (.tuple (sDa xs)) (.tuple [])=xs.isEmpty:=by cases xs <;> rfl
variable{sa:Addr}
theorem yr9{nr shuts:List Str}(hs:SqT K H sa (D4 shuts))(hp:H p=some (.lst (D4 nr)))(hl:nr.length<=1000)(q:∀ H',A6 H H'->Q (.bl (nr.any fun y=>decide (y∈shuts))) H') :
 ∃ b,V.ref p=.ref b/\(((∃ xs,SqL K H b xs)/\qw0 (B3 1) (D6 (tOp (wd5 K false) (A4 1) (A4 0))) (A4 1) [some (.ref sa),none] (fun x H1=>Y8 B0 [] H1 fun y H2=>W5 K x y H2 Q) (Itl K b) H)\/((∃ xs,SqT K H b xs)/\qw0 (B3 1) (D6 (tOp (wd5 K false) (A4 1) (A4 0))) (A4 1) [some (.ref sa),none] (fun x H1=>Y8 B0 [] H1 fun y H2=>W5 K x y H2 Q) (Itt K b) H)):=by
 refine qe0 (xs:=D4 nr) (SqL.of hp) (fun i ys H'=>H'=H/\ys=D4 ((nr.take i).filter fun y=>decide (y∈shuts))) ⟨rfl,rfl⟩ ?_ ?_ ?_ ?_
 ·rintro i ys H' hi ⟨rfl,rfl⟩
  rw[G8]
  exact D5 (Nat.le_trans (List.length_filter_le _ _) (by rw[List.length_take];omega))
 ·rintro i ys H' hi ⟨rfl,_⟩
  exact SqL.of hp
 ·rintro i x ys H' hx ⟨rfl,rfl⟩
  obtain⟨y,hy,rfl⟩:=qx1 hx
  lk
  refine .inl (yj4 (xs:=D4 shuts) (.inr hs) rfl (qe3 _) ?_)
  rw[qk7]
  have etk:nr.take (i+1)=nr.take i++[y]:=by rw[List.take_add_one,hy];rfl
  refine⟨_,rfl,?_⟩
  by_cases h:y∈shuts
  ·rw[decide_eq_true h];refine V9 ?_
   lk
   refine⟨rfl,?_⟩
   rw[etk,List.filter_append,U7]
   simp[h]
  ·rw[decide_eq_false h];refine S7 ?_
   refine⟨rfl,?_⟩
   rw[etk,List.filter_append]
   simp[h]
 ·rintro ys H' ⟨rfl,rfl⟩ r hr
  have e:nr.take (D4 nr).length=nr:=by rw[G8,List.take_length]
  rw[e]
  have s1:=A6.new hr (.lst (D4 (nr.filter fun y=>decide (y∈shuts))))
  lk
  refine⟨D5 (by z_go),fun e he=>?_⟩
  have s2:=A6.new he (.lst [])
  refine yd0 (ds:=sDa (nr.filter fun y=>decide (y∈shuts))) (P5.mpr ⟨r,_,rfl,SqL.of (s2 _ _ A7),V6.mpr rfl⟩) A7 ?_
  rw[yr8,ye8]
  exact q _ (A6.tr s1 s2)
section
variable{D:V0}{v pv av:V}{na sa ba:Addr}{rs:List Row}{ns:List Str}{a2 a3 a4 a5 a6 a7 a8 a11 a12:Option V}{shuts bars:List Str}
theorem zv0(hR:Rws K H v rs)(hna:SqT K H na (D4 ns))(hl:ns.length<=1000)(hs:SqT K H sa (D4 shuts))(hb:SqT K H ba (D4 bars))(q:∀ H',A6 H H'->D.rt (oV (if((qh0 rs ns).any fun y=>decide (y∈shuts)) then some ("shut":Str) else if((qh0 rs ns).any fun y=>decide (y∈bars)) then some ("barred":Str) else none)) H') :
 Ad4 K D [some v,some (.ref na),a2,a3,a4,a5,a6,a7,a8,some (.ref sa),some (.ref ba),a11,a12] H:=by
 unfold Ad4
 lk
 refine⟨v,na,ns,rs,rfl,hR,hna,hl,fun p H1 s1 hp=>?_⟩
 have hnl:(qh0 rs ns).length<=1000:=Nat.le_trans (wz7 rs ns.length ns rfl) hl
 lk
 refine yr9 (s1.sqT hs) hp hnl fun H2 s2=>?_
 lk
 cases e:(qh0 rs ns).any fun y=>decide (y∈shuts) with
 | true =>
   x_go
   lk
   rw[e] at q
   exact q H2 (A6.tr s1 s2)
 | false =>
   k_go
   rw[e] at q
   lk
   refine yr9 (s2.sqT (s1.sqT hb)) (s2 _ _ hp) hnl fun H3 s3=>?_
   lk
   have s13:=A6.tr s1 (A6.tr s2 s3)
   cases e2:(qh0 rs ns).any fun y=>decide (y∈bars) with
   | true =>
     x_go
     lk
     rw[e2] at q
     exact q H3 s13
   | false =>
     k_go
     rw[e2] at q
     lk
     exact q H3 s13
theorem Ak4{n above:Str}(B:BkS rs)(hn:n≠("":Str))(hR:Rws K H v rs)(hrl:rs.length<=1000)(hna:SqT K H na (D4 ns))(hl:ns.length<=1000)(hs:SqT K H sa (D4 shuts))(hb:SqT K H ba (D4 bars))(q:∀ H',A6 H H'->D.rt (oV (if(frameOf rs (some n)).isSome && decide (frameOf rs (some n)≠some above) then some ("lost":Str) else if((qh0 rs ns).any fun y=>decide (y∈shuts)) then some ("shut":Str) else if((qh0 rs ns).any fun y=>decide (y∈bars)) then some ("barred":Str) else none)) H') :
 zr3 K D [some v,some (.ref na),a2,a3,some (.str above),a5,some (.str n),a7,a8,some (.ref sa),some (.ref ba),a11,a12] H:=by
 unfold zr3
 lk
 obtain⟨ba',xs,rfl,hq,hd⟩:=id hR
 have hxl:xs.length=rs.length:=by have:=hd.length;simpa using this
 refine qp7 (H0:=H) hq (fun _ _ e=>e) (fun i ys H'=>H'=H/\ys=D4 (((rs.take i).filter fun r=>decide (r.host=n)).map (·.name))) ⟨rfl,rfl⟩ ?_ (fun i ys H' p=>p.1▸fun _ _ e=>e) ?_ ?_
 ·rintro i ys H' hi ⟨rfl,rfl⟩
  rw[G8,List.length_map]
  exact D5 (Nat.le_trans (List.length_filter_le _ _) (by rw[List.length_take];omega))
 ·rintro i x ys H' hx ⟨rfl,rfl⟩
  obtain⟨d,hd1,hd2⟩:=hd.get' hx
  rw[List.getElem?_map] at hd1
  obtain⟨r,hr,rfl⟩:=Option.map_eq_some_iff.mp hd1
  obtain⟨b,sv,bv,rfl,hb',hsv,hbv⟩:=N3 hd2
  have etk:rs.take (i+1)=rs.take i++[r]:=by rw[List.take_add_one,hr];rfl
  lk
  refine G7 hb' (v:=.str r.host) (D8 (j:=2) rfl) ?_
  lk
  by_cases h:r.host=n
  ·rw[decide_eq_true h];refine V9 ?_
   lk
   refine G7 hb' (v:=.str r.name) (D8 (j:=0) rfl) ?_
   refine⟨rfl,?_⟩
   rw[etk,List.filter_append,List.map_append,U7]
   simp[h]
  ·rw[decide_eq_false h];refine S7 ?_
   refine⟨rfl,?_⟩
   rw[etk,List.filter_append]
   simp[h]
 ·rintro ys H' ⟨rfl,rfl⟩ r hr
  rw[hxl,List.take_length]
  have hf:=zr2 B hn
  have hu:=B.un n hn
  generalize hL:(rs.filter fun r=>decide (r.host=n)).map (·.name)=L at *
  have hLl:L.length<=1:=by rw[<-hL,List.length_map];exact hu
  have s1:=A6.new hr (.lst (D4 L))
  lk
  refine⟨D5 (by z_go),fun e he=>?_⟩
  have s2:=A6.new he (.lst [])
  have hrL:=s2 _ _ (A7 (H:=H') (a:=r) (o:=.lst (D4 L)))
  have he2:(upd (upd H' r (.lst (D4 L))) e (.lst [])) e=some (.lst []):=A7
  generalize upd (upd H' r (.lst (D4 L))) e (.lst [])=H2 at *
  have s12:=A6.tr s1 s2
  refine yd0 (ds:=sDa L) (P5.mpr ⟨r,_,rfl,SqL.of hrL,V6.mpr rfl⟩) he2 ?_
  rw[yr8]
  lk
  match L,hLl,hf,hrL with
  | [],_,hf,hrL =>
    k_go
    k_go
    lk
    refine zv0 (hR.same s12) (s12.sqT hna) hl (s12.sqT hs) (s12.sqT hb) fun H3 s3=>?_
    have:=q H3 (A6.tr s12 s3)
    rw[hf] at this
    exact this
  | [x],_,hf,hrL =>
    x_go
    lk
    refine⟨D5 (by z_go),fun e2 he2=>?_⟩
    have s3:=A6.new he2 (.lst [.str above])
    refine Ai3 (d:=.list (sDa [x])) (e:=.list (sDa [above])) (P5.mpr ⟨r,_,rfl,SqL.of (s3 _ _ hrL),V6.mpr rfl⟩) (P5.mpr ⟨e2,_,rfl,SqL.of A7,V6.mpr rfl⟩) (by simp[sDa,PyData.depth,PyData.depthAll]) ?_
    have ee:PyData.eqv (.list (sDa [x])) (.list (sDa [above]))=decide (x=above):=by
     by_cases hx:x=above
     ·subst hx;simp[sDa,PyData.eqv,PyData.eqvAll]
     ·simp[sDa,PyData.eqv,PyData.eqvAll,hx]
    rw[ee]
    have s13:=A6.tr s12 s3
    generalize upd H2 e2 (.lst [.str above])=H3 at *
    lk
    by_cases hx:x=above
    ·rw[decide_eq_true hx];refine S7 ?_
     lk
     refine zv0 (hR.same s13) (s13.sqT hna) hl (s13.sqT hs) (s13.sqT hb) fun H4 s4=>?_
     have:=q H4 (A6.tr s13 s4)
     rw[hf,if_neg (by simp[hx])] at this
     exact this
    ·rw[decide_eq_false hx];refine V9 ?_
     lk
     have:=q H3 s13
     rw[hf,if_pos (by simp[hx])] at this
     exact this
  | _::_::_,h,_,_=>simp at h
end
variable{ns:List Str}
theorem Ad8{n:Str}{r:Row}{m:Nat}(hr:Z3 rs (some n)=some r):wg7 rs ns n m=if r.sort=("bare":Str)/\0<m then some ("full":Str) else if 19<ns.length then some ("deep":Str) else if(V2 rs (L5 ns)).sort=("frame":Str)/\(V2 rs (L5 ns)).host≠n then some ("guest":Str)
 else if(frameOf rs (some n)).isSome && decide (frameOf rs (some n)≠some (L5 ns)) then some ("lost":Str) else if((qh0 rs ns).any fun y=>decide (y∈r.shuts)) then some ("shut":Str) else if((qh0 rs ns).any fun y=>decide (y∈r.bars)) then some ("barred":Str) else none:=by
 unfold wg7
 rw[show qa7 rs (some n)=some r.sort by unfold qa7;rw[hr];rfl]
 show(if r.sort=("bare":Str)/\0<m then some ("full":Str) else if 19<ns.length then some ("deep":Str) else match qr9 rs ns n with|some f=>some f|none=>wp5 rs ns n)=_
 have en:wp5 rs ns n=if((qh0 rs ns).any fun y=>decide (y∈r.shuts)) then some ("shut":Str) else if((qh0 rs ns).any fun y=>decide (y∈r.bars)) then some ("barred":Str) else none:=by
  unfold wp5;rw[hr]
 by_cases h1:r.sort=("bare":Str)/\0<m
 ·rw[if_pos h1,if_pos h1]
 ·rw [if_neg h1,if_neg h1]
  by_cases h2:19<ns.length
  ·rw[if_pos h2,if_pos h2]
  ·rw [if_neg h2,if_neg h2,en]
   unfold qr9
   rw[zh8]
   by_cases h3:(V2 rs (L5 ns)).sort=("frame":Str)/\(V2 rs (L5 ns)).host≠n
   ·rw[if_pos h3,if_pos (by rw[if_pos h3.1];simp[h3.2])]
   ·rw[if_neg h3]
    have h4:¬((if(V2 rs (L5 ns)).sort=("frame":Str) then some (V2 rs (L5 ns)).host else none).isSome && decide ((if(V2 rs (L5 ns)).sort=("frame":Str) then some (V2 rs (L5 ns)).host else none)≠some n))=true:=by
     by_cases h5:(V2 rs (L5 ns)).sort=("frame":Str)
     ·rw[if_pos h5]
      have:(V2 rs (L5 ns)).host=n:=Classical.byContradiction fun z=>h3 ⟨h5,z⟩
      simp[this]
     ·rw[if_neg h5];simp
    rw[if_neg h4]
    by_cases h6:((frameOf rs (some n)).isSome && decide (frameOf rs (some n)≠some (L5 ns)))=true
    ·rw[if_pos h6,if_pos h6]
    ·rw[if_neg h6,if_neg h6]
variable{a5:Option V}
section
variable{D:V0}{v pv av fv:V}{na:Addr}{rs:List Row}{ns:List Str}{a3 a6 a7 a8 a9 a10 a11 a12:Option V}
theorem Ak5{n:Str}(B:BkS rs)(hR:Rws K H v rs)(hrl:rs.length<=1000)(hna:SqT K H na (D4 ns))(hl:ns.length<=1000)(hpv:Dv K H (Tr.nd n ps).da pv)(hfv:Dv K H (V2 rs (L5 ns)).da fv)(q:∀ H',A6 H H'->D.rt (oV (wg7 rs ns n ps.length)) H'):Ad6 K D [some v,some (.ref na),some pv,a3,some (.str (L5 ns)),some fv,a6,a7,a8,a9,a10,a11,a12] H:=by
 unfold Ad6
 obtain⟨pa,pb,us,rfl,hpa,hpb,dvs⟩:=U8 hpv
 have hul:=Q5 dvs
 lk
 refine G7 hpa (v:=.str n) (D8 (j:=0) rfl) ?_
 lk
 refine⟨v,n,rs,rfl,hR,fun u H1 s1 du=>?_⟩
 obtain⟨rb,sv,bv,rfl,hrb,hsv,hbv⟩:=N3 du
 obtain⟨sa,rfl,hsa⟩:=wv1 hsv
 obtain⟨ba,rfl,hba⟩:=wv1 hbv
 refine⟨rb,_,rfl,hrb,rfl,_,_,rfl,N1 ⟨_,_,rfl,N1 ⟨_,_,rfl,N1 ⟨_,_,rfl,N1 ⟨_,_,rfl,N1 ⟨rfl,?_⟩⟩⟩⟩⟩⟩
 lk
 by_cases h0:(V2 rs n).sort=("":Str)
 ·rw[decide_eq_true h0];refine V9 ?_
  lk
  have:=q H1 s1
  unfold wg7 at this
  rw[Ad3 B,if_pos h0] at this
  exact this
 ·rw [decide_eq_false h0];refine S7 ?_
  obtain⟨r,hr⟩:∃ r,Z3 rs (some n)=some r:=by
   cases e:Z3 rs (some n) with
   | some r=>exact⟨r,rfl⟩
   | none=>exact absurd (by unfold V2;rw[e];rfl) h0
  have eR:V2 rs n=r:=by unfold V2;rw[hr];rfl
  rw[eR] at hsa hba ⊢
  obtain⟨hm,hrn⟩:=yd4 hr
  have hn0:n≠("":Str):=hrn▸B.ne r hm
  rw[hrn]
  rw[Ad8 hr] at q
  have last:∀ {a11 a12:Option V} {a7 a8:Option V},¬(r.sort=("bare":Str)/\0<ps.length)->¬(19<ns.length)->¬((V2 rs (L5 ns)).sort=("frame":Str)/\(V2 rs (L5 ns)).host≠n)->zr3 K D [some v,some (.ref na),some (.ref pa),a3,some (.str (L5 ns)),some fv,some (.str n),a7,a8,some (.ref sa),some (.ref ba),a11,a12] H1:=by
   intro _ _ _ _ h1 h2 h3
   rw[if_neg h1,if_neg h2,if_neg h3] at q
   exact Ak4 B hn0 (hR.same s1) hrl (s1.sqT hna) hl hsa hba fun H2 s2=>q H2 (A6.tr s1 s2)
  obtain⟨fb,fsv,fbv,rfl,hfb,_,_⟩:=N3 hfv
  have hfb:=s1.sqT hfb
  have tail:¬(r.sort=("bare":Str)/\0<ps.length)->Ad5 K D [some v,some (.ref na),some (.ref pa),a3,some (.str (L5 ns)),some (.ref fb),some (.str n),some (.str r.sort),some (.str r.host),some (.ref sa),some (.ref ba),a11,a12] H1:=by
   intro h1
   unfold Ad5
   lk
   refine O1 (.inr (s1.sqT hna)) ?_
   rw[G8]
   lk
   by_cases h2:19<ns.length
   ·rw[decide_eq_true (by omega)];refine V9 ?_
    lk
    have:=q H1 s1
    rw[if_neg h1,if_pos h2] at this
    exact this
   ·rw[decide_eq_false (by omega)];refine S7 ?_
    lk
    refine G7 hfb (v:=.str (V2 rs (L5 ns)).sort) (D8 (j:=1) rfl) ?_
    lk
    by_cases h3:(V2 rs (L5 ns)).sort=("frame":Str)
    ·rw[decide_eq_true h3];refine V9 ?_
     lk
     refine G7 hfb (v:=.str (V2 rs (L5 ns)).host) (D8 (j:=2) rfl) ?_
     lk
     by_cases h4:(V2 rs (L5 ns)).host=n
     ·rw[decide_eq_true h4];refine S7 ?_
      lk
      exact last h1 h2 (fun z=>z.2 h4)
     ·rw[decide_eq_false h4];refine V9 ?_
      lk
      have:=q H1 s1
      rw[if_neg h1,if_neg h2,if_pos ⟨h3,h4⟩] at this
      exact this
    ·rw[decide_eq_false h3];refine S7 ?_
     k_go
     lk
     exact last h1 h2 (fun z=>h3 z.1)
  lk
  by_cases hb0:r.sort=("bare":Str)
  ·rw[decide_eq_true hb0];refine V9 ?_
   lk
   refine G7 (s1.sqT hpa) (v:=.ref pb) (D8 (j:=1) rfl) ?_
   lk
   refine O1 (.inr (s1.sqT hpb)) ?_
   rw[hul]
   lk
   by_cases hp0:0<ps.length
   ·rw[decide_eq_true (by omega)];refine V9 ?_
    lk
    have:=q H1 s1
    rw[if_pos ⟨hb0,hp0⟩] at this
    exact this
   ·rw[decide_eq_false (by omega)];refine S7 ?_
    lk
    exact tail (fun z=>hp0 z.2)
  ·rw[decide_eq_false hb0];refine S7 ?_
   k_go
   lk
   exact tail (fun z=>hb0 z.1)
def Ahd(K:Fg)(H:Hp)(av:V)(bs:Bool):Prop:=(av=.non/\bs=false)\/∃ w:Tr,Dv K H w.da av/\w.isTx=bs
theorem zr4{bs:Bool}(h:Ahd K H av bs)(q:Q (.bl bs) H):wa9 K [av,.ty "str"] H Q:=by
 rcases h with⟨rfl,rfl⟩|⟨w,hw,rfl⟩
 ·exact yb1 .non (b:=false) rfl q
 ·exact wz5 hw q
theorem Ahd.same{bs:Bool}(h:Ahd K H av bs)(s:A6 H H'):Ahd K H' av bs:=h.imp (fun h=>h) fun⟨w,h1,h2⟩=>⟨w,Dv.same s _ _ h1,h2⟩
theorem zv1{bs:Bool}(B:BkS rs)(hR:Rws K H v rs)(hrl:rs.length<=1000)(hna:SqT K H na (D4 ns))(hl:ns.length<=1000)(hpv:Dv K H u.da pv)(hav:Ahd K H av bs)(q:∀ H',A6 H H'->D.rt (oV (qc3 rs ns u bs)) H'):Ad7 K D [some v,some (.ref na),some pv,some av,some (.str (L5 ns)),a5,a6,a7,a8,a9,a10,a11,a12] H:=by
 unfold Ad7
 lk
 refine⟨v,L5 ns,rs,rfl,hR,fun fv H1 s1 hfv=>?_⟩
 lk
 refine wz5 (Dv.same s1 _ _ hpv) ?_
 lk
 cases u with
 | nd n ps =>
   k_go
   lk
   exact Ak5 B (hR.same s1) hrl (s1.sqT hna) hl (Dv.same s1 _ _ hpv) hfv fun H2 s2=>q H2 (A6.tr s1 s2)
 | tx z =>
   x_go
   obtain⟨fb,fsv,fbv,rfl,hfb,_,_⟩:=N3 hfv
   have hz:=yr6 hpv
   subst hz
   have q1:D.rt (oV (wz9 rs ns z bs)) H1:=q H1 s1
   unfold wz9 at q1
   rw[zh8] at q1
   lk
   refine G7 hfb (v:=.str (V2 rs (L5 ns)).sort) (D8 (j:=1) rfl) ?_
   lk
   by_cases h3:(V2 rs (L5 ns)).sort=("frame":Str)
   ·rw[decide_eq_true h3];refine V9 ?_
    lk
    rw[if_pos h3,if_pos (by rfl)] at q1
    exact q1
   ·rw [decide_eq_false h3];refine S7 ?_
    rw[if_neg h3,if_neg (by decide)] at q1
    lk
    by_cases hz:z=("":Str)
    ·rw[decide_eq_true hz];refine V9 ?_
     lk
     rw[if_pos hz] at q1
     exact q1
    ·rw[decide_eq_false hz];refine S7 ?_
     rw[if_neg hz] at q1
     lk
     refine zr4 (hav.same s1) ?_
     lk
     cases bs with
     | true =>
       x_go
       lk
       exact q1
     | false =>
       k_go
       lk
       exact q1
end
abbrev ws6(K:Fg):TS :=
 (C1 (M3 (D6 (tOp (W5 K) (A4 1) (M6 B0)))
 (E4 (tOp (I9 K) (A4 1) (tUn (rU fun i=>.int (-i)) (tC (.int 1)))) (B3 4)) E8)
 (Ad7 K))
def Z4(K:Fg):Sp:=fun vs H Q _=>∃ (v:V) (na:Addr) (pv av:V) (rs:List Row) (ns:List Str) (u:Tr) (bs:Bool),vs=[v,.ref na,pv,av]/\BkS rs/\Rws K H v rs/\rs.length<=1000/\SqT K H na (D4 ns)/\ns.length<=1000/\Dv K H u.da pv/\Ahd K H av bs/\∀ H',A6 H H'->Q (oV (qc3 rs ns u bs)) H'
def qi7(K:Fg):TS :=
 (C1 (E4 (tC (.str "")) (B3 4))
 (ws6 K))
theorem xk0(h:Z4 K vs H Q E):qi7 K {nx:=fun _ H'=>Q .non H',rt:=Q} (J0 ["_law_book_here","_law_names","_law_part","_law_ahead","_law_above","_law_frame","_law_name_here","_law_sort","_law_host","_law_shuts","_law_bars","_law_frames","_law_near_here"] vs) H:=by
 obtain⟨v,na,pv,av,rs,ns,u,bs,rfl,B,hR,hrl,hna,hl,hpv,hav,q⟩:=h
 show qi7 K _ [some v,some (.ref na),some pv,some av,none,none,none,none,none,none,none,none,none] H
 unfold qi7
 lk
 refine⟨D5 (by z_go),fun e he=>?_⟩
 have s1:A6 H (upd H e (.tup [])):=A6.new he _
 refine wx4 (d:=.tuple (sDa ns)) (e:=.tuple []) (C3.mpr ⟨na,_,rfl,s1.sqT hna,V6.mpr rfl⟩) (C3.mpr ⟨e,[],rfl,SqT.of A7,E6⟩) (Nat.le_trans (Nat.min_le_right _ _) (by decide)) ?_
 rw[wm5]
 generalize upd H e (.tup [])=H1 at *
 lk
 by_cases hn:ns=[]
 ·subst hn
  k_go
  lk
  exact zv1 (ns:=[]) B (hR.same s1) hrl (s1.sqT hna) hl (Dv.same s1 _ _ hpv) (hav.same s1) fun H2 s2=>q H2 (A6.tr s1 s2)
 ·have e0:(!ns.isEmpty)=true:=by cases ns with|nil=>exact absurd rfl hn|cons _ _=>rfl
  rw[e0]
  x_go
  lk
  refine⟨1,rfl,?_⟩
  obtain⟨xs,x,rfl⟩:∃ xs x,ns=xs++[x]:=⟨ns.dropLast,ns.getLast hn,(List.dropLast_concat_getLast hn).symm⟩
  refine G7 (s1.sqT hna) (v:=.str x) (U5 (n:=xs.length) (by rw[G8];simp) (by rw[X8 (by simp)];simp)) ?_
  lk
  have:=yd5 xs x
  rw[<-this]
  exact zv1 B (hR.same s1) hrl (s1.sqT hna) hl (Dv.same s1 _ _ hpv) (hav.same s1) fun H2 s2=>q H2 (A6.tr s1 s2)
abbrev T3:=List Int×List Str×Tr
def abv(x:T3):List Str:=if x.1=[] then x.2.1 else x.2.1++[ql6 x.2.2]
def ql7(pl:List Int)(ab:List Str):Nat->List Tr->List T3
 | _,[]=>[]
 | k,t::ts=>(pl++[(k:Int)],ab,t)::ql7 pl ab (k+1) ts
mutual
def wkT(pl:List Int)(ns ab:List Str):Tr->List T3
 | .tx s=>[(pl,ns,.tx s)]
 | .nd n ps=>(pl,ns,.nd n ps)::wkS pl ab 0 ps
def wkS(pl:List Int)(ab:List Str)(k:Nat):List Tr->List T3
 | []=>[]
 | t::ts=>wkT (pl++[(k:Int)]) ab (ab++[ql6 t]) t++wkS pl ab (k+1) ts
end
def wk(x:T3):List T3:=wkT x.1 x.2.1 (abv x) x.2.2
def qb2(l:List T3):List T3:=l.flatMap wk
theorem wm6(a b:List T3):qb2 (a++b)=qb2 a++qb2 b:=by unfold qb2;rw[List.flatMap_append]
theorem ys0(l:List α)(x:α):l++[x]≠[]:=by simp
theorem ye9(pl:List Int)(ab:List Str):∀ (k:Nat) (ts:List Tr),wkS pl ab k ts=qb2 (ql7 pl ab k ts)
 | k,[]=>by rw[wkS];rfl
 | k,t::ts=>by
   rw[wkS,ye9 pl ab (k+1) ts,ql7]
   show _=wk (pl++[(k:Int)],ab,t)++qb2 (ql7 pl ab (k+1) ts)
   unfold wk abv
   rw[if_neg (ys0 _ _)]
theorem xw8(x:T3):wk x=x::qb2 (ql7 x.1 (abv x) 0 x.2.2.kids):=by
 obtain⟨pl,ns,t⟩:=x
 cases t with
 | tx s=>unfold wk;rw[wkT];rfl
 | nd n ps=>unfold wk;rw[wkT,ye9];rfl
theorem xc1(x:T3)(r:List T3):qb2 (x::r)=x::qb2 (ql7 x.1 (abv x) 0 x.2.2.kids++r):=by
 rw[wm6]
 show wk x++qb2 r=_
 rw[xw8];rfl
theorem wh0(pl:List Int)(ab:List Str):∀ (k:Nat) (ts:List Tr),(ql7 pl ab k ts).length=ts.length
 | _,[]=>rfl
 | k,t::ts=>by rw[ql7,List.length_cons,List.length_cons,wh0 pl ab (k+1) ts]
mutual
theorem xw9(pl:List Int)(ns ab:List Str):∀ t:Tr,(wkT pl ns ab t).length<=wt t
 | .tx s=>by rw[wkT,wt,List.length_singleton];omega
 | .nd n ps=>by rw[wkT,wt,List.length_cons];have:=zh9 pl ab 0 ps;omega
theorem zh9(pl:List Int)(ab:List Str)(k:Nat):∀ ts:List Tr,(wkS pl ab k ts).length<=wts ts
 | []=>by rw[wkS,wts];exact Nat.le_refl _
 | t::ts=>by rw[wkS,wts,List.length_append];have:=xw9 (pl++[(k:Int)]) ab (ab++[ql6 t]) t;have:=zh9 pl ab (k+1) ts;omega
end
mutual
theorem ys1(pl:List Int)(ns ab:List Str)(h:ns.length<=ab.length):∀ (t:Tr) (x:T3),x∈wkT pl ns ab t->x.1.length+1<=pl.length+wt t/\x.2.1.length+1<=ab.length+wt t
 | .tx s,x,hx=>by rw[wkT,List.mem_singleton] at hx;subst hx;rw[wt];show pl.length+1<=_/\ns.length+1<=_;omega
 | .nd n ps,x,hx=>by
   rw[wkT,List.mem_cons] at hx
   rw[wt]
   rcases hx with rfl|hx
   ·show pl.length+1<=_/\ns.length+1<=_;omega
   ·have:=ys2 pl ab 0 ps x hx;omega
theorem ys2(pl:List Int)(ab:List Str)(k:Nat):∀ (ts:List Tr) (x:T3),x∈wkS pl ab k ts->x.1.length<=pl.length+wts ts/\x.2.1.length<=ab.length+wts ts
 | [],x,hx=>by rw[wkS] at hx;cases hx
 | t::ts,x,hx=>by
   rw[wkS,List.mem_append] at hx
   rw[wts]
   rcases hx with hx|hx
   ·have:=ys1 _ _ _ (by simp) t x hx;simp at this;omega
   ·have:=ys2 pl ab (k+1) ts x hx;omega
end
mutual
theorem zv2(pl:List Int)(ns ab:List Str)(h:ns.length<=ab.length):∀ (t:Tr) (x:T3),x∈wkT pl ns ab t->x.1.length<=pl.length+hgt t/\x.2.1.length<=ab.length+hgt t
 | .tx s,x,hx=>by rw[wkT,List.mem_singleton] at hx;subst hx;show pl.length<=_/\ns.length<=_;omega
 | .nd n ps,x,hx=>by
   rw[wkT,List.mem_cons] at hx
   rw[hgt]
   rcases hx with rfl|hx
   ·show pl.length<=_/\ns.length<=_;omega
   ·have:=zv3 pl ab 0 ps x hx;omega
theorem zv3(pl:List Int)(ab:List Str)(k:Nat):∀ (ts:List Tr) (x:T3),x∈wkS pl ab k ts->x.1.length<=pl.length+1+O2 ts/\x.2.1.length<=ab.length+1+O2 ts
 | [],x,hx=>by rw[wkS] at hx;cases hx
 | t::ts,x,hx=>by
   rw[wkS,List.mem_append] at hx
   rw[O2]
   rcases hx with hx|hx
   ·have:=zv2 _ _ _ (by simp) t x hx;simp at this;omega
   ·have:=zv3 pl ab (k+1) ts x hx;omega
end
def W3(K:Fg)(H:Hp)(x:T3)(v:V):Prop:=∃ (a pa na:Addr) (pv:V),v=.ref a/\H a=some (.tup [.ref pa,.ref na,pv])/\H pa=some (.tup (E9 x.1))/\H na=some (.tup (D4 x.2.1))/\Dv K H x.2.2.da pv
def W3s(K:Fg)(H:Hp):List T3->List V->Prop
 | [],vs=>vs=[]
 | x::xs,vs=>∃ v r,vs=v::r/\W3 K H x v/\W3s K H xs r
theorem W3.tupK{x:T3}(k:qh4 H H')(h:W3 K H x v):W3 K H' x v:=by
 obtain⟨a,pa,na,pv,rfl,h1,h2,h3,h4⟩:=h
 exact⟨a,pa,na,pv,rfl,k.1 _ _ h1,k.1 _ _ h2,k.1 _ _ h3,Dv.tupK k _ _ (qa9 _) h4⟩
theorem W3s.tupK{H':Hp}(k:qh4 H H'):∀ {xs:List T3} {vs:List V},W3s K H xs vs->W3s K H' xs vs
 | [],_,h=>h
 | x::xs,_,⟨v,r,e,h1,h2⟩=>⟨v,r,e,h1.tupK k,W3s.tupK k h2⟩
theorem W3s.app:∀ {xs ys:List T3} {vs ws:List V},W3s K H xs vs->W3s K H ys ws->W3s K H (xs++ys) (vs++ws)
 | [],_,_,_,h,g=>by rw[show _=[] from h];exact g
 | x::xs,_,_,_,⟨v,r,e,h1,h2⟩,g=>by subst e;exact⟨v,_,rfl,h1,W3s.app h2 g⟩
theorem W3s.length:∀ {xs:List T3} {vs:List V},W3s K H xs vs->vs.length=xs.length
 | [],_,h=>by rw[show _=[] from h];rfl
 | x::xs,_,⟨v,r,e,h1,h2⟩=>by subst e;rw[List.length_cons,List.length_cons,W3s.length h2]
theorem W3s.get:∀ {xs:List T3} {vs:List V} {i:Nat} {v:V},W3s K H xs vs->vs[i]?=some v->∃ x,xs[i]?=some x/\W3 K H x v
 | [],_,i,v,h,e=>by rw[show _=[] from h] at e;simp at e
 | x::xs,_,0,v,⟨w,r,e,h1,h2⟩,e2=>by subst e;cases e2;exact⟨x,rfl,h1⟩
 | x::xs,_,i+1,v,⟨w,r,e,h1,h2⟩,e2=>by
   subst e
   obtain⟨y,hy,w3⟩:=W3s.get (i:=i) h2 (by simpa using e2)
   exact⟨y,by simpa using hy,w3⟩
theorem W3s.one{x:T3}(h:W3 K H x v):W3s K H [x] [v]:=⟨v,[],rfl,h,rfl⟩
def d3(x:T3):PyData:=.tuple [.tuple (qa8 x.1),.tuple (sDa x.2.1),x.2.2.da]
theorem W3.dv{x:T3}(h:W3 K H x v):Dv K H (d3 x) v:=by
 obtain⟨a,pa,na,pv,rfl,h1,h2,h3,h4⟩:=h
 unfold d3
 exact C3.mpr ⟨a,_,rfl,SqT.of h1,E1 (C3.mpr ⟨pa,_,rfl,SqT.of h2,N7.mpr rfl⟩) (E1 (C3.mpr ⟨na,_,rfl,SqT.of h3,V6.mpr rfl⟩) (E1 h4 E6))⟩
theorem W3s.dvs:∀ {xs:List T3} {vs:List V},W3s K H xs vs->Dvs K H (xs.map d3) vs
 | [],_,h=>by rw[show _=[] from h];exact E6
 | x::xs,_,⟨v,r,e,h1,h2⟩=>by subst e;exact E1 h1.dv h2.dvs
def ys3(K:Fg):TS :=
 (E4 (tOp (R1 K) (Y4 [some 6,some 3,some 5,none] (qh7 (A2 (tCB (P6 K) (A2 (tOp (I9 K) (A4 5) (tC (.int 1))) B0)) B0)) (B3 3) tTT (M6 (A2 (tOp (R1 K) (A4 1) (M6 (A2 (A4 3) B0))) (A2 (A4 0) (A2 (tOp (I9 K) (tOp (I9 K) (A4 2) (tC (.int 1))) (A4 3)) B0))))) (A4 2)) (B3 2))
section
variable{D:V0}{v pv:V}{p1 p2 pa na ab:Addr}
theorem Ad9{x:T3}{n:Str}{ws:List V}{stk:List T3}(hx:x.2.2=.nd n ps)(hp2:H p2=some (.lst ws))(hpa:H pa=some (.tup (E9 x.1)))(hab:H ab=some (.tup (D4 (abv x))))(hpv:Dv K H x.2.2.da pv)(hstk:W3s K H stk ws)(hz:x.1.length+ps.length+ws.length<=90000)(q:∀ (r:Addr) (us:List V) (H':Hp),A6 H H'->H r=none->H' r=some (.lst us)->W3s K H' (ql7 x.1 (abv x) 0 ps++stk) us->D.nx [some v,some (.ref p1),some (.ref r),some (.ref pa),some (.ref na),some pv,some (.ref ab)] H') :
 ys3 K D [some v,some (.ref p1),some (.ref p2),some (.ref pa),some (.ref na),some pv,some (.ref ab)] H:=by
 rw[hx] at hpv
 obtain⟨ta,tb,us,rfl,hta,htb,hd⟩:=U8 hpv
 have hul:=Q5 hd
 unfold ys3
 lk
 refine G7 hta (v:=.ref tb) (D8 (j:=1) rfl) ?_
 lk
 refine O1 (.inr htb) ?_
 rw[hul]
 refine qp3 (n:=(ps.length:Int)) (by omega) (by omega) (fun i ys H'=>A6 H H'/\W3s K H' (ql7 x.1 (abv x) 0 (ps.take i)) ys) ⟨fun _ _ e=>e,rfl⟩ ?_ ?_ ?_
 ·rintro i ys H' hi ⟨s1,h⟩
  rw[h.length,wh0,List.length_take];exact D5 (by omega)
 ·rintro i ys H' hi ⟨s1,h⟩
  have hi:i<ps.length:=by omega
  obtain⟨u,hu,du⟩:=qb6 hd (List.getElem?_eq_getElem hi)
  lk
  refine⟨D5 (by z_go),fun c hc=>?_⟩
  have sc:=A6.new hc (.tup [.int (i:Int)])
  refine yk2 (sc _ _ (s1 _ _ hpa)) A7 (by rw[M5];exact D5 (by simp;omega)) fun pp H2 s2 hpp=>?_
  have s12:A6 H' H2:=A6.tr sc s2
  have s02:=A6.tr s1 s12
  lk
  refine G7 (s02.sqT hta) (v:=.ref tb) (D8 (j:=1) rfl) ?_
  lk
  refine G7 (s02.sqT htb) (v:=u) (D8 hu) ?_
  lk
  refine⟨D5 (by z_go),fun t ht=>?_⟩
  have s3:=A6.new ht (.tup [.ref pp,.ref ab,u])
  refine⟨A6.tr s02 s3,?_⟩
  have e:ql7 x.1 (abv x) 0 (ps.take (i+1))=ql7 x.1 (abv x) 0 (ps.take i)++[(x.1++[((i:Nat):Int)],abv x,ps[i])]:=by
   rw[List.take_add_one,List.getElem?_eq_getElem hi]
   have:∀ (k:Nat) (l:List Tr) (y:Tr),ql7 x.1 (abv x) k (l++[y])=ql7 x.1 (abv x) k l++[(x.1++[((k+l.length:Nat):Int)],abv x,y)]:=by
    intro k l y
    induction l generalizing k with
    | nil=>simp[ql7]
    | cons z l ih=>rw[List.cons_append,ql7,ih,ql7,List.cons_append,List.length_cons,show k+1+l.length=k+(l.length+1) by omega]
   show ql7 _ _ _ (ps.take i++[ps[i]])=_
   rw[this,List.length_take,show 0+min i ps.length=i by omega]
  rw[e]
  refine W3s.app (h.tupK (A6.tr s12 s3).tupK) (W3s.one ⟨t,pp,ab,u,rfl,A7,?_,s3 _ _ (s02 _ _ hab),Dv.same (A6.tr s02 s3) _ _ du⟩)
  have:=s3 _ _ hpp
  rw[this]
  show some (HO.tup (E9 x.1++[V.int (i:Int)]))=_
  rw[qx0]
 ·rintro ys H' ⟨s1,h⟩ r hr
  rw[show((ps.length:Int)).toNat=ps.length by omega,List.take_length] at h
  have sr:=A6.new hr (.lst ys)
  lk
  have h1:=h.length
  rw[wh0] at h1
  refine .inl (zd1 A7 (A6.tr s1 sr _ _ hp2) (by rw[h1];exact D5 (by omega)) fun r2 hr2=>?_)
  have sr2:=A6.new hr2 (.lst (ys++ws))
  have st:=A6.tr s1 (A6.tr sr sr2)
  lk
  exact q r2 _ _ st (qz5 (A6.tr s1 sr) hr2) A7 (W3s.app (h.tupK (A6.tr sr sr2).tupK) (hstk.tupK st.tupK))
end
abbrev xk1(K:Fg):TS :=
 (C1 (M3 (D6 (tOp (W5 K) (A4 3) (M6 B0)))
 (E4 (tOp (R1 K) (A4 4) (M6 (A2 (tOp (I9 K) (A4 5) (tC (.int 0))) B0))) (B3 6)) E8)
 (ys3 K))
abbrev xk2(K:Fg):TS :=
 (M3 (wj3 (tB (tCB (wa9 K) (A2 (A4 5) (A2 (tC (.ty "str")) B0)))))
 (C1 (E4 (A4 4) (B3 6))
 (xk1 K)) E8)
abbrev xk3(K:Fg):TS :=
 (C1 (qh6 (tBM K "list" X6 (A4 1) (A2 (M6 (A2 (A4 3) (A2 (A4 4) (A2 (A4 5) B0)))) B0)))
 (xk2 K))
abbrev xk4(K:Fg):TS :=
 (C1 (E4 (tBM K "list" yi8 (A4 2) (A2 (tC (.int 0)) B0)) (wj6 K 3 (R7 (B3 3) (R7 (B3 4) (R7 (B3 5) wj5)))))
 (xk3 K))
abbrev xk5(K:Fg):TS :=
 (C1 (E4 (Y8 (A2 (M6 (A2 (M6 B0) (A2 (M6 B0) (A2 (A4 0) B0)))) B0)) (B3 2))
 (C1 (wv6 (D6 (tOp (W5 K) (A4 2) (Y8 B0)))
 (xk4 K))
 (G9 (A4 1))))
def qc6(K:Fg):Sp:=fun vs H Q _=>∃ (t:Tr) (v:V),vs=[v]/\Dv K H t.da v/\wt t<=40000/\∀ (p:Addr) (us:List V) (H':Hp),A6 H H'->H p=none->H' p=some (.lst us)->W3s K H' (wk ([],[],t)) us->Q (.ref p) H'
def qm9(K:Fg):TS :=
 (C1 (E4 (Y8 B0) (B3 1))
 (xk5 K))
theorem xx0(h:qc6 K vs H Q E):qm9 K {nx:=fun _ H'=>Q .non H',rt:=Q} (J0 ["_law_tree_here","_law_found","_law_todo","_law_place","_law_names","_law_part","_law_above"] vs) H:=by
 obtain⟨t,v,rfl,hd,hz,q⟩:=h
 show qm9 K _ [some v,none,none,none,none,none,none] H
 unfold qm9
 have hpl:(wk ([],[],t)).length<=wt t:=xw9 _ _ _ t
 lk
 refine⟨D5 (by z_go),fun p1 hp1=>?_⟩
 have s1:=A6.new hp1 (.lst [])
 have e1:(upd H p1 (.lst [])) p1=some (.lst []):=A7
 generalize upd H p1 (.lst [])=H1 at *
 lk
 refine⟨D5 (by z_go),fun c0 hc0=>?_⟩
 have s2:=A6.new hc0 (.tup [])
 have e2:(upd H1 c0 (.tup [])) c0=some (.tup []):=A7
 generalize upd H1 c0 (.tup [])=H2 at *
 lk
 refine⟨D5 (by z_go),fun c1 hc1=>?_⟩
 have s3:=A6.new hc1 (.tup [])
 have e3:(upd H2 c1 (.tup [])) c1=some (.tup []):=A7
 generalize upd H2 c1 (.tup [])=H3 at *
 lk
 refine⟨D5 (by z_go),fun c2 hc2=>?_⟩
 have s4:=A6.new hc2 (.tup [.ref c0,.ref c1,v])
 have e4:(upd H3 c2 (.tup [.ref c0,.ref c1,v])) c2=some (.tup [.ref c0,.ref c1,v]):=A7
 generalize upd H3 c2 (.tup [.ref c0,.ref c1,v])=H4 at *
 lk
 refine⟨D5 (by z_go),fun p2 hp2=>?_⟩
 have s5:=A6.new hp2 (.lst [.ref c2])
 have e5:(upd H4 p2 (.lst [.ref c2])) p2=some (.lst [.ref c2]):=A7
 have s14:A6 H1 H4:=A6.tr s2 (A6.tr s3 s4)
 have n12:p1≠p2:=N2 (s14 _ _ e1) hp2
 have n2:H p2=none:=qz5 (A6.tr s1 s14) hp2
 generalize upd H4 p2 (.lst [.ref c2])=H5 at *
 have s15:=A6.tr s14 s5
 have sA:=A6.tr s1 s15
 lk
 refine wk7 (fun σ H'=>∃ (p2:Addr) (a3 a4 a5 a6:Option V) (us ws:List V) (done stk:List T3),σ=[some v,some (.ref p1),some (.ref p2),a3,a4,a5,a6]/\A6 H H'/\H p2=none/\p1≠p2/\H' p1=some (.lst us)/\H' p2=some (.lst ws)/\W3s K H' done us/\W3s K H' stk ws/\done++qb2 stk=wk ([],[],t))
  (fun σ H'=>match H' p1 with|some (.lst us)=>(wk ([],[],t)).length-us.length|_=>0) ⟨p2,_,_,_,_,[],[.ref c2],[],[([],[],t)],rfl,sA,n2,n12,s15 _ _ e1,e5,rfl,W3s.one ⟨c2,c0,c1,v,rfl,s5 _ _ e4,s5 _ _ (s4 _ _ (s3 _ _ e2)),s5 _ _ (s4 _ _ e3),Dv.same sA _ _ hd⟩,by simp[qb2]⟩ ?_
 clear e1 e2 e3 e4 e5 s1 s2 s3 s4 s5 s14 s15 sA n12 n2 hc0 hc1 hc2 hp2
 rintro σ H' ⟨p2,a3,a4,a5,a6,us,ws,done,stk,rfl,s1,n2,n12,h1,h2,d1,d2,e⟩
 have hel:done.length+(qb2 stk).length=(wk ([],[],t)).length:=by rw[<-e,List.length_append]
 have hdl:=d1.length
 have hwl:=d2.length
 lk
 refine⟨D5 (by z_go),fun e0 he0=>?_⟩
 have s2:=A6.new he0 (.lst [])
 have h10:=h1
 have h1:=s2 _ _ h1
 have h2:=s2 _ _ h2
 have d1:=d1.tupK s2.tupK
 have d2:=d2.tupK s2.tupK
 have s1:=A6.tr s1 s2
 have he:(upd H' e0 (.lst [])) e0=some (.lst []):=A7
 have hm0:(match H' p1 with|some (.lst us)=>(wk ([],[],t)).length-us.length|_=>0)=(wk ([],[],t)).length-us.length:=by rw[h10]
 generalize upd H' e0 (.lst [])=H6 at *
 refine yd0 (ds:=stk.map d3) (P5.mpr ⟨p2,_,rfl,SqL.of h2,d2.dvs⟩) he ?_
 lk
 cases stk with
 | nil =>
   k_go
   lk
   have:done=wk ([],[],t):=by simpa [qb2] using e
   rw[this] at d1
   exact q p1 us H6 s1 hp1 h1 d1
 | cons x rest =>
   x_go
   obtain⟨y,ws',rfl,d3',d4⟩:=d2
   rw[xc1] at e hel
   rw[List.length_cons,wm6,List.length_append] at hel
   have hm:x∈wk ([],[],t):=by rw[<-e];simp
   have hxl:=ys1 [] [] (abv ([],[],t)) (by simp) t x hm
   have hab0:(abv ([],[],t)).length=0:=rfl
   have hfl:∀ l:List T3,l.length<=(qb2 l).length:=fun l=>by
    induction l with
    | nil=>exact Nat.zero_le _
    | cons p r ih=>rw[xc1,wm6,List.length_cons,List.length_cons,List.length_append];omega
   have hkw:=hfl (ql7 x.1 (abv x) 0 x.2.2.kids)
   rw[wh0] at hkw
   have hrw:=hfl rest
   have hwl':=d4.length
   refine⟨fun σ' H''=>∃ (p2:Addr) (a3 a4 a5 a6:Option V) (us' ws:List V) (done stk:List T3),σ'=[some v,some (.ref p1),some (.ref p2),a3,a4,a5,a6]/\A6 H H''/\H p2=none/\p1≠p2/\H'' p1=some (.lst us')/\H'' p2=some (.lst ws)/\W3s K H'' done us'/\W3s K H'' stk ws/\done++qb2 stk=wk ([],[],t)/\us'.length=us.length+1,?_,?_⟩
   ·rintro σ' H'' ⟨p2,a3,a4,a5,a6,us',ws,done,stk,rfl,z1,z2,z3,z4,z5,z6,z7,z8,z9⟩
    refine⟨_,?_,rfl,p2,a3,a4,a5,a6,us',ws,done,stk,rfl,z1,z2,z3,z4,z5,z6,z7,z8⟩
    dsimp only
    rw[hm0,z4]
    dsimp only
    omega
   ·obtain⟨xa,pa,na,pv,rfl,k1,k2,k3,k4⟩:=d3'
    lk
    refine⟨.inl ⟨rfl,_,SqL.of h2⟩,?_⟩
    lk
    refine Aa8 h2 ?_
    have tk:=U6 (ys:=ws') h2
    have s7:A6 H (upd H6 p2 (.lst ws')):=A6.put s1 n2 _
    have g1:(upd H6 p2 (.lst ws')) p1=some (.lst us):=by rw[C6 n12];exact h1
    have g2:(upd H6 p2 (.lst ws')) p2=some (.lst ws'):=A7
    have d1:=d1.tupK tk
    have d4:=d4.tupK tk
    have k1:=tk.1 _ _ k1
    have k2:=tk.1 _ _ k2
    have k3:=tk.1 _ _ k3
    have k4:=Dv.tupK tk _ _ (qa9 _) k4
    generalize upd H6 p2 (.lst ws')=H7 at *
    refine⟨xa,_,rfl,SqT.of k1,rfl,_,_,rfl,N1 ⟨_,_,rfl,N1 ⟨_,_,rfl,N1 ⟨rfl,?_⟩⟩⟩⟩
    lk
    refine⟨.inl ⟨rfl,_,SqL.of g1⟩,?_⟩
    lk
    refine⟨D5 (by z_go),fun f0 hf0=>?_⟩
    have s8:=A6.new hf0 (.tup [.ref pa,.ref na,pv])
    have g1:=s8 _ _ g1
    have g2:=s8 _ _ g2
    have d1:=d1.tupK s8.tupK
    have d4:=d4.tupK s8.tupK
    have k2:=s8 _ _ k2
    have k3:=s8 _ _ k3
    have k4:=Dv.same s8 _ _ k4
    have kf:(upd H7 f0 (.tup [.ref pa,.ref na,pv])) f0=some (.tup [.ref pa,.ref na,pv]):=A7
    have s7:=A6.tr s7 s8
    generalize upd H7 f0 (.tup [.ref pa,.ref na,pv])=H8 at *
    lk
    refine W6 g1 (by rw[hdl,sizeLine_eq];omega) ?_
    have tk:=U6 (ys:=us++[.ref f0]) g1
    have s9:A6 H (upd H8 p1 (.lst (us++[.ref f0]))):=A6.put s7 hp1 _
    have g3:(upd H8 p1 (.lst (us++[.ref f0]))) p1=some (.lst (us++[.ref f0])):=A7
    have g2:(upd H8 p1 (.lst (us++[.ref f0]))) p2=some (.lst ws'):=by rw[C6 (Ne.symm n12)];exact g2
    have d1:=d1.tupK tk
    have d4:=d4.tupK tk
    have k2:=tk.1 _ _ k2
    have k3:=tk.1 _ _ k3
    have k4:=Dv.tupK tk _ _ (qa9 _) k4
    have kf:=tk.1 _ _ kf
    generalize upd H8 p1 (.lst (us++[.ref f0]))=H9 at *
    have d1:W3s K H9 (done++[x]) (us++[.ref f0]):=W3s.app d1 (W3s.one ⟨f0,pa,na,pv,rfl,kf,k2,k3,k4⟩)
    lk
    refine wz5 k4 ?_
    lk
    obtain⟨pl,ns,u⟩:=x
    cases u with
    | tx z =>
      k_go
      lk
      exact⟨p2,_,_,_,_,_,ws',done++[(pl,ns,.tx z)],rest,rfl,s9,n2,n12,g3,g2,d1,d4,by rw[<-e];simp[Tr.kids,ql7],by simp⟩
    | nd n ps =>
      x_go
      lk
      have hkw:ps.length<=(qb2 (ql7 pl (abv (pl,ns,.nd n ps)) 0 ps)).length:=hkw
      have hel:done.length+((qb2 (ql7 pl (abv (pl,ns,.nd n ps)) 0 ps)).length+(qb2 rest).length+1)=(wk ([],[],t)).length:=hel
      have hpl1:pl.length+1<=wt t:=by have:=hxl.1;simpa using this
      have hns1:ns.length+1<=wt t:=by have:=hxl.2;rw[hab0] at this;simpa using this
      have fin:∀ (D:V0) (ab:Addr) (H10:Hp),A6 H9 H10->H10 ab=some (.tup (D4 (abv (pl,ns,.nd n ps))))->(∀ (p2:Addr) (us' ws:List V) (done stk:List T3) (H'':Hp),A6 H H''->H p2=none->p1≠p2->H'' p1=some (.lst us')->H'' p2=some (.lst ws)->W3s K H'' done us'->W3s K H'' stk ws->done++qb2 stk=wk ([],[],t)->us'.length=us.length+1->D.nx [some v,some (.ref p1),some (.ref p2),some (.ref pa),some (.ref na),some pv,some (.ref ab)] H'')->ys3 K D [some v,some (.ref p1),some (.ref p2),some (.ref pa),some (.ref na),some pv,some (.ref ab)] H10:=by
       intro D ab H10 s10 hab qq
       refine Ad9 (x:=(pl,ns,.nd n ps)) rfl (s10 _ _ g2) (s10 _ _ k2) hab (Dv.same s10 _ _ k4) (d4.tupK s10.tupK) (by show pl.length+ps.length+ws'.length<=90000;omega) fun r us2 H11 s11 hr hus w3=>?_
       have s911:=A6.tr s10 s11
       exact qq r _ us2 (done++[(pl,ns,.nd n ps)]) _ H11 (A6.tr s9 s911) (qz5 (A6.tr s9 s10) hr) (N2 (s10 _ _ g3) hr) (s911 _ _ g3) hus (d1.tupK s911.tupK) w3 (by rw[<-e];simp[Tr.kids]) (by simp)
      refine⟨D5 (by z_go),fun e9 he9=>?_⟩
      have s10:=A6.new he9 (.tup [])
      refine wx4 (d:=.tuple (qa8 pl)) (e:=.tuple []) (C3.mpr ⟨pa,_,rfl,SqT.of (s10 _ _ k2),N7.mpr rfl⟩) (C3.mpr ⟨e9,[],rfl,SqT.of A7,E6⟩) (Nat.le_trans (Nat.min_le_right _ _) (by decide)) ?_
      rw[wg9]
      generalize upd H9 e9 (.tup [])=H10 at *
      lk
      by_cases hpl0:pl=[]
      ·have e0:(!pl.isEmpty)=false:=by rw[hpl0];rfl
       rw[e0]
       k_go
       lk
       exact fin _ na H10 s10 (by rw[s10 _ _ k3];unfold abv;rw[if_pos hpl0]) fun p2 us' ws done stk H'' h1 h2 h3 h4 h5 h6 h7 h8 h9=>⟨p2,_,_,_,_,us',ws,done,stk,rfl,h1,h2,h3,h4,h5,h6,h7,h8,h9⟩
      ·have e0:(!pl.isEmpty)=true:=by cases pl with|nil=>exact absurd rfl hpl0|cons _ _=>rfl
       rw[e0]
       x_go
       obtain⟨ta,tb,us3,rfl,hta,htb,hd3⟩:=U8 k4
       lk
       refine G7 (s10.sqT hta) (v:=.str n) (D8 (j:=0) rfl) ?_
       lk
       refine⟨D5 (by z_go),fun c9 hc9=>?_⟩
       have s11:=A6.new hc9 (.tup [.str n])
       refine yk2 (s11 _ _ (s10 _ _ k3)) A7 (by rw[G8];exact D5 (by show ns.length+1<=_;omega)) fun ab H12 s12 hab=>?_
       lk
       refine fin _ ab H12 (A6.tr s10 (A6.tr s11 s12)) (by rw[hab];unfold abv;rw[if_neg hpl0,<-U7];rfl) fun p2 us' ws done stk H'' h1 h2 h3 h4 h5 h6 h7 h8 h9=>⟨p2,_,_,_,_,us',ws,done,stk,rfl,h1,h2,h3,h4,h5,h6,h7,h8,h9⟩
def Hst(n:Nat)(kvs:List (Key×V)):Prop:=∀ kv∈kvs,∃ j:Int,kv.2=.int j/\0<=j/\j<n
theorem qx5{n:Nat}:∀ {kvs:List (Key×V)},Hst n kvs->∃ js:List Int,kvs.map (·.2)=js.map V.int
 | [],_=>⟨[],rfl⟩
 | kv::kvs,h=>by
   obtain⟨j,e,_⟩:=h kv (by simp)
   obtain⟨js,e2⟩:=qx5 (kvs:=kvs) fun x hx=>h x (by simp[hx])
   exact⟨j::js,by rw[List.map_cons,List.map_cons,e,e2]⟩
def HS(n:Nat)(ss:List Str)(i:Nat)(kvs:List (Key×V)):Prop:=(∀ kv∈kvs,∃ (k:Nat) (j:Int),kv=(.inl (k:Int),.int j)/\0<=j/\j<n/\k<i/\ss[k]?=some ("frame":Str))/\(kvs.map (·.2)).Nodup
variable{kvs:List (Key×V)}{ss:List Str}
theorem HS.hst(h:HS n ss i kvs):Hst n kvs:=fun kv hm=>by obtain⟨k,j,rfl,h0,h1,_⟩:=h.1 kv hm;exact⟨j,rfl,h0,h1⟩
theorem HS.mono(h:HS n ss i kvs):HS n ss (i+1) kvs:=⟨fun kv hm=>by obtain⟨k,j,e,h0,h1,h2,h3⟩:=h.1 kv hm;exact⟨k,j,e,h0,h1,by omega,h3⟩,h.2⟩
theorem HS.set(h:HS n ss i kvs)(x:Str):HS n (ss.set i x) (i+1) kvs:=⟨fun kv hm=>by obtain⟨k,j,e,h0,h1,h2,h3⟩:=h.1 kv hm;exact⟨k,j,e,h0,h1,by omega,by rw[List.getElem?_set_ne (by omega)];exact h3⟩,h.2⟩
theorem HS.put(h:HS n ss i kvs)(h0:0<=j)(h1:j<n)(hs:ss[i]?=some ("frame":Str))(hn:V.int j∉kvs.map (·.2)):HS n ss (i+1) (qb4 kvs (.inl (i:Int)) (.int j)):=by
 have hv:S6 kvs (.inl (i:Int))=none:=by
  unfold S6
  rw[Option.map_eq_none_iff,List.find?_eq_none]
  intro kv hm
  obtain⟨k,j',rfl,_,_,h2,_⟩:=h.1 kv hm
  simp
  omega
 rw[za9 _ hv]
 refine⟨fun kv hm=>?_,?_⟩
 ·rcases List.mem_append.mp hm with hm|hm
  ·exact h.mono.1 kv hm
  ·rw[List.mem_singleton.mp hm];exact⟨i,j,rfl,h0,h1,by omega,hs⟩
 ·rw[List.map_append,List.nodup_append]
  refine⟨h.2,by simp,?_⟩
  intro a ha b hb
  rw[List.mem_singleton.mp hb]
  rintro rfl
  exact hn ha
theorem zr5{k:Key}(h:Hst n kvs)(e:S6 kvs k=some v):∃ j:Int,v=.int j/\0<=j/\j<n:=by
 unfold S6 at e
 obtain⟨kv,hf,rfl⟩:=Option.map_eq_some_iff.mp e
 exact h kv (List.mem_of_find?_eq_some hf)
abbrev xc2(K:Fg):TS :=
 (E4 (tOp (I9 K) (Y8 (A2 (tC (.str "room")) (A2 (tC (.str "plain")) B0))) (tCB wx0 (A2 (yk1 false (A4 5) (A4 4)) B0))) (yu1 (A4 3) (A4 5) xq5))
abbrev xc3(K:Fg):TS :=
 (E4 (tOp (I9 K) (A4 6) (C2 (D0 K) [] E0 (A2 (A4 0) (A2 (tCB (P6 K) (A2 (A4 6) B0)) B0)))) (yu1 (A4 4) (A4 5) xq5))
abbrev xc4(K:Fg):TS :=
 (C1 (E4 (Y4 [some 3,some 4,none] (yz8 (A2 (tOp (Y5 K) (A4 5) (tC (.int 1))) (A2 (A4 1) B0))) (B3 2) (wa6 (D6 (tOp (wd5 K false) (tOp (I9 K) (A4 0) (A4 2)) (M6 (A2 (tC (.str "plain")) (A2 (tC (.str "frame")) B0))))) (D6 (yk1 true (A4 2) (A4 1)))) (A4 2)) (B3 6))
 (M3 (D6 (tOp (Q7 K) (A4 6) (Y8 B0)))
 (xc2 K) (xc3 K)))
def zi0(K:Fg):TS :=
 (M3 (D6 (tOp (Q7 K) (tOp (I9 K) (A4 3) (A4 5)) (tC (.str "frame"))))
 (xc4 K) E8)
variable{a6:Option V}
theorem yz0{hb kd:Addr}{k:Nat}(hk:k<n)(hn:n<=16)(dk:Dk H d)(hsa:H sa=some (.lst (D4 ss)))(hl:ss.length=n)(hss:∀ s∈ss,s.length<=8/\s≠("":Str))(nsa:sa≠d)(hhb:H hb=some (.dK kvs))(hh:HS n ss k kvs)(hkl:kvs.length<=k)(q:∀ (H':Hp) (ss:List Str) (kvs:List (Key×V)) (a6:Option V),But [d,sa,hb] H H'->Dk H' d->H' sa=some (.lst (D4 ss))->ss.length=n->(∀ s∈ss,s.length<=8/\s≠("":Str))->H' hb=some (.dK kvs)->HS n ss (k+1) kvs->kvs.length<=k+1->D.nx [some (.ref d),some (.int n),some (.ref kd),some (.ref sa),some (.ref hb),some (.int k),a6] H') :
 zi0 K D [some (.ref d),some (.int n),some (.ref kd),some (.ref sa),some (.ref hb),some (.int k),a6] H:=by
 have nhb:hb≠d:=fun e=>by obtain⟨ns,h,_⟩:=dk;rw[<-e,hhb] at h;cases h
 have nsh:sa≠hb:=fun e=>by rw[e,hhb] at hsa;cases hsa
 unfold zi0
 lk
 refine S5 (SqL.of hsa) (D8 (X8 (by omega))) ?_
 lk
 by_cases ef:ss[k]=("frame":Str)
 ·rw [decide_eq_true ef];refine V9 ?_
  lk
  refine yw4 (lo:=(k:Int)+1) (hi:=n) (by omega) (by omega) (by omega) (fun i ys H'=>A6 H H'/\∃ fs:List Int,ys=E9 fs/\fs.length<=i/\∀ x∈fs,0<=x/\x<n/\V.int x∉kvs.map (·.2)) ⟨fun _ _ e=>e,[],rfl,by simp,by simp⟩ ?_ ?_ ?_
  ·rintro i ys H' hi ⟨_,fs,rfl,hf,_⟩
   rw[M5];exact D5 (by omega)
  ·rintro i ys H' hi ⟨s1,fs,rfl,hf,hr⟩
   have e1:(k:Int)+1+i=((k+1+i:Nat):Int):=by omega
   rw[e1]
   have hsa':=s1 _ _ hsa
   have hhb':=s1 _ _ hhb
   lk
   refine S5 (SqL.of hsa') (D8 (X8 (by omega))) ?_
   lk
   refine⟨D5 (by z_go),fun t ht=>?_⟩
   refine .inl (yj4 (xs:=D4 [("plain":Str),("frame":Str)]) (.inr (SqT.of A7)) rfl (qe3 _) ?_)
   rw[qk7]
   lk
   have s2:=A6.tr s1 (A6.new ht (.tup (D4 [("plain":Str),("frame":Str)])))
   have no:∃ fs':List Int,E9 fs=E9 fs'/\fs'.length<=i+1/\∀ x∈fs',0<=x/\x<n/\V.int x∉kvs.map (·.2):=⟨fs,rfl,by omega,hr⟩
   by_cases hin:ss[k+1+i]∈[("plain":Str),("frame":Str)]
   ·rw [decide_eq_true hin];refine V9 ?_
    lk
    obtain⟨js,ej⟩:=qx5 hh.hst
    refine⟨_,hb,kvs,js,rfl,rfl,by rw[C6 (N2 hhb' ht)];exact hhb',ej,?_⟩
    generalize hcc:(if true=true then !decide (((k+1+i:Nat):Int)∈js) else decide (((k+1+i:Nat):Int)∈js))=c
    lk
    cases c with
    | true =>
      x_go
      lk
      refine⟨s2,fs++[((k+1+i:Nat):Int)],qx0 _ _,by simp;omega,fun x hx=>?_⟩
      rcases List.mem_append.mp hx with h|h
      ·exact hr x h
      ·rw[List.mem_singleton.mp h]
       refine⟨by omega,by omega,?_⟩
       rw[ej]
       intro hm
       obtain⟨y,hy,e⟩:=List.mem_map.mp hm
       injection e with e
       rw[if_pos rfl] at hcc
       rw[<-e,decide_eq_true hy] at hcc
       cases hcc
    | false =>
      k_go
      exact⟨s2,no⟩
   ·rw[decide_eq_false hin];refine S7 ?_
    k_go
    exact⟨s2,no⟩
  ·rintro ys H' ⟨s1,fs,rfl,hf,hr⟩ p hp
   lk
   have s2:A6 H (upd H' p (.lst (E9 fs))):=A6.tr s1 (A6.new hp _)
   refine⟨D5 (by z_go),fun e he=>?_⟩
   have hp2:(upd (upd H' p (.lst (E9 fs))) e (.lst [])) p=some (.lst (E9 fs)):=by rw[C6 (N2 A7 he)];exact A7
   refine Ak2 (ds:=qa8 fs) (P5.mpr ⟨p,_,rfl,SqL.of hp2,N7.mpr rfl⟩) A7 ?_
   have s3:A6 H (upd (upd H' p (.lst (E9 fs))) e (.lst [])):=A6.tr s2 (A6.new he _)
   generalize (upd (upd H' p (.lst (E9 fs))) e (.lst []))=H3 at *
   have hsa3:=s3 _ _ hsa
   have hhb3:=s3 _ _ hhb
   have dk3:=dk.same s3
   lk
   cases fs with
   | nil =>
     x_go
     lk
     refine⟨D5 (by z_go),fun t ht=>?_⟩
     lk
     have hhb4:(upd H3 t (.lst [.str "room",.str "plain"])) hb=some (.dK kvs):=by rw[C6 (N2 hhb3 ht)];exact hhb3
     obtain⟨js,ej⟩:=qx5 hh.hst
     refine⟨_,hb,kvs,js,rfl,rfl,hhb4,ej,?_⟩
     generalize (if false=true then !decide ((k:Int)∈js) else decide ((k:Int)∈js))=c
     lk
     have s4:=A6.tr s3 (A6.new ht (.lst [.str "room",.str "plain"]))
     have ht4:(upd H3 t (.lst [.str "room",.str "plain"])) t=some (.lst [.str "room",.str "plain"]):=A7
     generalize (upd H3 t (.lst [.str "room",.str "plain"]))=H4 at *
     refine .inr ⟨c,rfl,?_⟩
     have fin:∀ x:Str,x.length<=8/\x≠("":Str)->xq5 (.ref sa) (.int k) (.str x) H4 (fun H1=>D.nx [some (.ref d),some (.int n),some (.ref kd),some (.ref sa),some (.ref hb),some (.int k),some (.ref p)] H1):=fun x hx=>by
      refine .inl (zd3 (s4 _ _ hsa) (j:=k) (by unfold ixN;rw[if_pos (by omega),if_pos (by rw[G8];omega)];simp) ?_)
      have es:(D4 ss).set k (.str x)=D4 (ss.set k x):=by unfold D4;rw[List.map_set]
      rw[es]
      refine q _ (ss.set k x) kvs _ (fun b o e n=>?_) ((dk.same s4).put nsa _) A7 (by rw[List.length_set];exact hl) (fun s hs=>?_) (by rw[C6 (Ne.symm nsh)];exact s4 _ _ hhb) (hh.set x) (by omega)
      ·rw[C6 (fun z=>n (by simp[z]))];exact s4 _ _ e
      ·rcases List.mem_or_eq_of_mem_set hs with h|h
       ·exact hss s h
       ·rw[h];exact hx
     cases c with
     | true =>
       refine S5 (SqL.of ht4) (v:=.str "plain") (D8 (j:=1) rfl) ?_
       lk
       exact fin _ (by decide)
     | false =>
       refine S5 (SqL.of ht4) (v:=.str "room") (D8 (j:=0) rfl) ?_
       lk
       exact fin _ (by decide)
   | cons f0 fr =>
     k_go
     lk
     refine O1 (.inl (SqL.of hp2)) ?_
     rw[M5]
     lk
     refine⟨d,((f0::fr).length:Int),rfl,by rw[List.length_cons];omega,by omega,dk3,fun m H5 m0 m1 mv=>?_⟩
     lk
     have np:p≠d:=dk.ne (qz5 s1 hp)
     have hm:m.toNat<(f0::fr).length:=by omega
     refine S5 (SqL.of (mv.at hp2 np)) (v:=.int (f0::fr)[m.toNat]) (ixI m0 (zq5 hm)) ?_
     lk
     have hr':=hr _ (List.getElem_mem hm)
     refine .inr ⟨hb,_,rfl,ya7.k (k:=.inl (k:Int)) (mv.at hhb3 nhb) (by rw[sizeLine_eq];omega),?_⟩
     refine q _ ss _ _ (fun b o e n=>?_) (mv.dk.put nhb _) (by rw[C6 nsh];exact mv.at hsa3 nsa) hl hss A7 (hh.put hr'.1 hr'.2.1 (by rw[List.getElem?_eq_getElem (by omega),ef]) hr'.2.2) ?_
     ·rw[C6 (fun z=>n (by simp[z]))];exact mv.at (s3 _ _ e) (fun z=>n (by simp[z]))
     ·have:=qv6 kvs (.inl (k:Int)) (V.int (f0::fr)[m.toNat]);omega
 ·rw[decide_eq_false ef];refine S7 ?_
  exact q H ss kvs _ (fun _ _ e _=>e) dk hsa hl hss hhb hh.mono (by omega)
abbrev xc5(K:Fg):TS :=
 (C1 (qh9 (qh7 (A2 (A4 1) B0)) (B3 5)
 (zi0 K))
 (G9 (M6 (A2 (A4 3) (A2 (A4 4) B0)))))
abbrev xc6(K:Fg):TS :=
 (C1 (E4 (Y4 [some 2,some 0,none] (qh7 (A2 (A4 1) B0)) (B3 2) tTT (tOp (I9 K) (A4 0) (C2 (D0 K) [] E0 (A2 (A4 1) (A2 (tC (.int 8)) B0))))) (B3 3))
 (C1 (E4 zb3 (B3 4))
 (xc5 K)))
def qf7(K:Fg):Sp:=fun vs H Q _=>∃ (d:Addr) (n:Nat),vs=[.ref d,.int n]/\1<=n/\n<=16/\Dk H d/\∀ (r sa hb:Addr) (ss:List Str) (kvs:List (Key×V)) (H':Hp),Mv d H H'->H' r=some (.tup [.ref sa,.ref hb])->H' sa=some (.lst (D4 ss))->sa≠d->ss.length=n->(∀ s∈ss,s.length<=8/\s≠("":Str))->H' hb=some (.dK kvs)->HS n ss n kvs->Q (.ref r) H'
def qi8(K:Fg):TS :=
 (C1 (E4 (Y8 (yb3 [("plain":Str),("anew":Str),("plain":Str),("frame":Str),("room":Str),("bare":Str),("plain":Str),("anew":Str)])) (B3 2))
 (xc6 K))
theorem xk7(h:qf7 K vs H Q E):qi8 K {nx:=fun _ H'=>Q .non H',rt:=Q} (J0 ["_law_deck","_law_count","_law_kinds","_law_sorts_here","_law_hosts","_law_k","_law_free"] vs) H:=by
 obtain⟨d,n,rfl,h1,h2,dk,q⟩:=h
 show qi8 K _ [some (.ref d),some (.int n),none,none,none,none,none] H
 unfold qi8
 lk
 refine⟨D5 (by simp[D4]),fun kd hkd=>?_⟩
 lk
 generalize hks:[("plain":Str),("anew":Str),("plain":Str),("frame":Str),("room":Str),("bare":Str),("plain":Str),("anew":Str)]=ks
 have hkl:ks.length=8:=by rw[<-hks];rfl
 have hk8:∀ s∈ks,s.length<=8/\s≠("":Str):=by rw[<-hks];decide
 have nkd:=dk.ne hkd
 have m0:Mv d H (upd H kd (.lst (D4 ks))):=Mv.new (Mv.refl dk) hkd _
 have hk0:(upd H kd (.lst (D4 ks))) kd=some (.lst (D4 ks)):=A7
 generalize upd H kd (.lst (D4 ks))=H1 at *
 refine qp3 (by omega) (by omega) (fun i ys H'=>Mv d H1 H'/\∃ ss:List Str,ys=D4 ss/\ss.length=i/\∀ s∈ss,s.length<=8/\s≠("":Str)) ⟨Mv.refl m0.dk,[],rfl,rfl,by simp⟩ ?_ ?_ ?_
 ·rintro i ys H' hi ⟨_,ss,rfl,hl,_⟩
  rw[G8];exact D5 (by omega)
 ·rintro i ys H' hi ⟨mv,ss,rfl,hl,hs⟩
  lk
  refine⟨d,8,rfl,by decide,by decide,mv.dk,fun m H2 a0 a1 mv2=>?_⟩
  have hm:m.toNat<ks.length:=by omega
  refine S5 (SqL.of (mv2.at (mv.at hk0 nkd) nkd)) (ixI a0 (X8 hm)) ?_
  refine⟨mv.tr mv2,ss++[ks[m.toNat]],U7 _ _,by simp[hl],fun s hs'=>?_⟩
  rcases List.mem_append.mp hs' with h|h
  ·exact hs s h
  ·rw[List.mem_singleton.mp h];exact hk8 _ (List.getElem_mem hm)
 ·rintro ys H' ⟨mv,ss,rfl,hl,hs⟩ sa hsa
  lk
  intro hb hhb
  lk
  have mvA:Mv d H (upd (upd H' sa (.lst (D4 ss))) hb (.dK [])):=((m0.tr mv).new hsa _).new hhb _
  have nsa:sa≠d:=(m0.tr mv).dk.ne hsa
  have nsa0:H sa=none:=wv0 (m0.tr mv) dk hsa
  have nhb0:H hb=none:=wv0 ((m0.tr mv).new hsa _) dk hhb
  have hA1:(upd (upd H' sa (.lst (D4 ss))) hb (.dK [])) sa=some (.lst (D4 ss)):=by rw[C6 (N2 A7 hhb)];exact A7
  have hA2:(upd (upd H' sa (.lst (D4 ss))) hb (.dK [])) hb=some (.dK []):=A7
  generalize (upd (upd H' sa (.lst (D4 ss))) hb (.dK []))=HA at *
  refine qg8 (by omega) (by omega) (fun i σ H'=>∃ (ss:List Str) (kvs:List (Key×V)) (a5 a6:Option V),σ=[some (.ref d),some (.int n),some (.ref kd),some (.ref sa),some (.ref hb),a5,a6]/\Mv d H H'/\H' sa=some (.lst (D4 ss))/\ss.length=n/\(∀ s∈ss,s.length<=8/\s≠("":Str))/\H' hb=some (.dK kvs)/\HS n ss i kvs/\kvs.length<=i) ⟨ss,[],_,_,rfl,mvA,hA1,by omega,hs,hA2,⟨(fun _ h=>by cases h),List.nodup_nil⟩,by simp⟩ ?_ ?_
  ·rintro i σ H' hi ⟨ss,kvs,a5,a6,rfl,mv,b1,b2,b3,b4,b5,b6⟩
   lk
   refine yz0 (by omega) h2 mv.dk b1 b2 b3 nsa b4 b5 b6 fun H2 ss kvs a6 bt dk2 c1 c2 c3 c4 c5 c6=>?_
   refine⟨ss,kvs,_,_,rfl,⟨fun c o e nc=>?_,dk2⟩,c1,c2,c3,c4,c5,c6⟩
   refine bt c o (mv.but c o e nc) ?_
   simp at nc ⊢
   exact⟨nc,N2 e nsa0,N2 e nhb0⟩
  ·rintro σ H' ⟨ss,kvs,a5,a6,rfl,mv,b1,b2,b3,b4,b5,b6⟩
   lk
   refine⟨D5 (by z_go),fun r hr=>?_⟩
   exact q r sa hb ss kvs _ (mv.new hr _) A7 (by rw[C6 (N2 b1 hr)];exact b1) nsa b2 b3 (by rw[C6 (N2 b4 hr)];exact b4) (by rw[show((n:Int)).toNat=n by omega] at b5;exact b5)
abbrev xk8(K:Fg):TS :=
 (M3 (D6 (tOp (Q7 K) (C2 (D0 K) [] E0 (A2 (A4 0) (A2 (tC (.int 4)) B0))) (tC (.int 1))))
 (qh6 (tBM K "list" X6 (A4 2) (A2 (A4 3) B0))) E8)
abbrev xk9(K:Fg):TS :=
 (C1 (qh9 (qi1 K (A4 1)) (B3 3)
 (xk8 K))
 (G9 (tCB (qm1 K) (A2 (tCB (yb0 K) (A2 (A4 2) B0)) B0))))
def qc7(K:Fg):Sp:=fun vs H Q _=>∃ (d a:Addr) (xs:List Str),vs=[.ref d,.ref a]/\Dk H d/\H a=some (.lst (D4 xs))/\a≠d/\xs.length<=40/\∀ (t:Addr) (ys:List Str) (H':Hp),Mv d H H'->H' t=some (.tup (D4 ys))->(∀ y∈ys,y∈xs)->ys.length<=xs.length->Q (.ref t) H'
def qn0(K:Fg):TS :=
 (C1 (E4 (Y8 B0) (B3 2))
 (xk9 K))
theorem xx1(h:qc7 K vs H Q E):qn0 K {nx:=fun _ H'=>Q .non H',rt:=Q} (J0 ["_law_deck","_law_names","_law_some_here","_law_name_here"] vs) H:=by
 obtain⟨d,a,xs,rfl,dk,ha,na,hx,q⟩:=h
 show qn0 K _ [some (.ref d),some (.ref a),none,none] H
 unfold qn0
 lk
 refine⟨D5 (by z_go),fun p hp=>?_⟩
 lk
 have np:p≠d:=dk.ne hp
 have npa:a≠p:=N2 ha hp
 refine zc6 (xs:=D4 xs) (SqL.of (by rw[C6 npa];exact ha)) (fun i σ H'=>∃ (w:Option V) (ys:List Str),σ=[some (.ref d),some (.ref a),some (.ref p),w]/\Mv d H H'/\H' p=some (.lst (D4 ys))/\(∀ y∈ys,y∈xs)/\ys.length<=i) ⟨_,[],rfl,Mv.new (Mv.refl dk) hp _,A7,by simp,by simp⟩ ?_ ?_ ?_
 ·rintro i σ H' hi ⟨w,ys,rfl,mv,_⟩
  exact SqL.of (mv.at ha na)
 ·rintro i x σ H' hx' ⟨w,ys,rfl,mv,h1,h2,h3⟩
  obtain⟨y,hy,rfl⟩:=qx1 hx'
  have hi:i<xs.length:=(List.getElem?_eq_some_iff.mp hy).1
  lk
  refine⟨d,4,rfl,by decide,by decide,mv.dk,fun m H2 a0 a1 mv2=>?_⟩
  lk
  have mv3:=mv.tr mv2
  have h4:=mv2.at h1 np
  by_cases e:m=1
  ·rw[decide_eq_true e];refine V9 ?_
   lk
   refine⟨.inl ⟨rfl,_,SqL.of h4⟩,?_⟩
   lk
   refine W6 h4 (by rw[G8,sizeLine_eq];omega) ?_
   refine⟨_,ys++[y],rfl,mv3.put dk hp _,by rw[A7,U7],fun z hz=>?_,by simp;omega⟩
   rcases List.mem_append.mp hz with h|h
   ·exact h2 z h
   ·rw[List.mem_singleton.mp h];exact List.mem_of_getElem? hy
  ·rw[decide_eq_false e];refine S7 ?_
   exact⟨_,ys,rfl,mv3,h4,h2,by omega⟩
 ·rintro σ H' ⟨w,ys,rfl,mv,h1,h2,h3⟩
  rw[G8] at h3
  lk
  refine⟨p,ys,rfl,SqL.of h1,by omega,fun l ys' hperm _ hl=>?_⟩
  lk
  refine⟨l,_,rfl,.inl ⟨SqL.of A7,fun t ht=>?_⟩⟩
  exact q t ys' _ ((mv.new hl _).new ht _) A7 (fun y hy=>h2 y (hperm.mem_iff.mp hy)) (by rw[hperm.length_eq];exact h3)
abbrev xl1(K:Fg):TS :=
 (qh6 (tBM K "list" xt9 (A4 9) (A2 (C2 (D0 K) [] E0 (A2 (A4 0) (A2 (tOp (Y5 K) (tCB (P6 K) (A2 (A4 9) B0)) (tC (.int 1))) B0))) (A2 (A4 13) B0))))
def zi1(K:Fg):TS :=
 (C1 (E4 (M6 (A2 (tOp (I9 K) (A4 6) (A4 10)) (A2 (tOp (I9 K) (A4 4) (A4 10)) (A2 (A4 12) (A2 (A4 11) (A2 (C2 (qc7 K) [] E0 (A2 (A4 0) (A2 (Y4 [some 6,none] (qi1 K (A4 7)) (B3 1) tTT (tOp (I9 K) (A4 0) (A4 1))) B0))) B0)))))) (B3 13))
 (xl1 K))
abbrev xl2(K:Fg):TS :=
 (C1 (M3 (D6 (tOp (wd5 K false) (A4 10) (A4 5)))
 (E4 (tOp (I9 K) (A4 6) (zb0 (A4 5) (A4 10))) (B3 12)) E8)
 (zi1 K))
def zi2(K:Fg):TS :=
 (C1 (E4 (tC (.str "")) (B3 12))
 (xl2 K))
def hF(c:Int)(kvs:List (Key×V))(k:Nat):Str:=match S6 kvs (.inl (k:Int)) with|some (.int j)=>W8 c j|_=>("":Str)
def Rwk(c:Int)(ss:List Str)(kvs:List (Key×V))(i:Nat)(rs:List Row):Prop:=∃ ks:List Nat,ks.Nodup/\(∀ k∈ks,k<i)/\rs.map (·.name)=ks.map (fun k:Nat=>W8 c (k:Int))/\rs.map (·.sort)=ks.map (fun k=>ss.getD k ("":Str))/\rs.map (·.host)=ks.map (hF c kvs)
theorem Rwk.ins{c:Int}{ss:List Str}{kvs:List (Key×V)}{k:Nat}{rs:List Row}(h:Rwk c ss kvs k rs){r:Row}(x:Nat)(hn:r.name=W8 c (k:Int))(hs:r.sort=ss.getD k ("":Str))(hh:r.host=hF c kvs k):Rwk c ss kvs (k+1) (Y6 rs x r):=by
 obtain⟨ks,h1,h2,h3,h4,h5⟩:=h
 have hp:(Y6 ks x k).Perm (k::ks):=by
  unfold Y6
  have:=(List.perm_middle (a:=k) (l₁:=ks.take x) (l₂:=ks.drop x))
  rwa [List.take_append_drop] at this
 refine⟨Y6 ks x k,?_,fun y hy=>?_,?_,?_,?_⟩
 ·rw[hp.nodup_iff,List.nodup_cons]
  exact⟨fun z=>by have:=h2 k z;omega,h1⟩
 ·rcases yy7 hy with rfl|h
  ·omega
  ·have:=h2 y h;omega
 ·rw[qe4,qe4,h3,hn]
 ·rw[qe4,qe4,h4,hs]
 ·rw[qe4,qe4,h5,hh]
theorem HS.val(h:HS n ss i kvs){k:Nat}(e:S6 kvs (.inl (k:Int))=some v):∃ j:Int,v=.int j/\0<=j/\j<n/\ss[k]?=some ("frame":Str)/\((.inl (k:Int),.int j):Key×V)∈kvs:=by
 unfold S6 at e
 obtain⟨kv,hf,rfl⟩:=Option.map_eq_some_iff.mp e
 have hm:=List.mem_of_find?_eq_some hf
 obtain⟨k',j,rfl,h0,h1,h2,h3⟩:=h.1 kv hm
 have:=List.find?_some hf
 have:k'=k:=by simp at this;omega
 subst this
 exact⟨j,rfl,h0,h1,h3,hm⟩
theorem yz1(h:(kvs.map (·.2)).Nodup){a b:Key×V}(ha:a∈kvs)(hb:b∈kvs)(e:a.2=b.2):a=b:=by
 induction kvs with
 | nil=>cases ha
 | cons x l ih =>
   rw[List.map_cons,List.nodup_cons] at h
   rcases List.mem_cons.mp ha with rfl|ha' <;> rcases List.mem_cons.mp hb with rfl|hb'
   ·rfl
   ·exact absurd (e▸List.mem_map_of_mem hb') h.1
   ·exact absurd (e▸List.mem_map_of_mem ha') h.1
   ·exact ih h.2 ha' hb'
theorem Ae0(h:HS n ss i kvs)(n8:n<=8){a b:Nat}(e:hF c kvs a=hF c kvs b)(hne:hF c kvs a≠("":Str)):a=b:=by
 have key:∀ k,hF c kvs k≠("":Str)->∃ j:Int,hF c kvs k=W8 c j/\0<=j/\j<n/\((.inl (k:Int),.int j):Key×V)∈kvs:=by
  intro k hk
  unfold hF at hk ⊢
  cases ev:S6 kvs (.inl (k:Int)) with
  | none=>rw[ev] at hk;exact absurd rfl hk
  | some v =>
    obtain⟨j,rfl,h0,h1,_,hm⟩:=h.val ev
    exact⟨j,rfl,h0,h1,hm⟩
 obtain⟨j1,e1,a0,a1,m1⟩:=key a hne
 obtain⟨j2,e2,b0,b1,m2⟩:=key b (e▸hne)
 have:j1=j2:=yy8 a0 (by omega) b0 (by omega) (by rw[<-e1,<-e2];exact e)
 subst this
 have:=yz1 h.2 m1 m2 rfl
 injection this with h1 _
 have:=Sum.inl.inj h1
 omega
theorem yf0{α:Type}[DecidableEq α](f:Nat->α)(x:α):∀ ks:List Nat,ks.Nodup->(∀ a∈ks,∀ b∈ks,f a=x->f b=x->a=b)->((ks.map f).filter fun y=>decide (y=x)).length<=1
 | [],_,_=>by simp
 | k :: ks,h,hi=>by
   rw[List.nodup_cons] at h
   rw[List.map_cons,List.filter_cons]
   by_cases e:f k=x
   ·rw[if_pos (decide_eq_true e),List.length_cons]
    have:((ks.map f).filter fun y=>decide (y=x))=[]:=by
     rw[List.filter_eq_nil_iff]
     intro y hy
     obtain⟨k',hk',rfl⟩:=List.mem_map.mp hy
     intro z
     have z:=of_decide_eq_true z
     exact h.1 (hi k (by simp) k' (by simp[hk']) e z▸hk')
    rw[this];simp
   ·rw[if_neg (by simpa using e)]
    exact yf0 f x ks h.2 fun a ha b hb=>hi a (by simp[ha]) b (by simp[hb])
theorem Rwk.bks(h:Rwk c ss kvs n rs)(hs:HS n ss n kvs)(hss:∀ s∈ss,s.length<=8/\s≠("":Str))(hl:ss.length=n)(n8:n<=8):BkS rs:=by
 obtain⟨ks,h1,h2,h3,h4,h5⟩:=h
 have at':∀ r∈rs,∃ k,k<n/\r.name=W8 c (k:Int)/\r.sort=ss.getD k ("":Str)/\r.host=hF c kvs k:=by
  intro r hr
  obtain⟨i,hi⟩:=List.mem_iff_getElem?.mp hr
  have a1:=congrArg (fun l=>l[i]?) h3
  have a2:=congrArg (fun l=>l[i]?) h4
  have a3:=congrArg (fun l=>l[i]?) h5
  simp only[List.getElem?_map,hi,Option.map_some] at a1 a2 a3
  cases ek:ks[i]? with
  | none=>rw[ek] at a1;cases a1
  | some k =>
    rw[ek] at a1 a2 a3
    exact⟨k,h2 k (List.mem_of_getElem? ek),Option.some.inj a1,Option.some.inj a2,Option.some.inj a3⟩
 refine⟨fun r hr=>?_,fun r hr=>?_,fun r hr hf=>?_,fun x hx=>?_⟩
 ·obtain⟨k,_,e,_⟩:=at' r hr
  rw[e];exact zh1 c _
 ·obtain⟨k,hk,_,e,_⟩:=at' r hr
  rw[e]
  have:ss.getD k ("":Str)=ss[k]:=by rw[List.getD_eq_getElem?_getD,List.getElem?_eq_getElem (by omega)];rfl
  rw[this];exact(hss _ (List.getElem_mem _)).2
 ·obtain⟨k,hk,_,e,e2⟩:=at' r hr
  rw[e2]
  unfold hF
  cases ev:S6 kvs (.inl (k:Int)) with
  | none=>rfl
  | some v =>
    obtain⟨j,rfl,_,_,h7,_⟩:=hs.val ev
    exfalso
    apply hf
    rw[e,List.getD_eq_getElem?_getD,h7];rfl
 ·have e:(rs.filter fun r=>decide (r.host=x)).length=((rs.map (·.host)).filter fun y=>decide (y=x)).length:=by
   rw[List.filter_map,List.length_map];rfl
  rw[e,h5]
  exact yf0 (hF c kvs) x ks h1 fun a _ b _ ea eb=>Ae0 hs n8 (ea.trans eb.symm) (by rw[ea];exact hx)
variable{sh:List Str}{sv:V}
section
variable{D:V0}{d sa hb nm sf my bk:Addr}{c m:Int}{n k:Nat}{ss names may:List Str}{soft:List Int}{kvs:List (Key×V)}{us:List V}{rs:List Row}{a11 a12 a13:Option V}
structure BkA(c:Int)(H:Hp)(d sa hb nm sf my bk:Addr)(n:Nat)(ss names may:List Str)(soft:List Int)(kvs:List (Key×V)):Prop where
 n16:n<=16
 hsa:H sa=some (.lst (D4 ss))
 lsa:ss.length=n
 hhb:H hb=some (.dK kvs)
 hst:HS n ss n kvs
 hnm:H nm=some (.lst (D4 names))
 lnm:names.length=n
 nle:names=(List.range n).map (fun k:Nat=>W8 c (k:Int))
 hsf:H sf=some (.lst (E9 soft))
 sfl:soft.length<=n
 sfr:∀ x∈soft,0<=x/\x<n
 hmy:H my=some (.lst (D4 may))
 mle:may.length<=n
 n1:sa∉[d,bk]
 n2:hb∉[d,bk]
 n3:nm∉[d,bk]
 n4:sf∉[d,bk]
 n5:my∉[d,bk]
theorem BkA.but(B:BkA c H d sa hb nm sf my bk n ss names may soft kvs)(t:But [d,bk] H H'):BkA c H' d sa hb nm sf my bk n ss names may soft kvs :=
 {B with hsa:=t _ _ B.hsa B.n1,hhb:=t _ _ B.hhb B.n2,hnm:=t _ _ B.hnm B.n3,hsf:=t _ _ B.hsf B.n4,hmy:=t _ _ B.hmy B.n5}
theorem zv4(B:BkA c H d sa hb nm sf my bk n ss names may soft kvs)(hk:k<n){h:k<names.length}:names[k]=W8 c (k:Int):=by
 have:=B.nle
 subst this
 simp
theorem Ak6(B:BkA c H d sa hb nm sf my bk n ss names may soft kvs)(hk:k<n){h:k<ss.length}:ss[k]=ss.getD k ("":Str):=by
 rw[List.getD_eq_getElem?_getD,List.getElem?_eq_getElem h];rfl
theorem zi3{host:Str}(B:BkA c H d sa hb nm sf my bk n ss names may soft kvs)(hk:k<n)(dk:Dk H d)(nbk:bk≠d)(hbk:H bk=some (.lst us))(dvs:Dvs K H (rs.map Row.da) us)(hrl:rs.length=k)(hro:Rwk c ss kvs k rs)(hho:host=hF c kvs k)(hsv:Dv K H (.tuple (sDa sh)) sv)(q:∀ (H':Hp) (us:List V) (rs:List Row) (a13:Option V),But [d,bk] H H'->Dk H' d->H' bk=some (.lst us)->Dvs K H' (rs.map Row.da) us->rs.length=k+1->Rwk c ss kvs (k+1) rs->D.nx [some (.ref d),some (.int c),some (.int m),some (.int n),some (.ref sa),some (.ref hb),some (.ref nm),some (.ref sf),some (.ref my),some (.ref bk),some (.int k),some sv,some (.str host),a13] H') :
 zi1 K D [some (.ref d),some (.int c),some (.int m),some (.int n),some (.ref sa),some (.ref hb),some (.ref nm),some (.ref sf),some (.ref my),some (.ref bk),some (.int k),some sv,some (.str host),a13] H:=by
 have n16:=B.n16
 have lnm:=B.lnm
 have lsa:=B.lsa
 have hul:us.length=k:=by have:=dvs.length;rw[List.length_map] at this;omega
 unfold zi1
 lk
 refine S5 (SqL.of B.hnm) (D8 (X8 (by omega))) ?_
 lk
 refine S5 (SqL.of B.hsa) (D8 (X8 (by omega))) ?_
 lk
 refine qe0 (xs:=E9 soft) (SqL.of B.hsf) (fun i ys H'=>H'=H/\∃ zs:List Str,ys=D4 zs/\zs.length=i) ⟨rfl,[],rfl,rfl⟩ ?_ ?_ ?_ ?_
 ·rintro i ys H' hi ⟨rfl,zs,rfl,hz⟩
  rw[M5] at hi
  have:=B.sfl
  rw[G8];exact D5 (by omega)
 ·rintro i ys H' hi ⟨rfl,_⟩
  exact SqL.of B.hsf
 ·rintro i x ys H' hx ⟨rfl,zs,rfl,hz⟩
  unfold E9 at hx
  rw[List.getElem?_map] at hx
  obtain⟨j,hj,rfl⟩:=Option.map_eq_some_iff.mp hx
  obtain⟨j0,j1⟩:=B.sfr j (List.mem_of_getElem? hj)
  lk
  refine S5 (SqL.of B.hnm) (ixI j0 (X8 (by omega))) ?_
  exact⟨rfl,zs++[_],U7 _ _,by simp[hz]⟩
 ·rintro ys H' ⟨rfl,zs,rfl,hz⟩ p hp
  rw[M5] at hz
  lk
  have s1:A6 H' (upd H' p (.lst (D4 zs))):=A6.new hp _
  have hsfl:=B.sfl
  refine⟨d,p,zs,rfl,dk.same s1,A7,dk.ne hp,by omega,fun t ys H2 mv ht hmem hle=>?_⟩
  lk
  have bt2:But [d,bk] H' H2:=But.tr (A6.two d bk s1) (Mv.two bk mv)
  have hbk2:H2 bk=some (.lst us):=mv.at (s1 _ _ hbk) nbk
  obtain⟨dl,hdl⟩:=dk.lst
  have tk2:qh4 H' H2:=But.two bt2 hdl hbk
  have hsv2:=Dv.tupK tk2 _ _ (by rw[L2.fix];exact P8 (f:=PyData.str) (fun x=>by rw[L2.fix]) sh) hsv
  have dvs2:=Dvs.tupK tk2 _ _ (P8 Row.fix rs) dvs
  refine⟨D5 (by z_go),fun r hr=>?_⟩
  lk
  have s3:A6 H2 (upd H2 r (.tup [.str names[k],.str ss[k],.str host,sv,.ref t])):=A6.new hr _
  have hbk3:=s3 _ _ hbk2
  have dk3:=mv.dk.same s3
  have bt3:But [d,bk] H' (upd H2 r (.tup [.str names[k],.str ss[k],.str host,sv,.ref t])):=But.tr bt2 (A6.two d bk s3)
  have drow:Dv K (upd H2 r (.tup [.str names[k],.str ss[k],.str host,sv,.ref t])) (Row.da ⟨names[k],ss[k],host,sh,ys⟩) (.ref r):=by
   unfold Row.da
   refine C3.mpr ⟨r,_,rfl,SqT.of A7,E1 (N6.mpr rfl) (E1 (N6.mpr rfl) (E1 (N6.mpr rfl) (E1 (Dv.same s3 _ _ hsv2) (E1 ?_ E6))))⟩
   exact C3.mpr ⟨t,_,rfl,SqT.of (s3 _ _ ht),V6.mpr rfl⟩
  have dvs3:=Dvs.same s3 _ _ dvs2
  generalize (upd H2 r (.tup [.str names[k],.str ss[k],.str host,sv,.ref t]))=H3 at *
  refine⟨.inl ⟨rfl,_,SqL.of hbk3⟩,?_⟩
  lk
  refine O1 (.inl (SqL.of hbk3)) ?_
  lk
  refine⟨d,(us.length:Int)+1,rfl,by omega,by omega,dk3,fun x H4 x0 x1 mv4=>?_⟩
  lk
  have hbk4:=mv4.at hbk3 nbk
  obtain⟨dl3,hdl3⟩:=dk3.lst
  have tk4:qh4 H3 H4:=mv4.tupK dk3
  refine zd4 hbk4 x0 (by omega) (by rw[sizeLine_eq];omega) ?_
  have hx:x.toNat<=us.length:=by omega
  refine q _ _ (Y6 rs x.toNat ⟨names[k],ss[k],host,sh,ys⟩) _ (But.tr (But.tr bt3 (Mv.two bk mv4)) (But.upd (by simp) _)) (mv4.dk.put nbk _) A7 ?_ (by rw[yy6 _ _ _ (by omega)];omega) (hro.ins _ (zv4 B hk) (Ak6 B hk) hho)
  ·rw[qe4]
   have tk5:qh4 H4 (upd H4 bk (.lst (Y6 us x.toNat (.ref r)))):=U6 hbk4
   refine zq7 (Dvs.tupK (tk4.trans tk5) _ _ (P8 Row.fix rs) dvs3) (Dv.tupK (tk4.trans tk5) _ _ (Row.fix _) drow) hx
theorem zi4(B:BkA c H d sa hb nm sf my bk n ss names may soft kvs)(hk:k<n)(dk:Dk H d)(nbk:bk≠d)(hbk:H bk=some (.lst us))(dvs:Dvs K H (rs.map Row.da) us)(hrl:rs.length=k)(hro:Rwk c ss kvs k rs)(hsv:Dv K H (.tuple (sDa sh)) sv)(q:∀ (H':Hp) (us:List V) (rs:List Row) (a12 a13:Option V),But [d,bk] H H'->Dk H' d->H' bk=some (.lst us)->Dvs K H' (rs.map Row.da) us->rs.length=k+1->Rwk c ss kvs (k+1) rs->D.nx [some (.ref d),some (.int c),some (.int m),some (.int n),some (.ref sa),some (.ref hb),some (.ref nm),some (.ref sf),some (.ref my),some (.ref bk),some (.int k),some sv,a12,a13] H') :
 zi2 K D [some (.ref d),some (.int c),some (.int m),some (.int n),some (.ref sa),some (.ref hb),some (.ref nm),some (.ref sf),some (.ref my),some (.ref bk),some (.int k),some sv,a12,a13] H:=by
 have lnm:=B.lnm
 unfold zi2
 lk
 refine .inr ⟨hb,_,rfl,wa8.k (k:=.inl (k:Int)) B.hhb,?_⟩
 lk
 cases e:S6 kvs (.inl (k:Int)) with
 | none =>
   k_go
   lk
   exact zi3 B hk dk nbk hbk dvs hrl hro (by unfold hF;rw[e]) hsv fun H' us rs a13 h1 h2 h3 h4 h5 h6=>q H' us rs _ a13 h1 h2 h3 h4 h5 h6
 | some v =>
   obtain⟨j,rfl,j0,j1⟩:=zr5 B.hst.hst e
   x_go
   lk
   refine⟨hb,_,rfl,by have:=wa8.k (k:=.inl (k:Int)) B.hhb;rw[e] at this;exact this,?_⟩
   refine S5 (SqL.of B.hnm) (ixI j0 (X8 (by omega))) ?_
   lk
   exact zi3 B hk dk nbk hbk dvs hrl hro (by unfold hF;rw[e,zv4 B (k:=j.toNat) (by omega)];show W8 c _=W8 c j;rw[show((j.toNat:Nat):Int)=j by omega]) hsv fun H' us rs a13 h1 h2 h3 h4 h5 h6=>q H' us rs _ a13 h1 h2 h3 h4 h5 h6
end
abbrev xl3(K:Fg):TS :=
 (C1 (M3 (D6 (yk1 true (A4 10) (A4 5)))
 (E4 (C2 (qc7 K) [] E0 (A2 (A4 0) (A2 (A4 8) B0))) (B3 11)) E8)
 (zi2 K))
abbrev xl4(K:Fg):TS :=
 (C1 (qh9 (qh7 (A2 (A4 3) B0)) (B3 10)
 (C1 (E4 (M6 B0) (B3 11))
 (xl3 K)))
 (G9 (tCB (qm1 K) (A2 (A4 9) B0))))
abbrev xl5(K:Fg):TS :=
 (C1 (E4 (Y4 [some 6,some 5,none] (qi1 K (A4 7)) (B3 2) (D6 (yk1 true (A4 2) (A4 1))) (tOp (I9 K) (A4 0) (A4 2))) (B3 8))
 (C1 (E4 (Y8 B0) (B3 9))
 (xl4 K)))
abbrev xl6(K:Fg):TS :=
 (C1 (E4 (Y4 [some 4,none] (qh7 (A2 (A4 3) B0)) (B3 1) (D6 (tOp (wd5 K false) (tOp (I9 K) (A4 0) (A4 1)) (M6 (A2 (tC (.str "plain")) (A2 (tC (.str "anew")) B0))))) (A4 1)) (B3 7))
 (xl5 K))
abbrev xl7(K:Fg):TS :=
 (C1 (E4 (Y4 [some 1,none] (qh7 (A2 (A4 3) B0)) (B3 1) tTT (C2 (qc0 K) [] E0 (A2 (A4 0) (A2 (A4 1) B0)))) (B3 6))
 (xl6 K))
abbrev xl8(K:Fg):TS :=
 (C1 (E4 (C2 (qf7 K) [] E0 (A2 (A4 0) (A2 (A4 3) B0))) (wj6 K 2 (R7 (B3 4) (R7 (B3 5) wj5))))
 (xl7 K))
def qi9(K:Fg):Sp:=fun vs H Q _=>∃ (d:Addr) (c m:Int),vs=[.ref d,.int c,.int m]/\0<m/\m<=8/\Dk H d/\∀ (t:Addr) (us:List V) (rs:List Row) (H':Hp),Mv d H H'->H' t=some (.tup us)->Dvs K H' (rs.map Row.da) us->1<=rs.length->rs.length<=8->BkS rs->Q (.ref t) H'
def qn1(K:Fg):TS :=
 (C1 (E4 (tOp (Y5 K) (tC (.int 1)) (C2 (D0 K) [] E0 (A2 (A4 0) (A2 (A4 2) B0)))) (B3 3))
 (xl8 K))
theorem xx2(h:qi9 K vs H Q E):qn1 K {nx:=fun _ H'=>Q .non H',rt:=Q} (J0 ["_law_deck","_law_code","_law_most","_law_count","_law_sorts_here","_law_hosts","_law_names","_law_soft","_law_may_shut","_law_book_here","_law_k","_law_shuts","_law_host","_law_row_here"] vs) H:=by
 obtain⟨d,c,m,rfl,h0,h1,dk,q⟩:=h
 show qn1 K _ [some (.ref d),some (.int c),some (.int m),none,none,none,none,none,none,none,none,none,none,none] H
 unfold qn1
 lk
 refine⟨d,m,rfl,h0,by omega,dk,fun x H1 x0 x1 mv1=>?_⟩
 lk
 obtain⟨n,hn,n1,n12⟩:∃ n:Nat,(1:Int)+x=n/\1<=n/\n<=8:=⟨(1+x).toNat,by omega,by omega,by omega⟩
 rw[hn]
 refine⟨d,n,rfl,n1,by omega,mv1.dk,fun r sa hb ss kvs H2 mv2 hr hsa nsa lsa hss hhb hst=>?_⟩
 refine⟨r,_,rfl,SqT.of hr,rfl,?_⟩
 refine⟨_,_,rfl,?_⟩
 lk
 refine⟨_,_,rfl,?_⟩
 lk
 refine⟨rfl,?_⟩
 have mvA:=mv1.tr mv2
 have nhb:hb≠d:=fun e=>by obtain⟨ns,h,_⟩:=mv2.dk;rw[<-e,hhb] at h;cases h
 lk
 refine qp3 (by omega) (by omega) (fun i ys H'=>H'=H2/\∃ zs:List Str,ys=D4 zs/\zs.length=i/\zs=(List.range i).map (fun k:Nat=>W8 c (k:Int))) ⟨rfl,[],rfl,rfl,rfl⟩ ?_ ?_ ?_
 ·rintro i ys H' hi ⟨rfl,zs,rfl,hz,_⟩
  rw[G8];exact D5 (by omega)
 ·rintro i ys H' hi ⟨rfl,zs,rfl,hz,h8⟩
  lk
  refine⟨c,i,rfl,?_⟩
  exact⟨rfl,zs++[W8 c (i:Int)],U7 _ _,by simp[hz],by rw[h8,List.range_succ,List.map_append];rfl⟩
 rintro ys H' ⟨rfl,names,rfl,lnm,nle⟩ nm hnm
 lk
 have s3:A6 H' (upd H' nm (.lst (D4 names))):=A6.new hnm _
 have hnm3:(upd H' nm (.lst (D4 names))) nm=some (.lst (D4 names)):=A7
 have nnm:nm≠d:=mv2.dk.ne hnm
 have hsa3:=s3 _ _ hsa
 have hhb3:=s3 _ _ hhb
 have mv3:=mvA.new hnm (.lst (D4 names))
 generalize (upd H' nm (.lst (D4 names)))=H3 at *
 refine qp3 (by omega) (by omega) (fun i ys H'=>A6 H3 H'/\∃ zs:List Int,ys=E9 zs/\zs.length<=i/\∀ z∈zs,0<=z/\z<n) ⟨fun _ _ e=>e,[],rfl,by simp,by simp⟩ ?_ ?_ ?_
 ·rintro i ys H' hi ⟨_,zs,rfl,hz,_⟩
  rw[M5];exact D5 (by omega)
 ·rintro i ys H' hi ⟨s4,zs,rfl,hz,hr⟩
  lk
  refine S5 (SqL.of (s4 _ _ hsa3)) (D8 (X8 (by omega))) ?_
  lk
  refine⟨D5 (by z_go),fun t ht=>?_⟩
  refine .inl (yj4 (xs:=D4 [("plain":Str),("anew":Str)]) (.inr (SqT.of A7)) rfl (qe3 _) ?_)
  rw[qk7]
  lk
  have s5:=A6.tr s4 (A6.new ht (.tup (D4 [("plain":Str),("anew":Str)])))
  by_cases hin:ss[i]∈[("plain":Str),("anew":Str)]
  ·rw[decide_eq_true hin];refine V9 ?_
   lk
   refine⟨s5,zs++[(i:Int)],qx0 _ _,by simp;omega,fun z hz'=>?_⟩
   rcases List.mem_append.mp hz' with h|h
   ·exact hr z h
   ·rw[List.mem_singleton.mp h];omega
  ·rw[decide_eq_false hin];refine S7 ?_
   exact⟨s5,zs,rfl,by omega,hr⟩
 rintro ys H' ⟨s4,soft,rfl,sfl,sfr⟩ sf hsf
 lk
 have sfl:soft.length<=n:=by omega
 have nsf:sf≠d:=(mv3.dk.same s4).ne hsf
 have s5:A6 H3 (upd H' sf (.lst (E9 soft))):=A6.tr s4 (A6.new hsf _)
 have hsf5:(upd H' sf (.lst (E9 soft))) sf=some (.lst (E9 soft)):=A7
 generalize (upd H' sf (.lst (E9 soft)))=H5 at *
 refine qe0 (xs:=E9 soft) (SqL.of hsf5) (fun i ys H'=>A6 H5 H'/\∃ zs:List Str,ys=D4 zs/\zs.length<=i) ⟨fun _ _ e=>e,[],rfl,by simp⟩ ?_ ?_ ?_ ?_
 ·rintro i ys H' hi ⟨_,zs,rfl,hz⟩
  rw[M5] at hi
  rw[G8];exact D5 (by omega)
 ·rintro i ys H' hi ⟨s6,_⟩
  exact SqL.of (s6 _ _ hsf5)
 ·rintro i x ys H' hx ⟨s6,zs,rfl,hz⟩
  unfold E9 at hx
  rw[List.getElem?_map] at hx
  obtain⟨j,hj,rfl⟩:=Option.map_eq_some_iff.mp hx
  obtain⟨j0,j1⟩:=sfr j (List.mem_of_getElem? hj)
  lk
  obtain⟨js,ej⟩:=qx5 hst.hst
  refine⟨_,hb,kvs,js,rfl,rfl,s6 _ _ (s5 _ _ hhb3),ej,?_⟩
  generalize (if true=true then !decide (j∈js) else decide (j∈js))=cc
  lk
  cases cc with
  | true =>
    x_go
    lk
    refine S5 (SqL.of (s6 _ _ (s5 _ _ hnm3))) (ixI j0 (X8 (by omega))) ?_
    exact⟨s6,zs++[_],U7 _ _,by simp;omega⟩
  | false =>
    k_go
    exact⟨s6,zs,rfl,by omega⟩
 rintro ys H' ⟨s6,may,rfl,mle⟩ my hmy
 rw[M5] at mle
 lk
 have dk6:Dk H' d:=(mv3.dk.same s5).same s6
 have nmy:my≠d:=dk6.ne hmy
 have s7:A6 H5 (upd H' my (.lst (D4 may))):=A6.tr s6 (A6.new hmy _)
 have hmy7:(upd H' my (.lst (D4 may))) my=some (.lst (D4 may)):=A7
 have dk7:Dk (upd H' my (.lst (D4 may))) d:=dk6.same (A6.new hmy _)
 generalize (upd H' my (.lst (D4 may)))=H7 at *
 refine⟨D5 (by z_go),fun bk hbk=>?_⟩
 lk
 have s8:A6 H5 (upd H7 bk (.lst [])):=A6.tr s7 (A6.new hbk _)
 have s38:=A6.tr s5 s8
 have nbk:bk≠d:=dk7.ne hbk
 have hmy8:(upd H7 bk (.lst [])) my=some (.lst (D4 may)):=A6.new hbk _ _ _ hmy7
 have B:BkA c (upd H7 bk (.lst [])) d sa hb nm sf my bk n ss names may soft kvs :=
  { n16:=by omega,hsa:=s38 _ _ hsa3,lsa:=lsa,hhb:=s38 _ _ hhb3,hst:=hst,hnm:=s38 _ _ hnm3,lnm:=by omega,nle:=(by rw[show((n:Int)).toNat=n by omega] at nle;exact nle),hsf:=s8 _ _ hsf5,sfl:=sfl,sfr:=sfr,hmy:=hmy8,mle:=by omega,
    n1:=by simp;exact⟨nsa,N2 (s7 _ _ (s5 _ _ hsa3)) hbk⟩,n2:=by simp;exact⟨nhb,N2 (s7 _ _ (s5 _ _ hhb3)) hbk⟩,n3:=by simp;exact⟨nnm,N2 (s7 _ _ (s5 _ _ hnm3)) hbk⟩,n4:=by simp;exact⟨nsf,N2 (s7 _ _ hsf5) hbk⟩,n5:=by simp;exact⟨nmy,N2 hmy7 hbk⟩}
 have hbk8:(upd H7 bk (.lst [])) bk=some (.lst []):=A7
 have mv8:Mv d H (upd H7 bk (.lst [])):=(mv3.same s5).same s8
 have bk0:H bk=none:=wv0 ((mv3.same s5).same s7) dk hbk
 have dk8:=mv8.dk
 generalize (upd H7 bk (.lst []))=H8 at *
 refine qg8 (by omega) (by omega) (fun i σ H'=>∃ (us:List V) (rs:List Row) (a10 a11 a12 a13:Option V),σ=[some (.ref d),some (.int c),some (.int m),some (.int n),some (.ref sa),some (.ref hb),some (.ref nm),some (.ref sf),some (.ref my),some (.ref bk),a10,a11,a12,a13]/\But [d,bk] H8 H'/\Dk H' d/\H' bk=some (.lst us)/\Dvs K H' (rs.map Row.da) us/\rs.length=i/\Rwk c ss kvs i rs) ⟨[],[],_,_,_,_,rfl,But.refl _ _,dk8,hbk8,E6,rfl,[],List.nodup_nil,by simp,rfl,rfl,rfl⟩ ?_ ?_
 ·rintro i σ H' hi ⟨us,rs,a10,a11,a12,a13,rfl,bt,dk',hbk',dv',hl,ho⟩
  have B':=B.but bt
  lk
  refine⟨D5 (by z_go),fun e he=>?_⟩
  lk
  have se:A6 H' (upd H' e (.tup [])):=A6.new he _
  have B2:=B'.but (A6.two d bk se)
  have hbk2:=se _ _ hbk'
  have dv2:=Dvs.same se _ _ dv'
  have dk2:=dk'.same se
  have bt2:=But.tr bt (A6.two d bk se)
  have hem:Dv K (upd H' e (.tup [])) (.tuple (sDa [])) (.ref e):=C3.mpr ⟨e,[],rfl,SqT.of A7,E6⟩
  generalize (upd H' e (.tup []))=H2' at *
  obtain⟨js,ej⟩:=qx5 hst.hst
  refine⟨_,hb,kvs,js,rfl,rfl,B2.hhb,ej,?_⟩
  generalize (if true=true then !decide ((i:Int)∈js) else decide ((i:Int)∈js))=cc
  lk
  cases cc with
  | false =>
    k_go
    refine zi4 B2 (by omega) dk2 nbk hbk2 dv2 hl ho hem fun H'' us rs a12 a13 e1 e2 e3 e4 e5 e6=>?_
    exact⟨us,rs,_,_,_,_,rfl,But.tr bt2 e1,e2,e3,e4,e5,e6⟩
  | true =>
    x_go
    lk
    have:=B2.mle
    have nmy':my≠d:=nmy
    refine⟨d,my,may,rfl,dk2,B2.hmy,nmy,by omega,fun t ys H4 mv4 ht _ _=>?_⟩
    lk
    have b4:But [d,bk] H2' H4:=mv4.two bk
    refine zi4 (B2.but b4) (by omega) mv4.dk nbk (mv4.at hbk2 nbk) (Dvs.tupK (mv4.tupK dk2) _ _ (P8 Row.fix rs) dv2) hl ho (C3.mpr ⟨t,_,rfl,SqT.of ht,V6.mpr rfl⟩) fun H'' us rs a12 a13 e1 e2 e3 e4 e5 e6=>?_
    exact⟨us,rs,_,_,_,_,rfl,But.tr (But.tr bt2 b4) e1,e2,e3,e4,e5,e6⟩
 ·rintro σ H' ⟨us,rs,a10,a11,a12,a13,rfl,bt,dk',hbk',dv',hl,ho⟩
  lk
  refine⟨bk,us,rfl,.inl ⟨SqL.of hbk',fun t ht=>?_⟩⟩
  have st:A6 H' (upd H' t (.tup us)):=A6.new ht _
  refine q t us rs _ ⟨fun b o e nb=>?_,dk'.same st⟩ A7 (Dvs.same st _ _ dv') (by omega) (by omega) ((by rw[show((n:Int)).toNat=n by omega] at ho;exact ho:Rwk c ss kvs n rs).bks hst hss lsa n12)
  refine st _ _ (bt b o (mv8.but b o e nb) ?_)
  simp at nb ⊢
  exact⟨nb,N2 e bk0⟩
def zi5(K:Fg):TS :=
 (G9 (tBM K "str" (zt9 K) (tC (.str "")) (A2 (Y4 [some 1,some 0,none] (qh7 (A2 (tOp (Y5 K) (tC (.int 1)) (C2 (D0 K) [] E0 (A2 (A4 0) (A2 (tC (.int 9)) B0)))) B0)) (B3 2) tTT (tOp (I9 K) (A4 0) (C2 (D0 K) [] E0 (A2 (A4 1) (A2 (tCB (P6 K) (A2 (A4 0) B0)) B0))))) B0)))
theorem yf1(cs:List Nat):(PySem.Txt.join ("":Str) (cs.map ch)).length=cs.length:=by
 show(PySem.Txt.join ("":Str) (cs.map ch)).cps.size=_
 rw[<-Array.length_toList,zq4]
theorem Ae1(cs:List Nat):((cs.map ch).map (·.length)).sum=cs.length:=by
 induction cs with
 | nil=>rfl
 | cons c r ih=>rw[List.map_cons,List.map_cons,List.sum_cons,ih,List.length_cons];show 1+_=_;omega
theorem zv5{c:Bool}:(PySem.Txt.mul x (if c=true then 1 else 0)).length<=x.length:=by
 cases c with
 | false=>exact Nat.zero_le _
 | true=>exact Nat.le_refl _
variable{S:Str}
theorem xr6(dk:Dk H d)(h1:1<=S.length)(h2:S.length<=1000)(q:∀ (x:Str) (H':Hp),Mv d H H'->1<=x.length->x.length<=9->D.rt (.str x) H'):zi5 K D [some (.ref d),some (.str S)] H:=by
 unfold zi5
 lk
 refine⟨rfl,?_⟩
 lk
 refine⟨d,9,rfl,by decide,by decide,dk,fun m H1 m0 m1 mv1=>?_⟩
 lk
 refine qp3 (by omega) (by omega) (fun i ys H'=>Mv d H1 H'/\∃ cs:List Nat,ys=D4 (cs.map ch)/\cs.length=i) ⟨Mv.refl mv1.dk,[],rfl,rfl⟩ ?_ ?_ ?_
 ·rintro i ys H' hi ⟨_,cs,rfl,hl⟩
  rw[G8,List.length_map];exact D5 (by omega)
 ·rintro i ys H' hi ⟨mv,cs,rfl,hl⟩
  lk
  refine Aa4 (D5 (by omega)) ?_
  lk
  refine⟨d,(S.length:Int),rfl,by omega,by omega,mv.dk,fun x H2 x0 x1 mv2=>?_⟩
  have hx:x.toNat<S.cps.toList.length:=by rw[Array.length_toList];show x.toNat<S.length;omega
  refine zd2 (D5 (by omega)) (ixI x0 (List.getElem?_eq_getElem hx)) ?_
  exact⟨mv.tr mv2,cs++[S.cps.toList[x.toNat]],by simp[D4,ch],by simp[hl]⟩
 ·rintro ys H' ⟨mv,cs,rfl,hl⟩ p hp
  lk
  refine⟨"",p,cs.map ch,rfl,rfl,.inl (SqL.of A7),?_,?_⟩
  ·rw[Ae1,show("":Str).length=0 from rfl];omega
  ·exact q _ _ ((mv1.tr mv).new hp _) (by rw[yf1];omega) (by rw[yf1];omega)
abbrev xm0(K:Fg):TS :=
 (C1 (E4 (tC (.str (" !\"#$&'()*+,-./0123456789:;<=>?@ABCDEFGHIJKLMNOPQRSTUVWXYZ[\\]^_`":Str))) (B3 1))
 (E4 (tOp (Y5 K) (A4 1) (tC (.str "abcdefghijklmnopqrstuvwxyz{|}~\n"))) (B3 1)))
abbrev xm1(K:Fg):TS :=
 (C1 (M3 (D6 (tOp (Q7 K) (C2 (D0 K) [] E0 (A2 (A4 0) (A2 (tC (.int 2)) B0))) (tC (.int 1))))
 (xm0 K) E8)
 (zi5 K))
def U4(K:Fg):Sp:=fun vs H Q _=>∃ (d:Addr),vs=[.ref d]/\Dk H d/\∀ (x:Str) (H':Hp),Mv d H H'->1<=x.length->x.length<=9->Q (.str x) H'
def qn2(K:Fg):TS :=
 (C1 (E4 (tC (.str "ab <&>;l/\nZ~ 7")) (B3 1))
 (xm1 K))
theorem xx3(h:U4 K vs H Q E):qn2 K {nx:=fun _ H'=>Q .non H',rt:=Q} (J0 ["_law_deck","_law_signs"] vs) H:=by
 obtain⟨d,rfl,dk,q⟩:=h
 show qn2 K _ [some (.ref d),none] H
 unfold qn2
 lk
 refine⟨d,2,rfl,by decide,by decide,dk,fun m H1 m0 m1 mv1=>?_⟩
 lk
 have qq:∀ (x:Str) (H':Hp),Mv d H1 H'->1<=x.length->x.length<=9->Q (.str x) H':=fun x H' mv a b=>q x H' (mv1.tr mv) a b
 by_cases e:m=1
 ·rw[decide_eq_true e];refine V9 ?_
  lk
  refine zd0 (D5 (by decide +kernel)) ?_
  lk
  exact xr6 mv1.dk (by rw[yr3];decide +kernel) (by rw[yr3];decide +kernel) qq
 ·rw[decide_eq_false e];refine S7 ?_
  exact xr6 mv1.dk (by decide +kernel) (by decide +kernel) qq
abbrev xm3(K:Fg):TS :=
 (qh6 (tBM K "list" X6 (A4 5) (A2 (tOp qp2 (C2 (U4 K) [] E0 (A2 (A4 0) B0)) (tCB wx0 (A2 (tOp (W5 K) (C2 (D0 K) [] E0 (A2 (A4 0) (A2 (tC (.int 9)) B0))) (tC (.int 4))) B0))) B0)))
abbrev xm4(K:Fg)(spr:Sp):TS :=
 (qh6 (tBM K "list" X6 (A4 5) (A2 (C2 spr [] E0 (A2 (A4 0) (A2 (A4 1) (A2 (A4 2) (A2 (tOp (rI0 fun i j=>.int (i-j)) (A4 3) (tC (.int 1))) B0))))) B0)))
abbrev xm5(K:Fg)(spr:Sp):TS :=
 (M3 (D6 (tOp (Q7 K) (C2 (D0 K) [] E0 (A2 (A4 0) (A2 (tC (.int 3)) B0))) (tC (.int 0))))
 (xm3 K) (xm4 K spr))
abbrev xm6(K:Fg)(spr:Sp):TS :=
 (qh9 (qh7 (A2 (C2 (D0 K) [] E0 (A2 (A4 0) (A2 (tC (.int 4)) B0))) B0)) (B3 6)
 (xm5 K spr))
abbrev xm7(K:Fg)(spr:Sp):TS :=
 (C1 (M3 (D6 (tOp ww8 (A4 3) (tC (.int 1))))
 (xm6 K spr) E8)
 (G9 (M6 (A2 (A4 4) (A2 (tCB (qm1 K) (A2 (A4 5) B0)) B0)))))
def zi6(K:Fg)(spr:Sp):TS :=
 (C1 (E4 (Y8 B0) (B3 5))
 (xm7 K spr))
theorem ys4(a b:List Tr):Tr.das (a++b)=Tr.das a++Tr.das b:=by rw[O4,O4,O4,List.map_append]
abbrev xm8(K:Fg):TS :=
 (E4 (tOp (I9 K) (tOp (I9 K) (A4 1) (C2 (D0 K) [] E0 (A2 (A4 0) (A2 (tCB (P6 K) (A2 (A4 1) B0)) B0)))) (tC (.int 0))) (B3 4))
abbrev xm9(K:Fg)(spr:Sp):TS :=
 (C1 (M3 (D6 (tOp ww8 (C2 (D0 K) [] E0 (A2 (A4 0) (A2 (tC (.int 4)) B0))) (tC (.int 0))))
 (xm8 K) E8)
 (zi6 K spr))
def Z5(n:Nat)(K:Fg):Sp:=fun vs H Q _=>∃ (d bk:Addr) (c deep:Int) (us:List V) (rs:List Row),vs=[.ref d,.ref bk,.int c,.int deep]/\Dk H d/\SqT K H bk us/\Dvs K H (rs.map Row.da) us/\1<=rs.length/\rs.length<=12/\deep<=n+1/\∀ (t:Tr) (v:V) (H':Hp),Mv d H H'->Dv K H' t.da v->wt t<=10*4 ^ n->hgt t<=n+1->Q v H'
def wh1(K:Fg):Sp:=Z5 1 K
def T0(K:Fg):Nat->Sp
 | 0=>fun _ _ _ _=>False
 | n+1=>Z5 n K
def qh1(K:Fg)(spr:Sp):TS :=
 (C1 (E4 (tOp qp2 (C2 (qc0 K) [] E0 (A2 (A4 2) (A2 (C2 (D0 K) [] E0 (A2 (A4 0) (A2 (tC (.int 13)) B0))) B0))) (tCB wx0 (A2 (tOp (W5 K) (C2 (D0 K) [] E0 (A2 (A4 0) (A2 (tC (.int 8)) B0))) (tC (.int 1))) B0))) (B3 4))
 (xm9 K spr))
theorem wh2(n:Nat)(h:Z5 n K vs H Q E):qh1 K (T0 K n) {nx:=fun _ H'=>Q .non H',rt:=Q} (J0 ["_law_deck","_law_book_here","_law_code","_law_deep","_law_name_here","_law_parts","_law_k"] vs) H:=by
 obtain⟨d,bk,c,deep,us,rs,rfl,dk,hbk,dvs,r1,r2,hdeep,q⟩:=h
 show qh1 K _ _ [some (.ref d),some (.ref bk),some (.int c),some (.int deep),none,none,none] H
 have hul:us.length=rs.length:=by have:=dvs.length;rw[List.length_map] at this;exact this
 have fin:∀ (nm:Str) (H1:Hp),Mv d H H1->zi6 K (T0 K n) {nx:=fun _ H'=>Q .non H',rt:=Q} [some (.ref d),some (.ref bk),some (.int c),some (.int deep),some (.str nm),none,none] H1:=by
  intro nm H1 mv1
  unfold zi6
  lk
  refine⟨D5 (by z_go),fun p hp=>?_⟩
  lk
  have np:p≠d:=mv1.dk.ne hp
  have mv2:=mv1.new hp (.lst [])
  have hp2:(upd H1 p (.lst [])) p=some (.lst []):=A7
  have p0:H p=none:=wv0 mv1 dk hp
  generalize (upd H1 p (.lst []))=H2 at *
  have ret:∀ (ts:List Tr) (vs:List V) (a6:Option V) (H':Hp),Mv d H H'->H' p=some (.lst vs)->Dvs K H' (Tr.das ts) vs->ts.length<=3->1+wts ts<=10*4 ^ n->1+O2 ts<=n+1->G9 (M6 (A2 (A4 4) (A2 (tCB (qm1 K) (A2 (A4 5) B0)) B0))) {nx:=fun _ H'=>Q .non H',rt:=Q} [some (.ref d),some (.ref bk),some (.int c),some (.int deep),some (.str nm),some (.ref p),a6] H':=by
   intro ts vs a6 H' mv hv dv hl hw hh
   lk
   refine⟨p,vs,rfl,.inl ⟨SqL.of hv,fun t ht=>?_⟩⟩
   lk
   refine⟨D5 (by z_go),fun r hr=>?_⟩
   have s1:A6 H' (upd (upd H' t (.tup vs)) r (.tup [.str nm,.ref t])):=A6.tr (A6.new ht _) (A6.new hr _)
   refine q (.nd nm ts) _ _ (mv.same s1) ?_ (by rw[wt];exact hw) (by rw[hgt];exact hh)
   rw[Tr.da]
   exact C3.mpr ⟨r,_,rfl,SqT.of A7,E1 (N6.mpr rfl) (E1 (C3.mpr ⟨t,vs,rfl,SqT.of (by rw[C6 (N2 A7 hr)];exact A7),Dvs.same s1 _ _ dv⟩) E6)⟩
  by_cases hd:1<deep
  ·rw [decide_eq_true hd];refine V9 ?_
   obtain⟨m,rfl⟩:∃ m,n=m+1:=⟨n-1,by omega⟩
   lk
   refine⟨d,4,rfl,by decide,by decide,mv2.dk,fun x H3 x0 x1 mv3=>?_⟩
   lk
   have hB:10<=10*4 ^ m:=by have:1<=4 ^ m:=Nat.one_le_pow _ _ (by decide);omega
   have hB2:10*4 ^ (m+1)=4*(10*4 ^ m):=by rw[Nat.pow_succ];omega
   have mvA:=mv2.tr mv3
   generalize 10*4 ^ m=BB at *
   refine qg8 (by omega) (by omega) (fun i σ H'=>∃ (ts:List Tr) (vs:List V) (a6:Option V),σ=[some (.ref d),some (.ref bk),some (.int c),some (.int deep),some (.str nm),some (.ref p),a6]/\Mv d H H'/\H' p=some (.lst vs)/\Dvs K H' (Tr.das ts) vs/\ts.length=i/\wts ts<=i*BB/\O2 ts<=m+1) ⟨[],[],_,rfl,mvA,mv3.at hp2 np,by rw[Tr.das];exact E6,rfl,by rw[wts];exact Nat.zero_le _,by rw[O2];exact Nat.zero_le _⟩ ?_ ?_
   ·rintro i σ H' hi ⟨ts,vs,a6,rfl,mv,hv,dv,hl,hw,hh⟩
    have hvl:vs.length=i:=by rw[Q5 dv];exact hl
    lk
    refine⟨d,3,rfl,by decide,by decide,mv.dk,fun y H4 y0 y1 mv4=>?_⟩
    lk
    have hv4:=mv4.at hv np
    have dv4:=Dvs.tupK (mv4.tupK mv.dk) _ _ (qe9 ts) dv
    have mvB:=mv.tr mv4
    have hwi:(i+1)*BB=i*BB+BB:=by rw[Nat.add_mul,Nat.one_mul]
    by_cases e:y=0
    ·rw[decide_eq_true e];refine V9 ?_
     lk
     refine⟨.inl ⟨rfl,_,SqL.of hv4⟩,?_⟩
     lk
     refine⟨d,rfl,mv4.dk,fun z H5 mv5 z1 z9=>?_⟩
     lk
     refine⟨d,9,rfl,by decide,by decide,mv5.dk,fun w H6 w0 w1 mv6=>?_⟩
     lk
     refine .inr ⟨_,rfl,?_⟩
     refine yj3 (by split <;> omega) (by split <;> omega) (by omega) ?_
     have hz:=zv5 (x:=z) (c:=!decide (w=4))
     generalize PySem.Txt.mul z (if(!decide (w=4))=true then 1 else 0)=zy1 at *
     lk
     have hv6:=mv6.at (mv5.at hv4 np) np
     refine W6 hv6 (by rw[sizeLine_eq];omega) ?_
     refine⟨ts++[.tx zy1],_,_,rfl,((mvB.tr mv5).tr mv6).put dk p0 _,A7,?_,by simp[hl],?_,?_⟩
     ·rw[ys4]
      have tk:=(mv5.tupK mv4.dk).trans ((mv6.tupK mv5.dk).trans (U6 hv6 (ys:=vs++[V.str zy1])))
      refine Dvs.append (Dvs.tupK tk _ _ (qe9 ts) dv4) ?_
      rw[Tr.das,Tr.das,Tr.da]
      exact Dvs.one (N6.mpr rfl)
     ·rw[qf1,wts,wts,wt];omega
     ·rw[W7,O2,O2,hgt];omega
    ·rw[decide_eq_false e];refine S7 ?_
     lk
     refine⟨.inl ⟨rfl,_,SqL.of hv4⟩,?_⟩
     lk
     have tkB:qh4 H H4:=mvB.tupK dk
     refine⟨d,bk,c,deep-1,us,rs,rfl,mv4.dk,tkB.sqT hbk,Dvs.tupK tkB _ _ (P8 Row.fix rs) dvs,r1,r2,by omega,fun t v H5 mv5 dt wtt htt=>?_⟩
     lk
     have hv5:=mv5.at hv4 np
     refine W6 hv5 (by rw[sizeLine_eq];omega) ?_
     refine⟨ts++[t],_,_,rfl,(mvB.tr mv5).put dk p0 _,A7,?_,by simp[hl],?_,?_⟩
     ·rw[ys4]
      have tk5:qh4 H5 (upd H5 p (.lst (vs++[v]))):=U6 hv5
      refine Dvs.append (Dvs.tupK ((mv5.tupK mv4.dk).trans tk5) _ _ (qe9 ts) dv4) ?_
      rw[Tr.das,Tr.das]
      exact Dvs.one (Dv.tupK tk5 _ _ (qa9 t) dt)
     ·rw[qf1,wts,wts];omega
     ·rw[W7,O2,O2];omega
   ·rintro σ H' ⟨ts,vs,a6,rfl,mv,hv,dv,hl,hw,hh⟩
    refine ret ts vs a6 H' mv hv dv (by omega) ?_ (by omega)
    have:x.toNat*BB<=3*BB:=Nat.mul_le_mul_right _ (by omega)
    omega
  ·rw[decide_eq_false hd];refine S7 ?_
   refine ret [] [] _ H2 mv2 hp2 (by rw[Tr.das];exact E6) (by simp) ?_ ?_
   ·rw[wts];have:1<=4 ^ n:=Nat.one_le_pow _ _ (by decide);omega
   ·rw[O2];omega
 unfold qh1
 lk
 refine⟨d,13,rfl,by decide,by decide,dk,fun x H1 x0 x1 mv1=>?_⟩
 lk
 refine⟨c,x,rfl,?_⟩
 have n8:=(xr3 c x).2
 generalize W8 c x=nm at *
 lk
 refine⟨d,8,rfl,by decide,by decide,mv1.dk,fun y H2 y0 y1 mv2=>?_⟩
 lk
 refine .inr ⟨_,rfl,?_⟩
 refine yj3 (by split <;> omega) (by split <;> omega) (by omega) ?_
 lk
 refine⟨d,4,rfl,by decide,by decide,mv2.dk,fun z H3 z0 z1 mv3=>?_⟩
 lk
 have mvA:=(mv1.tr mv2).tr mv3
 by_cases hz:0<z
 ·rw[decide_eq_true hz];refine V9 ?_
  lk
  have tk:=mvA.tupK dk
  refine O1 (.inr (tk.sqT hbk)) ?_
  lk
  refine⟨d,(us.length:Int),rfl,by omega,by omega,mv3.dk,fun w H4 w0 w1 mv4=>?_⟩
  have mvB:=mvA.tr mv4
  have tk4:=mvB.tupK dk
  have hw:w.toNat<rs.length:=by omega
  obtain⟨u,hu,du⟩:=(Dvs.tupK tk4 _ _ (P8 Row.fix rs) dvs).get (i:=w.toNat) (by rw[List.getElem?_map,List.getElem?_eq_getElem hw];rfl)
  refine G7 (tk4.sqT hbk) (ixI w0 hu) ?_
  obtain⟨bb,sv,bv,rfl,hb,_⟩:=N3 du
  lk
  refine G7 hb (v:=.str rs[w.toNat].name) rfl ?_
  lk
  exact fin _ H4 mvB
 ·rw[decide_eq_false hz];refine S7 ?_
  exact fin _ H3 mvA
theorem qc8(a b:List Tr):Tr.das (a++b)=Tr.das a++Tr.das b:=by rw[O4,O4,O4,List.map_append]
def gr3(K:Fg):TS :=
 (M3 (D6 (tOp xt6 (C2 (Z4 K) [] E0 (A2 (A4 1) (A2 (A4 2) (A2 (A4 8) (A2 (tOp (I9 K) (tOp (R1 K) (A4 4) (Y8 (A2 (tC .non) B0))) (tOp (rI0 fun i j=>.int (i-j)) (tCB (P6 K) (A2 (A4 4) B0)) (tC (.int 1)))) B0))))) (tC .non)))
 (qh6 (tBM K "list" X6 (A4 4) (A2 (A4 8) B0))) E8)
theorem yf2(rs:List Row)(pl:List Int)(ns:List Str)(u:Tr):∀ (ts:List Tr) (k:Nat) (bs:Bool),ffs rs pl ns k bs (ts++[u])=ffs rs pl ns k bs ts++((pl++[((k+ts.length:Nat):Int)],qc3 rs ns u (match ts.getLast? with|some w=>w.isTx|none=>bs))::ffk rs (pl++[((k+ts.length:Nat):Int)]) (ns++[ql6 u]) u)
 | [],k,bs=>by rw[List.nil_append,ffs,ffs,ffs,List.append_nil];rfl
 | t::ts,k,bs=>by
   rw[List.cons_append,ffs,yf2 rs pl ns u ts (k+1) t.isTx,ffs,List.cons_append,List.append_assoc,List.length_cons,show k+1+ts.length=k+(ts.length+1) by omega]
   cases ts with
   | nil=>rfl
   | cons w l=>rw[List.getLast?_cons_cons];cases h:(w::l).getLast? with|none=>simp at h|some z=>rfl
def BB:Nat->Nat
 | 0=>10
 | n+1=>1+3*BB n
theorem zi7:∀ n,10<=BB n
 | 0=>Nat.le_refl _
 | n+1=>by have:=zi7 n;rw[BB];omega
section
variable{spr:Sp}{D:V0}{d bk na p4:Addr}{m:Nat}{us vs:List V}{rs:List Row}{ns:List Str}{fv:V}{k:Int}{ts:List Tr}{u:Tr}{pv:V}{a7 a8 a9:Option V}
structure Grw(K:Fg)(H:Hp)(d bk na:Addr)(m:Nat)(us:List V)(rs:List Row)(ns:List Str):Prop where
 dk:Dk H d
 hbk:SqT K H bk us
 dvs:Dvs K H (rs.map Row.da) us
 r1:1<=rs.length
 r8:rs.length<=8
 B:BkS rs
 hna:SqT K H na (D4 ns)
 nl:ns.length+m<=50
theorem Grw.mv(G:Grw K H d bk na m us rs ns)(mv:Mv d H H'):Grw K H' d bk na m us rs ns :=
 have tk:=mv.tupK G.dk
 {G with dk:=mv.dk,hbk:=tk.sqT G.hbk,dvs:=Dvs.tupK tk _ _ (P8 Row.fix rs) G.dvs,hna:=tk.sqT G.hna}
theorem Grw.same(G:Grw K H d bk na m us rs ns)(s:A6 H H'):Grw K H' d bk na m us rs ns:=G.mv (Mv.same (Mv.refl G.dk) s)
theorem Grw.rws(G:Grw K H d bk na m us rs ns):Rws K H (.ref bk) rs:=⟨bk,us,rfl,.inr G.hbk,G.dvs⟩
structure Prt(K:Fg)(H:Hp)(p4:Addr)(m:Nat)(rs:List Row)(ns:List Str)(vs:List V)(ts:List Tr):Prop where
 h4:H p4=some (.lst vs)
 dt:Dvs K H (Tr.das ts) vs
 wt:wts ts<=ts.length*BB m
 hg:O2 ts<=m+1
 ff:∀ pl,∀ y∈ffs rs pl ns 0 false ts,y.2=none
theorem Prt.same(P:Prt K H p4 m rs ns vs ts)(s:A6 H H'):Prt K H' p4 m rs ns vs ts:={P with h4:=s _ _ P.h4,dt:=Dvs.same s _ _ P.dt}
theorem Prt.mv(P:Prt K H p4 m rs ns vs ts)(dk:Dk H d)(n:p4≠d)(s:Mv d H H'):Prt K H' p4 m rs ns vs ts:={P with h4:=s.at P.h4 n,dt:=Dvs.tupK (s.tupK dk) _ _ (qe9 ts) P.dt}
theorem Ak7(G:Grw K H d bk na m us rs ns)(P:Prt K H p4 m rs ns vs ts)(n4:p4≠d)(hl:ts.length<=10)(hpv:Dv K H u.da pv)(hw:My.wt u<=BB m)(hh:hgt u<=m+1)(hf:∀ pl,∀ y∈ffk rs pl (ns++[ql6 u]) u,y.2=none)(q:∀ (H':Hp) (vs:List V) (ts':List Tr),Grw K H' d bk na m us rs ns->Prt K H' p4 m rs ns vs ts'->ts'.length<=ts.length+1->But [d,p4] H H'->D.nx [some (.ref d),some (.ref bk),some (.ref na),some (.int ((m:Int)+1)),some (.ref p4),some fv,some (.int k),a7,some pv,a9] H') :
 gr3 K D [some (.ref d),some (.ref bk),some (.ref na),some (.int ((m:Int)+1)),some (.ref p4),some fv,some (.int k),a7,some pv,a9] H:=by
 have hvl:=Q5 P.dt
 unfold gr3
 lk
 refine⟨D5 (by z_go),fun e he=>?_⟩
 have s1:=A6.new he (.lst [.non])
 have P1:=P.same s1
 refine .inl (zd1 P1.h4 A7 (by rw[hvl];exact D5 (by show _+1<=_;omega)) fun l hl2=>?_)
 have s2:=A6.new hl2 (.lst (vs++[.non]))
 have hl3:(upd (upd H e (.lst [.non])) l (.lst (vs++[.non]))) l=some (.lst (vs++[.non])):=A7
 have s12:=A6.tr s1 s2
 generalize (upd (upd H e (.lst [.non])) l (.lst (vs++[.non])))=H2 at *
 have G2:=G.same s12
 have P2:=P.same s12
 lk
 refine O1 (.inl (SqL.of P2.h4)) ?_
 lk
 have hah:∃ av,atI (vs++[V.non]) ((vs.length:Int)-1)=some av/\Ahd K H2 av (match ts.getLast? with|some w=>w.isTx|none=>false):=by
  cases ts with
  | nil =>
    have:vs=[]:=List.length_eq_zero_iff.mp hvl
    subst this
    exact⟨.non,rfl,.inl ⟨rfl,rfl⟩⟩
  | cons t0 tr =>
    have hne:(t0::tr)≠[]:=by simp
    have hlt:(t0::tr).length-1<(t0::tr).length:=by simp
    obtain⟨w,hw1,hw2⟩:=qb6 P2.dt (List.getElem?_eq_getElem hlt)
    refine⟨w,?_,.inr ⟨_,hw2,?_⟩⟩
    ·have e:((vs.length:Int)-1)=(((t0::tr).length-1:Nat):Int):=by rw[hvl,List.length_cons];omega
     rw[e]
     refine D8 ?_
     rw[List.getElem?_append_left (by rw[hvl];exact hlt)]
     exact hw1
    ·rw[List.getLast?_eq_getElem?,List.getElem?_eq_getElem hlt]
 obtain⟨av,hav1,hav2⟩:=hah
 refine S5 (SqL.of hl3) hav1 ?_
 lk
 have h50:=G.nl
 have hr8:=G.r8
 refine⟨.ref bk,na,pv,av,rs,ns,u,_,rfl,G.B,G2.rws,by omega,G2.hna,by omega,Dv.same s12 _ _ hpv,hav2,fun H3 s3=>?_⟩
 have s13:=A6.tr s12 s3
 have G3:=G.same s13
 have P3:=P.same s13
 lk
 rw[wd9]
 cases ef:qc3 rs ns u (match ts.getLast? with|some w=>w.isTx|none=>false) with
 | none =>
   x_go
   lk
   refine⟨.inl ⟨rfl,_,SqL.of P3.h4⟩,?_⟩
   lk
   refine W6 P3.h4 (by rw[hvl,sizeLine_eq];omega) ?_
   have tk:=U6 (ys:=vs++[pv]) P3.h4
   refine q _ _ (ts++[u]) ⟨G3.dk.put n4 _,tk.sqT G3.hbk,Dvs.tupK tk _ _ (P8 Row.fix rs) G3.dvs,G.r1,G.r8,G.B,tk.sqT G3.hna,G.nl⟩ ⟨A7,?_,?_,?_,?_⟩ (by simp) (But.tr (A6.two d p4 s13) (But.upd (by simp) _))
   ·rw[qc8]
    refine Dvs.append (Dvs.tupK tk _ _ (qe9 ts) P3.dt) ?_
    rw[Tr.das,Tr.das]
    exact Dvs.one (Dv.tupK tk _ _ (qa9 u) (Dv.same s13 _ _ hpv))
   ·have:=P.wt
    rw[qf1,wts,wts,List.length_append,List.length_singleton,Nat.add_mul];omega
   ·have:=P.hg
    rw[W7,O2,O2];omega
   ·intro pl y hy
    rw[yf2] at hy
    rcases List.mem_append.mp hy with hy|hy
    ·exact P.ff pl y hy
    ·rcases List.mem_cons.mp hy with rfl|hy
     ·exact ef
     ·exact hf _ y hy
 | some r =>
   k_go
   lk
   exact q _ _ ts G3 P3 (by omega) (A6.two d p4 s13)
end
def grP(K:Fg):TS :=
 (E4 (M6 (A2 (tOp (I9 K) (A4 7) (tC (.int 0))) (A2 (A4 9) B0))) (B3 8))
abbrev xc8(K:Fg)(spr:Sp):TS :=
 (E4 (C2 spr [] E0 (A2 (A4 0) (A2 (A4 1) (A2 (tOp (R1 K) (A4 2) (M6 (A2 (tOp (I9 K) (A4 7) (tC (.int 0))) B0))) (A2 (tOp (rI0 fun i j=>.int (i-j)) (A4 3) (tC (.int 1))) B0))))) (B3 9))
abbrev xc9(K:Fg)(spr:Sp):TS :=
 (C1 (M3 (wa6 (D6 (tOp (W5 K) (tOp (I9 K) (A4 7) (tC (.int 1))) (tC (.str "bare")))) (D6 (tOp ww8 (A4 3) (tC (.int 1)))))
 (xc8 K spr) E8)
 (grP K))
def grE(K:Fg)(spr:Sp):TS :=
 (C1 (E4 (M6 B0) (B3 9))
 (xc9 K spr))
def gr2(K:Fg)(spr:Sp):TS :=
 (C1 (M3 (wa6 (D6 (tOp (W5 K) (tOp (I9 K) (A4 5) (tC (.int 1))) (tC (.str "frame")))) (D6 (tOp (Q7 K) (C2 (D0 K) [] E0 (A2 (A4 0) (A2 (tC (.int 3)) B0))) (tC (.int 0)))))
 (E4 (C2 (U4 K) [] E0 (A2 (A4 0) B0)) (B3 8)) (grE K spr))
 (gr3 K))
abbrev xd0(K:Fg):TS :=
 (E4 (C2 (S3 K) [] E0 (A2 (A4 1) (A2 (tOp (I9 K) (A4 5) (tC (.int 2))) B0))) (B3 7))
abbrev xd1(K:Fg)(spr:Sp):TS :=
 (C1 (M3 (D6 (tOp (Q7 K) (tOp (I9 K) (A4 5) (tC (.int 1))) (tC (.str "frame"))))
 (xd0 K) E8)
 (gr2 K spr))
abbrev xd2(K:Fg)(spr:Sp):TS :=
 (C1 (E4 (tOp (I9 K) (A4 1) (C2 (D0 K) [] E0 (A2 (A4 0) (A2 (tCB (P6 K) (A2 (A4 1) B0)) B0)))) (B3 7))
 (xd1 K spr))
def zi8(K:Fg)(spr:Sp):TS :=
 (C1 (qh9 (qh7 (A2 (tOp (R1 K) (C2 (D0 K) [] E0 (A2 (A4 0) (A2 (tC (.int 4)) B0))) (tCB wx0 (A2 (tOp (Q7 K) (A4 2) (M6 B0)) B0))) B0)) (B3 6)
 (xd2 K spr))
 (G9 (tCB (qm1 K) (A2 (A4 4) B0))))
variable{a7:Option V}
section
variable{spr:Sp}{D:V0}{d bk na p4:Addr}{m:Nat}{us vs:List V}{rs:List Row}{ns:List Str}{fv rv:V}{k:Int}{ts:List Tr}{fr r:Row}{a8 a9:Option V}
def zr6(K:Fg)(spr:Sp)(d bk:Addr)(m:Nat)(us:List V)(rs:List Row)(ns:List Str):Prop:=∀ (H1:Hp) (na2:Addr) (m':Nat) (x:Str) (Q:VK),m=m'+1->Grw K H1 d bk na2 m' us rs (ns++[x])->(∀ (t:Addr) (vs:List V) (ps:List Tr) (H':Hp),Mv d H1 H'->H' t=some (.tup vs)->Dvs K H' (Tr.das ps) vs->(∀ pl,∀ y∈ffs rs pl (ns++[x]) 0 false ps,y.2=none)->wts ps<=3*BB m'->O2 ps<=m'+1->Q (.ref t) H')->spr [.ref d,.ref bk,.ref na2,.int ((m':Int)+1)] H1 Q E0
theorem Am5(G:Grw K H d bk na m us rs ns)(hrv:Dv K H r.da rv)(hs:zr6 K spr d bk m us rs ns)(q:∀ (H':Hp) (pv:V) (u:Tr) (a9:Option V),Mv d H H'->Dv K H' u.da pv->My.wt u<=BB m->hgt u<=m+1->(∀ pl,∀ y∈ffk rs pl (ns++[ql6 u]) u,y.2=none)->D.nx [some (.ref d),some (.ref bk),some (.ref na),some (.int ((m:Int)+1)),some (.ref p4),some fv,some (.int k),some rv,some pv,a9] H') :
 grE K spr D [some (.ref d),some (.ref bk),some (.ref na),some (.int ((m:Int)+1)),some (.ref p4),some fv,some (.int k),some rv,a8,a9] H:=by
 obtain⟨rb,sv,bv,rfl,hrb,_,_⟩:=N3 hrv
 have hB:=zi7 m
 unfold grE
 lk
 refine⟨D5 (by z_go),fun e he=>?_⟩
 have s1:=A6.new he (.tup [])
 have e1:(upd H e (.tup [])) e=some (.tup []):=A7
 generalize upd H e (.tup [])=H1 at *
 have G1:=G.same s1
 have hrb1:=s1.sqT hrb
 have fin:∀ (D:V0) (H2:Hp) (ia:Addr) (is:List V) (ps:List Tr),Mv d H H2->SqT K H2 rb [.str r.name,.str r.sort,.str r.host,sv,bv]->SqT K H2 ia is->Dvs K H2 (Tr.das ps) is->(∀ pl,∀ y∈ffs rs pl (ns++[r.name]) 0 false ps,y.2=none)->1+wts ps<=BB m->O2 ps<=m->(∀ (H':Hp) (pv:V) (u:Tr) (a9:Option V),Mv d H H'->Dv K H' u.da pv->My.wt u<=BB m->hgt u<=m+1->(∀ pl,∀ y∈ffk rs pl (ns++[ql6 u]) u,y.2=none)->D.nx [some (.ref d),some (.ref bk),some (.ref na),some (.int ((m:Int)+1)),some (.ref p4),some fv,some (.int k),some (.ref rb),some pv,a9] H')->grP K D [some (.ref d),some (.ref bk),some (.ref na),some (.int ((m:Int)+1)),some (.ref p4),some fv,some (.int k),some (.ref rb),a8,some (.ref ia)] H2:=by
  intro D H2 ia is ps mv2 hr2 hi2 di hff hw hh qq
  unfold grP
  lk
  refine G7 hr2 (v:=.str r.name) (D8 (j:=0) rfl) ?_
  lk
  refine⟨D5 (by z_go),fun p hp=>?_⟩
  have s3:=A6.new hp (.tup [.str r.name,.ref ia])
  lk
  refine qq _ _ (.nd r.name ps) _ (mv2.same s3) (qx2 (SqT.of A7) (s3.sqT hi2) (Dvs.same s3 _ _ di)) (by rw[My.wt];exact hw) (by rw[hgt];omega) fun pl y hy=>?_
  rw[ffk] at hy
  exact hff pl y hy
 have nil:grP K D [some (.ref d),some (.ref bk),some (.ref na),some (.int ((m:Int)+1)),some (.ref p4),some fv,some (.int k),some (.ref rb),a8,some (.ref e)] H1:=fin D H1 e [] [] (Mv.same (Mv.refl G.dk) s1) hrb1 (SqT.of e1) (by rw[Tr.das];exact E6) (fun pl y hy=>by rw[ffs] at hy;cases hy) (by rw[wts];omega) (by rw[O2];omega) q
 lk
 refine G7 hrb1 (v:=.str r.sort) (D8 (j:=1) rfl) ?_
 lk
 by_cases hb:r.sort=("bare":Str)
 ·rw[decide_eq_true hb];refine S7 ?_
  k_go
  lk
  exact nil
 ·rw[decide_eq_false hb];refine V9 ?_
  lk
  cases m with
  | zero =>
    k_go
    lk
    exact nil
  | succ m' =>
    rw[decide_eq_true (by omega)];refine V9 ?_
    lk
    refine G7 hrb1 (v:=.str r.name) (D8 (j:=0) rfl) ?_
    lk
    refine⟨D5 (by z_go),fun c hc=>?_⟩
    have s2:=A6.new hc (.tup [.str r.name])
    have h50:=G.nl
    refine qe1 (s2.sqT G1.hna) (SqT.of A7) (by rw[G8];exact D5 (by show _+1<=_;omega)) fun na2 H3 s3 hna2=>?_
    have s23:=A6.tr s2 s3
    lk
    rw[show((m'+1:Nat):Int)+1-1=(m':Int)+1 by omega]
    have G3:=G1.same s23
    refine hs H3 na2 m' r.name _ rfl ⟨G3.dk,G3.hbk,G3.dvs,G.r1,G.r8,G.B,(by rw[<-U7];exact hna2),by rw[List.length_append,List.length_singleton];omega⟩ fun t vs ps H4 mv4 ht dv hff hw hh=>?_
    have s13:=A6.tr s1 s23
    lk
    exact fin D H4 t vs ps (Mv.tr (Mv.same (Mv.refl G.dk) s13) mv4) ((mv4.tupK G3.dk).sqT (s23.sqT hrb1)) (SqT.of ht) dv hff (by rw[BB];omega) (by omega) q
theorem Ak8(G:Grw K H d bk na m us rs ns)(P:Prt K H p4 m rs ns vs ts)(n4:p4≠d)(hl:ts.length<=10)(hfv:Dv K H fr.da fv)(hrv:Dv K H r.da rv)(hs:zr6 K spr d bk m us rs ns)(q:∀ (H':Hp) (vs:List V) (ts':List Tr) (a8 a9:Option V),Grw K H' d bk na m us rs ns->Prt K H' p4 m rs ns vs ts'->ts'.length<=ts.length+1->But [d,p4] H H'->D.nx [some (.ref d),some (.ref bk),some (.ref na),some (.int ((m:Int)+1)),some (.ref p4),some fv,some (.int k),some rv,a8,a9] H') :
 gr2 K spr D [some (.ref d),some (.ref bk),some (.ref na),some (.int ((m:Int)+1)),some (.ref p4),some fv,some (.int k),some rv,a8,a9] H:=by
 obtain⟨fb,fsv,fbv,rfl,hfb,_,_⟩:=N3 hfv
 have hB:=zi7 m
 have els:∀ H1,Mv d H H1->grE K spr {D with nx:=gr3 K D} [some (.ref d),some (.ref bk),some (.ref na),some (.int ((m:Int)+1)),some (.ref p4),some (.ref fb),some (.int k),some rv,a8,a9] H1:=by
  intro H1 mv1
  refine Am5 (G.mv mv1) (Dv.tupK (mv1.tupK G.dk) _ _ (Row.fix r) hrv) hs fun H2 pv u a9 mv2 hpv hw hh hf=>?_
  have mv12:=Mv.tr mv1 mv2
  exact Ak7 (G.mv mv12) (P.mv G.dk n4 mv12) n4 hl hpv hw hh hf fun H' vs ts' g p l bt=>q H' vs ts' _ _ g p l (But.tr (mv12.two p4) bt)
 unfold gr2
 lk
 refine G7 hfb (v:=.str fr.sort) (D8 (j:=1) rfl) ?_
 lk
 by_cases hf:fr.sort=("frame":Str)
 ·rw[decide_eq_true hf];refine S7 ?_
  k_go
  exact els H (Mv.refl G.dk)
 ·rw[decide_eq_false hf];refine V9 ?_
  lk
  refine⟨d,3,rfl,by decide,by decide,G.dk,fun x H1 x0 x1 mv1=>?_⟩
  lk
  by_cases hx:x=0
  ·rw[decide_eq_true hx];refine V9 ?_
   lk
   refine⟨d,rfl,mv1.dk,fun z H2 mv2 z1 z9=>?_⟩
   lk
   have mv12:=Mv.tr mv1 mv2
   exact Ak7 (u:=.tx z) (G.mv mv12) (P.mv G.dk n4 mv12) n4 hl (zg7 _) (by rw[My.wt];omega) (by rw[hgt];omega) (fun pl y hy=>by rw[ffk] at hy;cases hy) fun H' vs ts' g p l bt=>q H' vs ts' _ _ g p l (But.tr (mv12.two p4) bt)
  ·rw[decide_eq_false hx];refine S7 ?_
   exact els H1 mv1
theorem zi9(G:Grw K H d bk na m us rs ns)(h4:H p4=some (.lst []))(n4:p4≠d)(hfv:Dv K H fr.da fv)(hs:zr6 K spr d bk m us rs ns)(q:∀ (t:Addr) (vs:List V) (ps:List Tr) (H':Hp),But [d,p4] H H'->Dk H' d->H' t=some (.tup vs)->Dvs K H' (Tr.das ps) vs->(∀ pl,∀ y∈ffs rs pl ns 0 false ps,y.2=none)->wts ps<=ps.length*BB m->ps.length<=3+(if ns=[] then 1 else 0)->O2 ps<=m+1->D.rt (.ref t) H') :
 zi8 K spr D [some (.ref d),some (.ref bk),some (.ref na),some (.int ((m:Int)+1)),some (.ref p4),some fv,a6,a7,a8,a9] H:=by
 have hd4:∃ xs,H d=some (.lst xs):=G.dk.lst
 unfold zi8
 lk
 refine⟨d,4,rfl,by decide,by decide,G.dk,fun x H1 x0 x1 mv1=>?_⟩
 lk
 refine⟨D5 (by z_go),fun e he=>?_⟩
 have G1:=G.mv mv1
 have s2:=A6.new he (.tup [])
 refine wx3 (d:=.tuple (sDa ns)) (e:=.tuple []) (C3.mpr ⟨na,_,rfl,s2.sqT G1.hna,V6.mpr rfl⟩) (C3.mpr ⟨e,[],rfl,SqT.of A7,E6⟩) (Nat.le_trans (Nat.min_le_right _ _) (by decide)) ?_
 rw[wm5]
 have mv2:Mv d H (upd H1 e (.tup [])):=mv1.same s2
 generalize upd H1 e (.tup [])=H2 at *
 have G2:=G1.same s2
 lk
 refine .inr ⟨ns.isEmpty,rfl,?_⟩
 refine .inl (qq9 ?_)
 lk
 obtain⟨z,ez,hz⟩:∃ z:Nat,x+(if ns.isEmpty=true then 1 else 0)=(z:Int)/\z<=3+(if ns=[] then 1 else 0):=by
  cases ns with
  | nil=>exact⟨(x+1).toNat,by simp;omega,by simp;omega⟩
  | cons _ _=>exact⟨x.toNat,by simp;omega,by simp;omega⟩
 have hz4:z<=4:=by split at hz <;> omega
 rw[ez]
 refine qg8 (by omega) (by omega) (fun i σ H'=>∃ (vs:List V) (ts:List Tr) (a6 a7 a8 a9:Option V),σ=[some (.ref d),some (.ref bk),some (.ref na),some (.int ((m:Int)+1)),some (.ref p4),some fv,a6,a7,a8,a9]/\Grw K H' d bk na m us rs ns/\Prt K H' p4 m rs ns vs ts/\ts.length<=i/\But [d,p4] H H') ⟨[],[],_,_,_,_,rfl,G2,⟨mv2.at h4 n4,by rw[Tr.das];exact E6,by rw[wts];omega,by rw[O2];omega,fun pl y hy=>by rw[ffs] at hy;cases hy⟩,by simp,mv2.two p4⟩ ?_ ?_
 ·rintro i σ H' hi ⟨vs,ts,a6,a7,a8,a9,rfl,G',P',hl',bt⟩
  have hr1:=G.r1
  have hr8:=G.r8
  have hul:us.length=rs.length:=by have:=G'.dvs.length;rw[List.length_map] at this;exact this
  obtain⟨xs,hd4⟩:=hd4
  have fv':=Dv.tupK (But.two bt hd4 h4) _ _ (Row.fix fr) hfv
  lk
  refine O1 (.inr G'.hbk) ?_
  lk
  refine⟨d,(us.length:Int),rfl,by omega,by omega,G'.dk,fun y H3 y0 y1 mv3=>?_⟩
  have G3:=G'.mv mv3
  have P3:=P'.mv G'.dk n4 mv3
  have fv3:=Dv.tupK (mv3.tupK G'.dk) _ _ (Row.fix fr) fv'
  have hyl:y.toNat<us.length:=by omega
  refine G7 G3.hbk (ixI y0 (List.getElem?_eq_getElem hyl)) ?_
  obtain⟨dd,hd1,hd2⟩:=G3.dvs.get' (List.getElem?_eq_getElem hyl)
  rw[List.getElem?_map] at hd1
  obtain⟨r,hr,rfl⟩:=Option.map_eq_some_iff.mp hd1
  obtain⟨fb,fsv,fbv,efv,hfb,_,_⟩:=N3 fv3
  subst efv
  lk
  refine G7 hfb (v:=.str fr.sort) (D8 (j:=1) rfl) ?_
  lk
  by_cases hf:fr.sort=("frame":Str)
  ·rw[decide_eq_true hf];refine V9 ?_
   lk
   refine G7 hfb (v:=.str fr.host) (D8 (j:=2) rfl) ?_
   lk
   refine⟨.ref bk,fr.host,rs,rfl,G3.rws,fun rv H4 s4 drv=>?_⟩
   lk
   exact Ak8 (G3.same s4) (P3.same s4) n4 (by omega) (Dv.same s4 _ _ fv3) drv hs fun H5 vs ts' a8 a9 g p l bt2=>⟨vs,ts',_,_,_,_,rfl,g,p,by omega,But.tr bt (But.tr (mv3.two p4) (But.tr (A6.two d p4 s4) bt2))⟩
  ·rw[decide_eq_false hf];refine S7 ?_
   lk
   exact Ak8 G3 P3 n4 (by omega) fv3 hd2 hs fun H5 vs ts' a8 a9 g p l bt2=>⟨vs,ts',_,_,_,_,rfl,g,p,by omega,But.tr bt (But.tr (mv3.two p4) bt2)⟩
 ·rintro σ H' ⟨vs,ts,a6,a7,a8,a9,rfl,G',P',hl',bt⟩
  lk
  refine⟨p4,vs,rfl,.inl ⟨SqL.of P'.h4,fun t ht=>?_⟩⟩
  have st:=A6.new ht (.tup vs)
  exact q t vs ts _ (But.tr bt (A6.two d p4 st)) (G'.dk.same st) A7 (Dvs.same st _ _ P'.dt) P'.ff P'.wt (by omega) P'.hg
end
abbrev xd3(K:Fg):TS :=
 (E4 (C2 (S3 K) [] E0 (A2 (A4 1) (A2 (tOp (I9 K) (A4 2) (tUn (rU fun i=>.int (-i)) (tC (.int 1)))) B0))) (B3 5))
abbrev xd4(K:Fg)(spr:Sp):TS :=
 (C1 (M3 (D6 (tOp (W5 K) (A4 2) (M6 B0)))
 (xd3 K) E8)
 (zi8 K spr))
abbrev ws7(K:Fg)(spr:Sp):TS :=
 (C1 (E4 (M6 (A2 (tC (.str "")) (A2 (tC (.str "")) (A2 (tC (.str "")) (A2 (M6 B0) (A2 (M6 B0) B0)))))) (B3 5))
 (xd4 K spr))
def W9(n:Nat)(K:Fg):Sp:=fun vs H Q _=>∃ (d bk na:Addr) (m:Nat) (us:List V) (rs:List Row) (ns:List Str),vs=[.ref d,.ref bk,.ref na,.int ((m:Int)+1)]/\Grw K H d bk na m us rs ns/\m<=n/\∀ (t:Addr) (vs:List V) (ps:List Tr) (H':Hp),Mv d H H'->H' t=some (.tup vs)->Dvs K H' (Tr.das ps) vs->(∀ pl,∀ y∈ffs rs pl ns 0 false ps,y.2=none)->wts ps<=ps.length*BB m->ps.length<=3+(if ns=[] then 1 else 0)->O2 ps<=m+1->Q (.ref t) H'
def qf8(K:Fg):Sp:=W9 6 K
def R8(K:Fg):Nat->Sp
 | 0=>fun _ _ _ _=>False
 | n+1=>W9 n K
def qc9(K:Fg)(spr:Sp):TS :=
 (C1 (E4 (Y8 B0) (B3 4))
 (ws7 K spr))
theorem wb7(n:Nat)(h:W9 n K vs H Q E):qc9 K (R8 K n) {nx:=fun _ H'=>Q .non H',rt:=Q} (J0 ["_law_deck","_law_book_here","_law_names","_law_deep","_law_parts","_law_frame","_law_k","_law_row_here","_law_part","_law_inner"] vs) H:=by
 obtain⟨d,bk,na,m,us,rs,ns,rfl,G,hm,q⟩:=h
 show qc9 K _ _ [some (.ref d),some (.ref bk),some (.ref na),some (.int ((m:Int)+1)),none,none,none,none,none,none] H
 have hs:zr6 K (R8 K n) d bk m us rs ns:=by
  intro H1 na2 m' x Q' em G1 qq
  cases n with
  | zero=>omega
  | succ n =>
    refine⟨d,bk,na2,m',us,rs,ns++[x],rfl,G1,by omega,fun t vs ps H' h1 h2 h3 h4 h5 h6 h7=>qq t vs ps H' h1 h2 h3 h4 ?_ h7⟩
    rw[if_neg (ys0 _ _)] at h6
    exact Nat.le_trans h5 (Nat.mul_le_mul_right _ h6)
 unfold qc9
 lk
 refine⟨D5 (by z_go),fun p4 hp4=>?_⟩
 have s0:=A6.new hp4 (.lst [])
 have e0:(upd H p4 (.lst [])) p4=some (.lst []):=A7
 have n4:=G.dk.ne hp4
 generalize upd H p4 (.lst [])=H0 at *
 have fin:∀ (t:Addr) (vs:List V) (ps:List Tr) (H1 H':Hp),A6 H H1->But [d,p4] H1 H'->Dk H' d->H' t=some (.tup vs)->Dvs K H' (Tr.das ps) vs->(∀ pl,∀ y∈ffs rs pl ns 0 false ps,y.2=none)->wts ps<=ps.length*BB m->ps.length<=3+(if ns=[] then 1 else 0)->O2 ps<=m+1->Q (.ref t) H':=by
  intro t vs ps H1 H' s1 bt dk' h1 h2 h3 h4 h5 h6
  refine q t vs ps H' ⟨fun c o e nc=>?_,dk'⟩ h1 h2 h3 h4 h5 h6
  refine bt c o (s1 c o e) ?_
  simp at nc ⊢
  exact⟨nc,N2 e hp4⟩
 lk
 refine⟨D5 (by z_go),fun u1 hu1=>?_⟩
 have s1:=A6.new hu1 (.tup [])
 have e1:(upd H0 u1 (.tup [])) u1=some (.tup []):=A7
 generalize upd H0 u1 (.tup [])=H1 at *
 lk
 refine⟨D5 (by z_go),fun u2 hu2=>?_⟩
 have s2:=A6.new hu2 (.tup [])
 have e2:(upd H1 u2 (.tup [])) u2=some (.tup []):=A7
 generalize upd H1 u2 (.tup [])=H2 at *
 lk
 refine⟨D5 (by z_go),fun u3 hu3=>?_⟩
 have s3:=A6.new hu3 (.tup [.str "",.str "",.str "",.ref u1,.ref u2])
 have d3:Dv K (upd H2 u3 (.tup [.str "",.str "",.str "",.ref u1,.ref u2])) zr1.da (.ref u3):=xb2 (SqT.of A7) (SqT.of (s3 _ _ (s2 _ _ e1))) (SqT.of (s3 _ _ e2))
 generalize (upd H2 u3 (.tup [.str "",.str "",.str "",.ref u1,.ref u2]))=H3 at *
 lk
 refine⟨D5 (by z_go),fun e he=>?_⟩
 have s4:=A6.new he (.tup [])
 have s04:=A6.tr s1 (A6.tr s2 (A6.tr s3 s4))
 have sH4:=A6.tr s0 s04
 have G4:=G.same sH4
 refine wx4 (d:=.tuple (sDa ns)) (e:=.tuple []) (C3.mpr ⟨na,_,rfl,G4.hna,V6.mpr rfl⟩) (C3.mpr ⟨e,[],rfl,SqT.of A7,E6⟩) (Nat.le_trans (Nat.min_le_right _ _) (by decide)) ?_
 rw[wm5]
 have e4:=s04 _ _ e0
 have d4:=Dv.same s4 _ _ d3
 generalize upd H3 e (.tup [])=H4 at *
 lk
 by_cases hn:ns=[]
 ·have e0:(!ns.isEmpty)=false:=by rw[hn];rfl
  rw[e0]
  k_go
  lk
  exact zi9 G4 e4 n4 d4 hs fun t vs ps H'=>fin t vs ps H4 H' sH4
 ·have e0:(!ns.isEmpty)=true:=by cases ns with|nil=>exact absurd rfl hn|cons _ _=>rfl
  rw[e0]
  x_go
  lk
  refine⟨1,rfl,?_⟩
  obtain⟨xs,x,ex⟩:∃ xs x,ns=xs++[x]:=⟨ns.dropLast,ns.getLast hn,(List.dropLast_concat_getLast hn).symm⟩
  refine G7 G4.hna (v:=.str x) (U5 (n:=xs.length) (by rw[G8,ex];simp) (by rw[ex,X8 (by simp)];simp)) ?_
  lk
  refine⟨.ref bk,x,rs,rfl,G4.rws,fun fv H5 s5 dfv=>?_⟩
  lk
  exact zi9 (G4.same s5) (s5 _ _ e4) n4 dfv hs fun t vs ps H'=>fin t vs ps H5 H' (A6.tr sH4 s5)
theorem yf3:∀ {q:List Int} {t:Tr},way t q=none->∃ (q1:List Int) (k:Int) (r:List Int) (ws:List Tr) (u:Tr),q=q1++k::r/\way t q1=some (ws++[u])/\(k<0\/u.kids.length<=k.toNat)
 | [],t,h=>by rw[way] at h;cases h
 | k::q,t,h=>by
   rw[way] at h
   by_cases h0:0<=k
   ·rw[if_pos h0] at h
    cases e:t.kids[k.toNat]? with
    | none=>exact⟨[],k,q,[],t,rfl,by rw[way];rfl,.inr (by rw[List.getElem?_eq_none_iff] at e;exact e)⟩
    | some u =>
      rw[e] at h
      have h:(way u q).map (t::·)=none:=h
      have h:way u q=none:=by cases hh:way u q with|none=>rfl|some z=>rw[hh] at h;cases h
      obtain⟨q1,k',r,ws,u',rfl,h1,h2⟩:=yf3 h
      have:=ym6 (t:=t) (k:=k.toNat) e h1
      rw[show((k.toNat:Nat):Int)=k by omega] at this
      exact⟨k::q1,k',r,t::ws,u',rfl,this,h2⟩
   ·exact⟨[],k,q,[],t,rfl,by rw[way];rfl,.inl (by omega)⟩
theorem ys5{t:Tr}(h:way t q=some ws):∃ l u,ws=l++[u]:=by
 have:=V7 h
 cases e:ws.reverse with
 | nil=>simp at e;subst e;simp at this
 | cons u l=>exact⟨l.reverse,u,by have:=congrArg List.reverse e;simpa using this⟩
mutual
theorem ys6(t:Tr)(q:List Int)(ns ab:List Str)(ws:List Tr):∀ p:Tr,way t q=some (ws++[p])->∀ y∈wkT q ns ab p,∃ ws',way t y.1=some (ws'++[y.2.2])
 | .tx s,hw,y,hy=>by rw[wkT,List.mem_singleton] at hy;subst hy;exact⟨ws,hw⟩
 | .nd n ps,hw,y,hy=>by
   rw[wkT,List.mem_cons] at hy
   rcases hy with rfl|hy
   ·exact⟨ws,hw⟩
   ·exact ys7 t q ab ws (.nd n ps) hw [] ps rfl 0 rfl y hy
theorem ys7(t:Tr)(q:List Int)(ab:List Str)(ws:List Tr)(p:Tr)(hw:way t q=some (ws++[p])):∀ (done ts:List Tr),p.kids=done++ts->∀ k:Nat,k=done.length->∀ y∈wkS q ab k ts,∃ ws',way t y.1=some (ws'++[y.2.2])
 | done,[],_,k,_,y,hy=>by rw[wkS] at hy;cases hy
 | done,u::us,hk,k,hl,y,hy=>by
   have ek:p.kids[k]?=some u:=by rw[hk,hl];simp
   rw[wkS,List.mem_append] at hy
   rcases hy with hy|hy
   ·exact ys6 t _ _ _ (ws++[p]) u (qq0 hw ek) y hy
   ·exact ys7 t q ab ws p hw (done++[u]) us (by rw[hk];simp) (k+1) (by simp[hl]) y hy
end
theorem Ae2{t:Tr}{y:T3}(h:y∈wk ([],[],t)):∃ ws,way t y.1=some (ws++[y.2.2]):=ys6 t [] [] [] [] t (by rw[way];rfl) y h
variable{m:Int}
theorem wh3(h:0<=m):qg7 xs none (some m)=xs.take m.toNat:=by
 unfold qg7
 show(xs.drop 0).take (HT.sIx xs.length xs.length (some m)-0)=_
 rw[List.drop_zero,Nat.sub_zero]
 have e:HT.sIx xs.length xs.length (some m)=min m.toNat xs.length:=by
  show(if m<0 then _ else min m.toNat xs.length)=_
  rw[if_neg (by omega)]
 rw[e]
 by_cases hl:m.toNat<=xs.length
 ·rw[Nat.min_eq_left hl]
 ·rw[Nat.min_eq_right (by omega),List.take_length,List.take_of_length_le (by omega)]
theorem qq1(h:0<=m):qg7 xs (some m) none=xs.drop m.toNat:=by
 unfold qg7
 have e:HT.sIx xs.length 0 (some m)=min m.toNat xs.length:=by
  show(if m<0 then _ else min m.toNat xs.length)=_
  rw[if_neg (by omega)]
 show(xs.drop (HT.sIx xs.length 0 (some m))).take (xs.length-HT.sIx xs.length 0 (some m))=_
 rw[e]
 by_cases hl:m.toNat<=xs.length
 ·rw[Nat.min_eq_left hl,List.take_of_length_le (by rw[List.length_drop];exact Nat.le_refl _)]
 ·rw[Nat.min_eq_right (by omega),List.drop_length,List.drop_eq_nil_of_le (by omega),List.take_nil]
theorem qx7:∀ {ds:List PyData} {us:List V} (k:Nat),Dvs K H ds us->Dvs K H (ds.take k) (us.take k)
 | _,_,0,_=>by rw[List.take_zero,List.take_zero];exact E6
 | [],us,k+1,h=>by rw[Dvs] at h;subst h;exact E6
 | d::ds,us,k+1,h=>by rw[Dvs] at h;obtain⟨v,r,rfl,h1,h2⟩:=h;exact E1 h1 (qx7 k h2)
theorem qx8:∀ {ds:List PyData} {us:List V} (k:Nat),Dvs K H ds us->Dvs K H (ds.drop k) (us.drop k)
 | _,_,0,h=>by rw[List.drop_zero,List.drop_zero];exact h
 | [],us,k+1,h=>by rw[Dvs] at h;subst h;exact E6
 | d::ds,us,k+1,h=>by rw[Dvs] at h;obtain⟨v,r,rfl,h1,h2⟩:=h;exact qx8 k h2
theorem wh4(ts:List Tr)(k:Nat):Tr.das (ts.take k)=(Tr.das ts).take k:=by rw[O4,O4,List.map_take]
theorem wh5(ts:List Tr)(k:Nat):Tr.das (ts.drop k)=(Tr.das ts).drop k:=by rw[O4,O4,List.map_drop]
def qe5:Tr->List Int->List Tr->Tr
 | .tx s,_,_=>.tx s
 | .nd n _,[],ps=>.nd n ps
 | .nd n qs,k::pl,ps=>.nd n (qs.take k.toNat++[qe5 ((qs[k.toNat]?).getD (.tx "")) pl ps]++qs.drop (k.toNat+1))
theorem ys8:∀ (pl:List Int) (t u:Tr) (ws ps:List Tr),way t pl=some (ws++[u])->u.isTx=false->wt (qe5 t pl ps)+wts u.kids=wt t+wts ps
 | [],t,u,ws,ps,h,hu=>by
   rw[way] at h
   have:t=u:=by simpa using congrArg List.getLast? (Option.some.inj h)
   subst this
   cases t with
   | tx s=>cases hu
   | nd n qs=>rw[qe5,wt,wt];show 1+wts ps+wts qs=1+wts qs+wts ps;omega
 | k :: pl,t,u,ws,ps,h,hu=>by
   obtain⟨h0,w,ws',h1,h2,h3⟩:=S2 h
   cases t with
   | tx s=>cases h1
   | nd n qs =>
     have h1:qs[k.toNat]?=some w:=h1
     obtain⟨hl,e⟩:=List.getElem?_eq_some_iff.mp h1
     obtain⟨l,hl2⟩:∃ l,ws'=l++[u]:=by
      cases ws with
      | nil=>injection h3 with _ h3;subst h3;have:=V7 h2;simp at this
      | cons a l=>injection h3 with _ h3;exact⟨l,h3.symm⟩
     rw[hl2] at h2
     have ih:=ys8 pl w u l ps h2 hu
     rw[qe5,h1,wt,wt,qf1,qf1,wts,wts]
     have e2:qs=qs.take k.toNat++w::qs.drop (k.toNat+1):=by
      conv=>lhs;rw[<-List.take_append_drop k.toNat qs]
      rw[List.drop_eq_getElem_cons hl,e]
     have e3:wts qs=wts (qs.take k.toNat)+(wt w+wts (qs.drop (k.toNat+1))):=by
      conv=>lhs;rw[e2]
      rw[qf1,wts]
     show 1+(wts (qs.take k.toNat)+(wt (qe5 w pl ps)+0)+wts (qs.drop (k.toNat+1)))+wts u.kids=1+wts qs+wts ps
     omega
theorem xx4:∀ {pl:List Int} {t u:Tr} {ws:List Tr},way t pl=some (ws++[u])->pl.length+hgt u<=hgt t
 | [],t,u,ws,h=>by
   rw[way] at h
   have:t=u:=by simpa using congrArg List.getLast? (Option.some.inj h)
   subst this;simp
 | k :: pl,t,u,ws,h=>by
   obtain⟨h0,w,ws',h1,h2,h3⟩:=S2 h
   obtain⟨l,hl2⟩:∃ l,ws'=l++[u]:=by
    cases ws with
    | nil=>injection h3 with _ h3;subst h3;have:=V7 h2;simp at this
    | cons a l=>injection h3 with _ h3;exact⟨l,h3.symm⟩
   rw[hl2] at h2
   have ih:=xx4 h2
   cases t with
   | tx s=>cases h1
   | nd n qs =>
     have h1:qs[k.toNat]?=some w:=h1
     have:∀ {l:List Tr} {i:Nat},l[i]?=some w->hgt w<=O2 l:=by
      intro l
      induction l with
      | nil=>intro i h;simp at h
      | cons a l ih =>
        intro i h
        rw[O2]
        cases i with
        | zero=>cases h;omega
        | succ i=>have:=ih (i:=i) (by simpa using h);omega
     have:=this h1
     rw[hgt,List.length_cons];omega
theorem xr7(k:Nat)(ts:List Tr):O2 (ts.take k)<=O2 ts:=by
 have:=W7 (ts.take k) (ts.drop k)
 rw[List.take_append_drop] at this;omega
theorem xr8(k:Nat)(ts:List Tr):O2 (ts.drop k)<=O2 ts:=by
 have:=W7 (ts.take k) (ts.drop k)
 rw[List.take_append_drop] at this;omega
theorem zr7(k:Nat)(ts:List Tr):wts (ts.take k)+wts (ts.drop k)=wts ts:=by
 have:=qf1 (ts.take k) (ts.drop k)
 rw[List.take_append_drop] at this;omega
theorem yf4:∀ (pl:List Int) (t u:Tr) (ws ps:List Tr),way t pl=some (ws++[u])->u.isTx=false->hgt (qe5 t pl ps)<=max (hgt t) (pl.length+1+O2 ps)
 | [],t,u,ws,ps,h,hu=>by
   rw[way] at h
   have:t=u:=by simpa using congrArg List.getLast? (Option.some.inj h)
   subst this
   cases t with
   | tx s=>cases hu
   | nd n qs=>rw[qe5,hgt,List.length_nil];omega
 | k :: pl,t,u,ws,ps,h,hu=>by
   obtain⟨h0,w,ws',h1,h2,h3⟩:=S2 h
   cases t with
   | tx s=>cases h1
   | nd n qs =>
     have h1:qs[k.toNat]?=some w:=h1
     obtain⟨l,hl2⟩:∃ l,ws'=l++[u]:=by
      cases ws with
      | nil=>injection h3 with _ h3;subst h3;have:=V7 h2;simp at this
      | cons a l=>injection h3 with _ h3;exact⟨l,h3.symm⟩
     rw[hl2] at h2
     have ih:=yf4 pl w u l ps h2 hu
     have hw:hgt w<=O2 qs:=by
      have e:=W7 (qs.take k.toNat) (qs.drop k.toNat)
      rw[List.take_append_drop] at e
      obtain⟨hl,e1⟩:=List.getElem?_eq_some_iff.mp h1
      rw[List.drop_eq_getElem_cons hl,O2,e1] at e
      omega
     have a1:=xr7 k.toNat qs
     have a2:=xr8 (k.toNat+1) qs
     rw[qe5,h1,hgt,hgt,W7,W7,O2,O2,List.length_cons]
     show 1+max (max (O2 (qs.take k.toNat)) (max (hgt (qe5 w pl ps)) 0)) (O2 (qs.drop (k.toNat+1)))<=_
     omega
theorem zr8{t:Tr}(h:way t pl=some (ws++[u]))(ht:t.isTx=false):(qe5 t pl ps).isTx=false:=by
 cases t with
 | tx s=>cases ht
 | nd n qs=>cases pl with|nil=>rfl|cons k pl=>rfl
theorem qk9{a:Str}(h:some a=some r)(k:a.length<=100):r.length<=100:=by cases h;exact k
theorem yn3{t:Tr}{bs:Bool}(h:qc3 rs ns t bs=some r):r.length<=100:=by
 cases t with
 | tx s =>
   have h:wz9 rs ns s bs=some r:=h
   unfold wz9 at h
   repeat' split at h
   all_goals first|exact qk9 h (by decide)|cases h
 | nd n ps =>
   have h:wg7 rs ns n ps.length=some r:=h
   unfold wg7 at h
   split at h
   ·exact qk9 h (by decide)
   ·split at h
    ·exact qk9 h (by decide)
    ·split at h
     ·exact qk9 h (by decide)
     ·rcases xr4 rs ns n with e|e|e
      ·rw[e] at h
       have h:wp5 rs ns n=some r:=h
       unfold wp5 at h
       repeat' split at h
       all_goals first|exact qk9 h (by decide)|cases h
      ·rw[e] at h;exact qk9 h (by decide)
      ·rw[e] at h;exact qk9 h (by decide)
mutual
theorem yf5(pl:List Int):∀ (t:Tr) (p:List Int×Tr),p∈pre pl t->∀ n∈p.1,n∈pl\/n.natAbs<=wt t
 | .tx s,p,hp,n,hn=>by rw[pre,List.mem_singleton] at hp;subst hp;exact .inl hn
 | .nd m ps,p,hp,n,hn=>by
   rw[pre,List.mem_cons] at hp
   rcases hp with rfl|hp
   ·exact .inl hn
   ·refine(xr9 pl 0 ps p hp n hn).imp_right fun h=>?_
    rw[wt];omega
theorem xr9(pl:List Int)(k:Nat):∀ (ts:List Tr) (p:List Int×Tr),p∈qp8 pl k ts->∀ n∈p.1,n∈pl\/n.natAbs<=k+wts ts
 | [],p,hp,n,hn=>by rw[qp8] at hp;cases hp
 | t :: ts,p,hp,n,hn=>by
   rw[qp8,List.mem_append] at hp
   rw[wts]
   have:=ym1 t
   rcases hp with hp|hp
   ·rcases yf5 _ t p hp n hn with h|h
    ·rcases List.mem_append.mp h with h|h
     ·exact .inl h
     ·rw[List.mem_singleton.mp h];exact .inr (by omega)
    ·exact .inr (by omega)
   ·exact(xr9 pl (k+1) ts p hp n hn).imp_right fun h=>by omega
end
theorem yn4(h:V1 l=some (r,pl)):(pl,some r)∈l:=by
 unfold V1 at h
 obtain⟨x,hx,e⟩:=List.exists_of_findSome?_eq_some h
 obtain⟨p,o⟩:=x
 cases o with
 | none=>cases e
 | some r'=>cases e;exact hx
theorem yz2{t:Tr}(h:V1 (ffk rs [] [] t)=some (r,pl)):r.length<=100/\pl.length<=hgt t/\∀ n∈pl,n.natAbs<=wt t:=by
 have hm:=yn4 h
 obtain⟨q,k,ws,p,u,_,_,_,e⟩:=ye5 rs t _ hm
 have hp:pl∈(pre [] t).map (·.1):=by rw[xw1 rs [] [] t];exact List.mem_cons_of_mem _ (List.mem_map.mpr ⟨_,hm,rfl⟩)
 obtain⟨x,hx,rfl⟩:=List.mem_map.mp hp
 refine⟨yn3 e.symm,by have:=zg8 [] t x hx;simpa using this,fun n hn=>?_⟩
 rcases yf5 [] t x hx n hn with h|h
 ·cases h
 ·exact h
def qs3(K:Fg):Sp:=fun vs H Q _=>∃ (e C p:Addr) (r:Str) (ns:List Int),vs=[.ref e,.str r,.ref p]/\H e=some (ErX e C none)/\SeI K C "rule"/\SeI K C "place"/\r.length<=4096/\SqT K H p (E9 ns)/\ns.length<=1000/\(∀ n∈ns,n.natAbs<2 ^ 200)/\∀ dx H',H dx=none->dx≠e->(∀ b,b≠dx->b≠e->H' b=H b)->H' e=some (ErX e C (some dx))->H' dx=some (.xd [("place",.ref p),("rule",.str r)])->Q .non H'
def wa1(K:Fg):TS :=
 (C1 (qh6 (Ab8 K (A2 (A4 0) (A2 (Ac4 K ("the tree would have the fault ":Str) (" at ":Str) (A4 1) (A4 2)) B0))))
 (C1 (zp7 K (A4 0) (A4 1) "rule")
 (yc4 K (A4 0) (A4 2) "place")))
theorem yn5(h:qs3 K vs H Q E):wa1 K {nx:=fun _ H'=>Q .non H',rt:=Q} (J0 ["self","rule","place"] vs) H:=by
 obtain⟨e,C,p,r,ns,rfl,he,s1,s2,hr,hp,hl,hb,q⟩:=h
 show wa1 K _ [some (.ref e),some (.str r),some (.ref p)] H
 unfold wa1
 refine xu0 (yp7 (Ac1 ?_))
 lk
 refine Ac5 ?_
 lk
 refine⟨r,rfl,hr,?_⟩
 lk
 refine⟨p,ns,rfl,hp,hl,hb,fun z=>?_⟩
 lk
 refine⟨e,C,none,_,rfl,he,s1.qi,?_⟩
 show C1 (zp7 K (A4 0) (A4 1) "rule") (yc4 K (A4 0) (A4 2) "place") _ _ _
 refine xu0 (Ac2 ?_)
 lk
 refine⟨e,C,rfl,he,s1,fun dx h1 h2=>?_⟩
 show yc4 K (A4 0) (A4 2) "place" _ _ _
 refine zq1 ?_
 lk
 refine⟨e,C,dx,_,rfl,by rw[C6 (Ne.symm h2),A7],A7,by simp,s2,?_⟩
 refine q dx _ h1 h2 (fun b b1 b2=>?_) ?_ A7
 ·rw[C6 b1,C6 b1,C6 b2]
 ·rw[C6 (Ne.symm h2),C6 (Ne.symm h2),A7]
abbrev yf7(K:Fg)(k_NoPlace:Addr)(E:XK):TS :=
 (C1 (M3 (wj3 (D6 (wv9 zc2 yj1 (tC (.int 0)) (A4 3) (tCB (P6 K) (A2 (A4 4) B0)))))
 (xu4 k_NoPlace E (A2 (tC (.str "the place leads nowhere")) B0)) E8)
 (qh6 (tBM K "list" X6 (A4 2) (A2 (tOp (I9 K) (A4 4) (A4 3)) B0))))
abbrev yf8(K:Fg)(k_NoPlace:Addr)(E:XK):TS :=
 (C1 (E4 (C2 (Q6 K) [] E0 (A2 (tOp (I9 K) (A4 2) (tUn (rU fun i=>.int (-i)) (tC (.int 1)))) B0)) (B3 4))
 (yf7 K k_NoPlace E))
def qs4(K:Fg)(kX:Addr):Sp:=fun vs H Q E=>∃ (t:Tr) (v:V) (a:Addr) (pl:List Int),vs=[v,.ref a]/\Dv K H t.da v/\SqT K H a (E9 pl)/\pl.length<=50000/\(∀ (p:Addr) (us:List V) (ws:List Tr) H',way t pl=some ws->A6 H H'->H' p=some (.lst us)->Dvs K H' (Tr.das ws) us->Q (.ref p) H')/\(way t pl=none->∀ H',A6 H H'->E (.ref kX) none H')
def wa2(K:Fg)(k_NoPlace:Addr)(E:XK):TS :=
 (C1 (E4 (Y8 (A2 (A4 0) B0)) (B3 2))
 (C1 (qh9 (qi1 K (A4 1)) (B3 3)
 (yf8 K k_NoPlace E))
 (G9 (A4 2))))
variable{kX:Addr}
theorem yn6(h:qs4 K kX vs H Q E):wa2 K kX E {nx:=fun _ H'=>Q .non H',rt:=Q} (J0 ["tree","place","way","number","parts"] vs) H:=by
 obtain⟨t,v,a,pl,rfl,hd,ha,hl,q0,qq⟩:=h
 show wa2 K kX E _ [some v,some (.ref a),none,none,none] H
 unfold wa2
 obtain⟨q,r,ws,u,rfl,hw,hr⟩:∃ (q r:List Int) (ws:List Tr) (u:Tr),pl=q++r/\way t q=some (ws++[u])/\(r=[]\/∃ k r',r=k::r'/\way t (q++r)=none/\(k<0\/u.kids.length<=k.toNat)):=by
  cases e:way t pl with
  | some ws=>obtain⟨l,u,rfl⟩:=ys5 e;exact⟨pl,[],l,u,by simp,e,.inl rfl⟩
  | none=>obtain⟨q,k,r,ws,u,rfl,h1,h2⟩:=yf3 e;exact⟨q,k::r,ws,u,rfl,h1,.inr ⟨k,r,rfl,e,h2⟩⟩
 have hwl:=V7 hw
 rw[List.length_append] at hl
 lk
 refine⟨D5 (by z_go),fun p hp=>?_⟩
 lk
 refine qp6 (H0:=H) (xs:=E9 (q++r)) (.inr ha) (A6.new hp _) (fun i σ H'=>i<=q.length/\∃ (us:List V) (a3 a4:Option V),σ=[some v,some (.ref a),some (.ref p),a3,a4]/\A6 H H'/\H' p=some (.lst us)/\Dvs K H' (Tr.das ((ws++[u]).take (i+1))) us) ⟨Nat.zero_le _,[v],_,_,rfl,A6.new hp _,A7,?_⟩ (fun i σ H' ⟨_,_,_,_,_,s,_⟩=>s) ?_ ?_
 ·rw[List.take_add_one,List.take_zero,qx4 hw]
  show Dvs K _ (Tr.das [t]) [v]
  rw[Tr.das,Tr.das]
  exact Dvs.one (Dv.same (A6.new hp _) _ _ hd)
 ·rintro i x σ H' hx ⟨hi,us,a3,a4,rfl,s1,hp',dv⟩
  unfold E9 at hx
  rw[List.getElem?_map] at hx
  obtain⟨k',hk',rfl⟩:=Option.map_eq_some_iff.mp hx
  have hul:us.length=i+1:=by rw[Q5 dv,List.length_take];omega
  obtain⟨w,hwi,hgo⟩:∃ w,(ws++[u])[i]?=some w/\((0<=k'/\∃ z,w.kids[k'.toNat]?=some z/\(ws++[u])[i+1]?=some z/\i<q.length)\/((k'<0\/w.kids.length<=k'.toNat)/\way t (q++r)=none)):=by
   by_cases e:i<q.length
   ·have hq:q[i]?=some k':=by rw[<-hk',List.getElem?_append_left e]
    obtain⟨u',w,h1,h2,h3,h4⟩:=qx3 hw hq
    exact⟨u',h1,.inl ⟨h2,w,h3,h4,e⟩⟩
   ·obtain rfl:i=q.length:=by omega
    rw[List.getElem?_append_right (Nat.le_refl _),Nat.sub_self] at hk'
    rcases hr with rfl|⟨k,r',rfl,hn,hb⟩
    ·simp at hk'
    ·cases hk'
     have hws:ws.length=q.length:=by simpa using hwl
     exact⟨u,by rw[<-hws];simp,.inr ⟨hb,hn⟩⟩
  obtain⟨y,hy,dy⟩:=qb6 dv (i:=i) (t:=w) (by rw[List.getElem?_take_of_lt (by omega)];exact hwi)
  lk
  refine⟨1,rfl,?_⟩
  refine S5 (SqL.of hp') (U5 hul hy) ?_
  lk
  refine⟨w,y,rfl,dy,fun c ys H2 s2 hc dc=>?_⟩
  have hyl:=Q5 dc
  lk
  rcases hgo with⟨h0,z,h3,h4,e⟩|⟨hb,hn⟩
  ·rw[decide_eq_true h0]
   x_go
   lk
   refine O1 (.inr hc) ?_
   have hkl:=(List.getElem?_eq_some_iff.mp h3).1
   lk
   rw[decide_eq_true (by omega)]
   k_go
   lk
   have hp2:=s2 _ _ hp'
   refine⟨.inl ⟨rfl,_,SqL.of hp2⟩,?_⟩
   lk
   obtain⟨z',hz,dz⟩:=qb6 dc h3
   refine G7 hc (ixI h0 hz) ?_
   lk
   refine W6 hp2 (by rw[sizeLine_eq];omega) ?_
   have tk:qh4 H2 (upd H2 p (.lst (us++[z']))):=U6 hp2
   refine⟨e,us++[z'],_,_,rfl,A6.put (A6.tr s1 s2) hp _,A7,?_⟩
   rw[List.take_add_one,h4,O4,List.map_append,<-O4]
   exact Dvs.append (Dvs.tupK tk _ _ (qe9 _) (Dvs.same s2 _ _ dv)) (Dvs.one (Dv.tupK tk _ _ (qa9 z) dz))
  ·by_cases h0:0<=k'
   ·rw[decide_eq_true h0]
    x_go
    lk
    refine O1 (.inr hc) ?_
    lk
    rw[decide_eq_false (by omega)]
    x_go
    exact⟨D5 (by z_go),qq hn H2 (A6.tr s1 s2)⟩
   ·rw[decide_eq_false h0]
    k_go
    lk
    exact⟨D5 (by z_go),qq hn H2 (A6.tr s1 s2)⟩
 ·rintro σ H' ⟨hi,us,a3,a4,rfl,s1,hp',dv⟩
  rw[M5,List.length_append] at hi
  lk
  obtain rfl:r=[]:=List.eq_nil_of_length_eq_zero (by omega)
  rw[List.take_of_length_le (by rw[M5,List.append_nil];omega)] at dv
  exact q0 p us _ H' (by rw[List.append_nil];exact hw) s1 hp' dv
def qn3(K:Fg)(kX:Addr):Sp:=fun vs H Q E=>∃ (t:Tr) (v:V) (a:Addr) (pl:List Int),vs=[v,.ref a]/\Dv K H t.da v/\SqT K H a (E9 pl)/\pl.length<=50000/\(∀ (x:V) (ws:List Tr) (u:Tr) H',way t pl=some (ws++[u])->A6 H H'->Dv K H' u.da x->Q x H')/\(way t pl=none->∀ H',A6 H H'->E (.ref kX) none H')
def qs5(K:Fg)(k_NoPlace:Addr)(E:XK):TS :=
 (G9 (tOp (I9 K) (C2 (qs4 K k_NoPlace) [] E (A2 (A4 0) (A2 (A4 1) B0))) (tUn (rU fun i=>.int (-i)) (tC (.int 1)))))
theorem yg0(h:qn3 K kX vs H Q E):qs5 K kX E {nx:=fun _ H'=>Q .non H',rt:=Q} (J0 ["tree","place"] vs) H:=by
 obtain⟨t,v,a,pl,rfl,hd,ha,hl,q0,qq⟩:=h
 show qs5 K kX E _ [some v,some (.ref a)] H
 unfold qs5
 lk
 refine⟨t,v,a,pl,rfl,hd,ha,hl,fun p us ws H' hw s1 hp dv=>?_,qq⟩
 lk
 refine⟨1,rfl,?_⟩
 obtain⟨l,u,rfl⟩:=ys5 hw
 rw[O4,List.map_append] at dv
 obtain⟨us',x,rfl,_,dx⟩:=Dvs.snoc dv
 refine S5 (SqL.of hp) (v:=x) (U5 (n:=us'.length) (by simp) (by simp)) ?_
 exact q0 x l u H' hw s1 dx
def zj0(t:Tr)(pl:List Int)(be:Nat):Prop:=∃ (q:List Int) (k:Nat) (ws:List Tr) (u:Tr),pl=q++[(k:Int)]/\way t q=some (ws++[u])/\u.isTx=false/\k<u.kids.length+be
theorem zr9(h:pl≠[]):∃ q k,pl=q++[k]:=⟨pl.dropLast,pl.getLast h,(List.dropLast_concat_getLast h).symm⟩
abbrev wh6(K:Fg)(k_NoPlace:Addr)(E:XK):TS :=
 (C1 (M3 (tOr (tB (C2 (qb0 K) [] E0 (A2 (A4 3) B0))) (wj3 (D6 (wv9 zc2 yj1 (tC (.int 0)) (tOp (I9 K) (A4 1) (tUn (rU fun i=>.int (-i)) (tC (.int 1)))) (tOp (R1 K) (tCB (P6 K) (A2 (C2 (Q6 K) [] E0 (A2 (A4 3) B0)) B0)) (A4 2))))))
 (xu4 k_NoPlace E (A2 (tC (.str "the place leads nowhere")) B0)) E8)
 (G9 (C2 (Q6 K) [] E0 (A2 (A4 3) B0))))
abbrev wh7(K:Fg)(k_NoPlace:Addr)(E:XK):TS :=
 (C1 (E4 (C2 (qn3 K k_NoPlace) [] E (A2 (A4 0) (A2 (tSl (qr1 K) (A4 1) Q1 (Z1 (tUn (rU fun i=>.int (-i)) (tC (.int 1))))) B0))) (B3 3))
 (wh6 K k_NoPlace E))
def Y0(K:Fg)(kX:Addr):Sp:=fun vs H Q E=>∃ (t:Tr) (v:V) (a:Addr) (pl:List Int) (be:Nat),vs=[v,.ref a,.int be]/\Dv K H t.da v/\SqT K H a (E9 pl)/\pl.length<=50000/\(∀ (q:List Int) (k:Nat) (ws:List Tr) (u:Tr) (p:Addr) (us:List V) H',pl=q++[(k:Int)]->way t q=some (ws++[u])->u.isTx=false->k<u.kids.length+be->A6 H H'->SqT K H' p us->Dvs K H' (Tr.das u.kids) us->Q (.ref p) H')/\(¬zj0 t pl be->∀ H',A6 H H'->E (.ref kX) none H')
def qa3(K:Fg)(k_NoPlace:Addr)(E:XK):TS :=
 (C1 (M3 (D6 (tOp (Q7 K) (tCB (P6 K) (A2 (A4 1) B0)) (tC (.int 0))))
 (xu4 k_NoPlace E (A2 (tC (.str "the root lies among no parts")) B0)) E8)
 (wh7 K k_NoPlace E))
theorem wm7(h:Y0 K kX vs H Q E):qa3 K kX E {nx:=fun _ H'=>Q .non H',rt:=Q} (J0 ["tree","place","beyond","above"] vs) H:=by
 obtain⟨t,v,a,pl,be,rfl,hd,ha,hl,q0,qq⟩:=h
 show qa3 K kX E _ [some v,some (.ref a),some (.int be),none] H
 unfold qa3
 lk
 refine O1 (.inr ha) ?_
 rw[M5]
 lk
 by_cases hn:pl=[]
 ·subst hn
  rw[decide_eq_true (by simp)]
  x_go
  refine⟨D5 (by z_go),qq ?_ H (fun _ _ e=>e)⟩
  rintro⟨q,k,_,_,e,_⟩
  exact absurd e.symm (by simp)
 obtain⟨q,k,rfl⟩:=zr9 hn
 rw[decide_eq_false (by rw[List.length_append];show ¬_;simp;omega)]
 k_go
 lk
 rw[List.length_append] at hl
 refine⟨1,rfl,?_⟩
 lk
 refine qk3 ha fun c H1 s1 hc=>?_
 rw[S9,wg8] at hc
 lk
 refine⟨t,v,c,q,rfl,Dv.same s1 _ _ hd,hc,by omega,fun x ws u H2 hw s2 dx=>?_,fun hn H2 s2=>qq ?_ H2 (A6.tr s1 s2)⟩
 ·have s12:=A6.tr s1 s2
  have ha:=s12.sqT ha
  lk
  refine⟨u,x,rfl,dx,?_⟩
  cases hu:u.isTx with
  | true =>
    lk
    refine⟨D5 (by z_go),qq ?_ H2 s12⟩
    rintro⟨q',k',ws',u',e,h1,h2,_⟩
    obtain⟨rfl,_⟩:=List.append_inj' e rfl
    rw[hw] at h1
    have:=congrArg List.getLast? (Option.some.inj h1)
    simp at this
    subst this
    rw[hu] at h2;cases h2
  | false =>
    lk
    refine⟨1,rfl,?_⟩
    refine G7 ha (v:=.int k) (by rw[S9];exact U5 (n:=q.length) (by simp[E9]) (by simp[E9])) ?_
    lk
    by_cases h0:0<=k
    ·rw[decide_eq_true h0]
     x_go
     lk
     refine⟨u,x,rfl,dx,fun c2 ys H3 s3 hc2 dc=>?_⟩
     have hyl:=Q5 dc
     lk
     refine O1 (.inr hc2) ?_
     lk
     refine .inl (qq9 ?_)
     lk
     by_cases h1:k<(ys.length:Int)+be
     ·rw[decide_eq_true h1]
      k_go
      lk
      refine⟨u,x,rfl,Dv.same s3 _ _ dx,fun c4 zs H4 s4 hc4 d4=>?_⟩
      exact q0 q k.toNat ws u c4 zs H4 (by rw[show((k.toNat:Nat):Int)=k by omega]) hw hu (by omega) (A6.tr s12 (A6.tr s3 s4)) hc4 d4
     ·rw[decide_eq_false h1]
      x_go
      refine⟨D5 (by z_go),qq ?_ H3 (A6.tr s12 s3)⟩
      rintro⟨q',k',ws',u',e,h2,h3,h4⟩
      obtain⟨rfl,e2⟩:=List.append_inj' e rfl
      cases e2
      rw[hw] at h2
      have:=congrArg List.getLast? (Option.some.inj h2)
      simp at this
      subst this
      omega
    ·rw[decide_eq_false h0]
     k_go
     lk
     refine⟨D5 (by z_go),qq ?_ H2 s12⟩
     rintro⟨q',k',ws',u',e,h2,h3,h4⟩
     obtain⟨rfl,e2⟩:=List.append_inj' e rfl
     cases e2
     omega
 ·rintro⟨q',k',ws',u',e,h2,h3,h4⟩
  obtain⟨rfl,e2⟩:=List.append_inj' e rfl
  rw[hn] at h2;cases h2
theorem zj1{w:Tr}:∀ {l:List Tr} {i:Nat},l[i]?=some w->wt w<=wts l
 | [],i,h=>by simp at h
 | a::l,0,h=>by cases h;rw[wts];omega
 | a::l,i+1,h=>by have:=zj1 (l:=l) (i:=i) (by simpa using h);rw[wts];omega
theorem zs0{t w:Tr}(h:t.kids[i]?=some w):wt w<=wt t:=by
 cases t with
 | tx s=>cases h
 | nd n ps=>have:=zj1 (l:=ps) h;rw[wt];omega
theorem xx6:∀ {pl:List Int} {t w:Tr} {ws:List Tr} {i:Nat},way t pl=some ws->ws[i]?=some w->wt w<=wt t
 | [],t,w,ws,i,h,e=>by
   rw[way] at h;cases h
   cases i with
   | zero=>cases e;exact Nat.le_refl _
   | succ i=>simp at e
 | k::pl,t,w,ws,i,h,e=>by
   obtain⟨h0,u,ws',h1,h2,rfl⟩:=S2 h
   cases i with
   | zero=>cases e;exact Nat.le_refl _
   | succ i=>exact Nat.le_trans (xx6 h2 (by simpa using e)) (zs0 h1)
theorem xx7{t:Tr}(h:t.isTx=false):wt t=1+wts t.kids/\hgt t=1+O2 t.kids:=by
 cases t with
 | tx s=>cases h
 | nd n ps=>exact⟨by rw[wt];rfl,by rw[hgt];rfl⟩
theorem yg1{t u':Tr}{ws':List Tr}(h:way t q=some (ws++[u]))(h':way t q=some (ws'++[u'])):u=u':=by
 rw[h] at h'
 have:=congrArg List.getLast? (Option.some.inj h')
 simpa using this
abbrev xd5(K:Fg):TS :=
 (E4 (M6 (A2 (C2 (U0 K) [] E0 (A2 (tOp (I9 K) (A4 3) (A4 5)) B0)) (A2 (tOp (R1 K) (tOp (R1 K) (tSl (qr1 K) (A4 7) Q1 (Z1 (A4 6))) (M6 (A2 (A4 4) B0))) (tSl (qr1 K) (A4 7) (Z1 (tOp (R1 K) (A4 6) (tC (.int 1)))) Q1)) B0))) (B3 4))
abbrev xd6(K:Fg):TS :=
 (C1 (E4 (C2 (Q6 K) [] E0 (A2 (tOp (I9 K) (A4 3) (A4 5)) B0)) (B3 7))
 (xd5 K))
abbrev xd7(K:Fg):TS :=
 (C1 (qh9 (yq1 (A2 (tOp (rI0 fun i j=>.int (i-j)) (tCB (P6 K) (A2 (A4 1) B0)) (tC (.int 1))) (A2 (tUn (rU fun i=>.int (-i)) (tC (.int 1))) (A2 (tUn (rU fun i=>.int (-i)) (tC (.int 1))) B0)))) (B3 5)
 (C1 (E4 (tOp (I9 K) (A4 1) (A4 5)) (B3 6))
 (xd6 K)))
 (G9 (A4 4)))
abbrev xd8(K:Fg):TS :=
 (C1 (E4 (M6 (A2 (C2 (U0 K) [] E0 (A2 (tOp (I9 K) (A4 3) (tUn (rU fun i=>.int (-i)) (tC (.int 1)))) B0)) (A2 (A4 2) B0))) (B3 4))
 (xd7 K))
def Z6(K:Fg):Sp:=fun vs H Q _=>∃ (t u:Tr) (v:V) (a b:Addr) (q:List Int) (ws ps:List Tr) (us:List V),vs=[v,.ref a,.ref b]/\Dv K H t.da v/\SqT K H a (E9 q)/\way t q=some (ws++[u])/\u.isTx=false/\SqT K H b us/\Dvs K H (Tr.das ps) us/\wt t<=30000/\q.length<=50000/\∀ (x:V) (H':Hp),A6 H H'->Dv K H' (qe5 t q ps).da x->Q x H'
def qj0(K:Fg):TS :=
 (C1 (E4 (C2 (qj9 K) [] E0 (A2 (A4 0) (A2 (A4 1) B0))) (B3 3))
 (xd8 K))
theorem xn0(h:Z6 K vs H Q E):qj0 K {nx:=fun _ H'=>Q .non H',rt:=Q} (J0 ["tree","place","parts","way","part","level","number","beside"] vs) H:=by
 obtain⟨t,u,v,a,b,q,ws,ps,us,rfl,hd,ha,hw,hu,hb,dp,hz,hl,qq⟩:=h
 show qj0 K _ [some v,some (.ref a),some (.ref b),none,none,none,none,none] H
 unfold qj0
 have hwl:ws.length=q.length:=by simpa using V7 hw
 lk
 refine⟨t,v,a,q,ws++[u],rfl,hd,ha,hw,hl,fun p us' H1 s1 hp dv=>?_⟩
 have hul:=Q5 dv
 rw[List.length_append] at hul
 lk
 refine⟨1,rfl,?_⟩
 obtain⟨y,hy,dy⟩:=qb6 dv (i:=q.length) (t:=u) (by rw[<-hwl];simp)
 refine S5 (SqL.of hp) (U5 (n:=q.length) (by rw[hul,hwl];rfl) hy) ?_
 lk
 cases u with
 | tx s=>cases hu
 | nd n ks =>
   refine⟨n,ks,y,rfl,dy,?_⟩
   lk
   refine⟨D5 (by z_go),fun c hc=>?_⟩
   have s2:=A6.new hc (.tup [.str n,.ref b])
   have e2:(upd H1 c (.tup [.str n,.ref b])) c=some (.tup [.str n,.ref b]):=A7
   generalize upd H1 c (.tup [.str n,.ref b])=H2 at *
   have s12:=A6.tr s1 s2
   have dn:Dv K H2 (Tr.nd n ps).da (.ref c):=qx2 (SqT.of e2) (s12.sqT hb) (Dvs.same s12 _ _ dp)
   have dv:=Dvs.same s2 _ _ dv
   have hp:=s2 _ _ hp
   have ha:=s12.sqT ha
   lk
   refine O1 (.inr ha) ?_
   rw[M5]
   lk
   refine⟨1,rfl,?_⟩
   lk
   refine⟨1,rfl,?_⟩
   lk
   refine ze3 (n:=q.length) (by omega) (fun i σ H'=>∃ (x:V) (a5 a6 a7:Option V),σ=[some v,some (.ref a),some (.ref b),some (.ref p),some x,a5,a6,a7]/\A6 H2 H'/\∃ w,(ws++[Tr.nd n ks])[q.length-i]?=some w/\Dv K H' (qe5 w (q.drop (q.length-i)) ps).da x) ⟨_,_,_,_,rfl,fun _ _ e=>e,.nd n ks,by rw[<-hwl];simp,by rw[Nat.sub_zero,List.drop_length,qe5];exact dn⟩ ?_ ?_
   ·rintro i σ H' hi ⟨x,a5,a6,a7,rfl,s3,w,hwi,dx⟩
    obtain⟨j,hj⟩:∃ j,q.length=j+1+i:=⟨q.length-1-i,by omega⟩
    have hjl:j<q.length:=by omega
    rw[show q.length-i=j+1 by omega] at hwi dx
    have ej:((q.length:Int)-1-i)=(j:Int):=by omega
    obtain⟨k,hk⟩:∃ k,q[j]?=some k:=⟨_,List.getElem?_eq_getElem hjl⟩
    obtain⟨u',w',h1,h2,h3,h4⟩:=qx3 hw hk
    obtain rfl:w=w':=by rw[hwi] at h4;exact Option.some.inj h4
    have hwt:=xx6 hw h1
    obtain⟨y,hy,dy⟩:=qb6 (Dvs.same s3 _ _ dv) h1
    have hp:=s3 _ _ hp
    have ha:=s3.sqT ha
    rw[ej]
    lk
    refine G7 ha (v:=.int k) (ixI (by omega) (by rw[Int.toNat_natCast];unfold E9;rw[List.getElem?_map,hk];rfl)) ?_
    lk
    refine S5 (SqL.of hp) (ixI (by omega) (by rw[Int.toNat_natCast];exact hy)) ?_
    lk
    refine⟨u',y,rfl,dy,fun c1 zs H4 s4 hc1 d1=>?_⟩
    have hzl:=Q5 d1
    lk
    refine S5 (SqL.of (s4 _ _ hp)) (ixI (by omega) (by rw[Int.toNat_natCast];exact hy)) ?_
    lk
    cases u' with
    | tx s=>cases h3
    | nd m ts =>
      have h3:ts[k.toNat]?=some w:=h3
      have htl:=wg4 ts
      have hzl:zs.length=ts.length:=hzl
      rw[wt] at hwt
      refine⟨m,ts,y,rfl,Dv.same s4 _ _ dy,?_⟩
      lk
      refine qk3 hc1 fun c2 H5 s5 hc2=>?_
      rw[wh3 h2] at hc2
      lk
      refine⟨D5 (by z_go),fun c3 hc3=>?_⟩
      have s6:=A6.new hc3 (.tup [x])
      refine qe1 (s6.sqT hc2) (SqT.of A7) (D5 (by rw[List.length_take];show _+1<=_;omega)) fun c4 H7 s7 hc4=>?_
      lk
      refine .inl (qq9 ?_)
      lk
      have s57:=A6.tr s5 (A6.tr s6 s7)
      refine qk3 (s57.sqT hc1) fun c5 H8 s8 hc5=>?_
      rw[qq1 (by omega),show(k+1).toNat=k.toNat+1 by omega] at hc5
      refine qe1 (s8.sqT hc4) hc5 (D5 (by rw[List.length_append,List.length_take,List.length_drop];show _+1+_<=_;omega)) fun c6 H9 s9 hc6=>?_
      lk
      refine⟨D5 (by z_go),fun c7 hc7=>?_⟩
      have s10:=A6.new hc7 (.tup [.str m,.ref c6])
      have s510:=A6.tr s57 (A6.tr s8 (A6.tr s9 s10))
      lk
      refine⟨_,_,_,_,rfl,A6.tr s3 (A6.tr s4 s510),.nd m ts,by rw[show q.length-(i+1)=j by omega];exact h1,?_⟩
      rw[show q.length-(i+1)=j by omega,List.drop_eq_getElem_cons hjl,(List.getElem?_eq_some_iff.mp hk).2,qe5,h3]
      refine qx2 (SqT.of A7) (s10.sqT hc6) ?_
      rw[qc8,qc8,wh4,wh5]
      have d1:=Dvs.same s510 _ _ d1
      refine Dvs.append (Dvs.append (qx7 _ d1) ?_) (qx8 _ d1)
      rw[Tr.das,Tr.das]
      exact Dvs.one (Dv.same (A6.tr s4 s510) _ _ dx)
   ·rintro σ H' ⟨x,a5,a6,a7,rfl,s3,w,hwi,dx⟩
    lk
    rw[Nat.sub_self,List.drop_zero] at dx
    rw[Nat.sub_self,qx4 hw] at hwi
    cases hwi
    exact qq x H' (A6.tr s12 s3) dx
def zj2(K:Fg)(H:Hp)(E:XK)(kX:Addr)(o:Option (Str×List Int)):Prop:=∀ r pl,o=some (r,pl)->∀ (dx p:Addr) (H':Hp),A6 H H'->H' dx=some (.xd [("place",.ref p),("rule",.str r)])->SqT K H' p (E9 pl)->E (.ref kX) (some dx) H'
variable{o:Option (Str×List Int)}
theorem zj2.same(h:zj2 K H E kX o)(s:A6 H H'):zj2 K H' E kX o:=fun r pl e dx p H2 s2=>h r pl e dx p H2 (A6.tr s s2)
abbrev xx8(K:Fg)(k_NoFit:Addr)(E:XK):TS :=
 (xu7 k_NoFit E (qs3 K) (A2 (tOp (I9 K) (A4 2) (tC (.int 0))) (A2 (tOp (I9 K) (A4 2) (tC (.int 1))) B0)))
abbrev xx9(K:Fg)(k_NoFit:Addr)(E:XK):TS :=
 (C1 (M3 (D6 (tOp qm0 (A4 2) (tC .non)))
 (xx8 K k_NoFit E) E8)
 (G9 (A4 1)))
def qh2(K:Fg)(kX:Addr):Sp:=fun vs H Q E=>∃ (t:Tr) (bv v:V) (rs:List Row),vs=[bv,v]/\Rws K H bv rs/\Dv K H t.da v/\wt t<=40000/\hgt t<=700/\(V1 (ffk rs [] [] t)=none->∀ H',A6 H H'->Q v H')/\zj2 K H E kX (V1 (ffk rs [] [] t))
def qs6(K:Fg)(k_NoFit:Addr)(E:XK):TS :=
 (C1 (E4 (C2 (qm7 K) [] E0 (A2 (A4 0) (A2 (A4 1) B0))) (B3 2))
 (xx9 K k_NoFit E))
theorem yg2(se_rule:SeI K kX "rule")(se_place:SeI K kX "place")(h:qh2 K kX vs H Q E):qs6 K kX E {nx:=fun _ H'=>Q .non H',rt:=Q} (J0 ["book","tree","fault"] vs) H:=by
 obtain⟨t,bv,v,rs,rfl,hR,hd,hw,hh,q0,q1⟩:=h
 show qs6 K kX E _ [some bv,some v,none] H
 unfold qs6
 lk
 refine⟨t,bv,v,rs,rfl,hR,hd,hw,fun p hp=>by have:=zg8 [] _ p hp;simp at this;omega,fun x H1 s1 hx=>?_⟩
 lk
 cases hf:V1 (ffk rs [] [] t) with
 | none =>
   rw[hf] at hx
   obtain rfl:x=.non:=hx
   rw[decide_eq_true rfl]
   k_go
   lk
   exact q0 hf H1 s1
 | some y =>
   obtain⟨r,pl⟩:=y
   obtain⟨f1,f2,f3⟩:=yz2 hf
   rw[hf] at hx
   obtain⟨c,us,rfl,hc,du⟩:=C3.mp (show Dv K H1 (.tuple [.str r,.tuple (qa8 pl)]) x from hx)
   rw[Dvs] at du
   obtain⟨y1,us,rfl,d1,du⟩:=du
   rw[Dvs] at du
   obtain⟨y2,us,rfl,d2,du⟩:=du
   rw[Dvs] at du
   subst du
   obtain rfl:=N6.mp d1
   obtain⟨p,ps,rfl,hp,dp⟩:=C3.mp d2
   obtain rfl:=N7.mp dp
   rw[decide_eq_false (by simp)]
   x_go
   refine yy3 ?_
   lk
   refine G7 hc (v:=.str r) (D8 (j:=0) rfl) ?_
   lk
   refine G7 hc (v:=.ref p) (D8 (j:=1) rfl) ?_
   lk
   refine⟨D5 (by z_go),fun e he=>?_⟩
   have s2:=A6.new he (ErX e kX none)
   refine⟨e,kX,p,r,pl,rfl,A7,se_rule,se_place,by omega,s2.sqT hp,by omega,fun n hn=>Nat.lt_of_le_of_lt (Nat.le_trans (f3 n hn) hw) (by decide),fun dx H2 n1 n2 hb he2 hd2=>⟨rfl,some dx,he2,?_⟩⟩
   have s3:A6 H1 (rmv H2 e):=fun b o eb=>by
    have b1:b≠e:=fun z=>by rw[z,he] at eb;cases eb
    have b2:b≠dx:=fun z=>by rw[z] at eb;have:=s2 _ _ eb;rw[n1] at this;cases this
    rw[qr5 b1,hb b b2 b1,C6 b1];exact eb
   exact q1 r pl hf dx p _ (A6.tr s1 s3) (by rw[qr5 n2];exact hd2) (s3.sqT hp)
def qx9(K:Fg)(kX:Addr)(kY:Addr):Sp:=fun _ _ _ _=>False
variable{B C:Nat}
theorem xe0{t:Tr}(hw:way t q=some (ws++[u]))(hu:u.isTx=false)(h1:wts ps<=wts u.kids+B)(h2:O2 ps<=O2 u.kids+C):wt (qe5 t q ps)<=wt t+B/\hgt (qe5 t q ps)<=hgt t+C:=by
 have p1:=ys8 q t u ws ps hw hu
 have p2:=yf4 q t u ws ps hw hu
 have p3:=xx4 hw
 have:=(xx7 hu).2
 omega
def wm8(ts:List Tr)(k:Nat)(w:Tr):List Tr:=ts.take k++[w]++ts.drop k
theorem wv2(ts:List Tr)(k:Nat)(w:Tr):wts (wm8 ts k w)<=wts ts+wt w/\O2 (wm8 ts k w)<=O2 ts+hgt w:=by
 have a1:=zr7 k ts
 have b1:=xr7 k ts
 have b2:=xr8 k ts
 unfold wm8
 rw[qf1,qf1,wts,wts,W7,W7,O2,O2]
 omega
structure yz3(K:Fg)(H:Hp)(Q:VK)(E:XK)(kY:Addr)(rs:List Row)(t:Tr):Prop where
 q0:V1 (ffk rs [] [] t)=none->∀ x H',A6 H H'->Dv K H' t.da x->Q x H'
 q1:zj2 K H E kY (V1 (ffk rs [] [] t))
variable{kY:Addr}
theorem yz3.same{t:Tr}(h:yz3 K H Q E kY rs t)(s:A6 H H'):yz3 K H' Q E kY rs t:=⟨fun e x H2 s2=>h.q0 e x H2 (A6.tr s s2),h.q1.same s⟩
variable{bv:V}
theorem zs1{t:Tr}{us:List V}{c3 c8:Addr}(hR:Rws K H bv rs)(hd:Dv K H t.da v)(h3:SqT K H c3 (E9 q))(hw:way t q=some (ws++[u]))(hu:u.isTx=false)(h8:SqT K H c8 us)(dp:Dvs K H (Tr.das ps) us)(hz:wt t<=20000)(hl:q.length<=50000)(b1:wt (qe5 t q ps)<=40000)(b2:hgt (qe5 t q ps)<=700)(M:yz3 K H Q E kY rs (qe5 t q ps)):Z6 K [v,.ref c3,.ref c8] H (fun x H1=>qh2 K kY [bv,x] H1 Q E) E0 :=
 ⟨t,u,v,c3,c8,q,ws,ps,us,rfl,hd,h3,hw,hu,h8,dp,by omega,hl,fun x H1 s1 dx=>⟨_,bv,x,rs,rfl,Rws.same hR s1,dx,b1,b2,fun hn H' s'=>M.q0 hn x H' (A6.tr s1 s') (Dv.same s' _ _ dx),M.q1.same s1⟩⟩
structure Ask(K:Fg)(H:Hp)(t:Tr)(bv v:V)(rs:List Row)(a:Addr)(pl:List Int):Prop where
 R:Rws K H bv rs
 d:Dv K H t.da v
 a:SqT K H a (E9 pl)
 w:wt t<=10000
 h:hgt t<=300
 l:pl.length<=50000
theorem Ask.same{t:Tr}(A:Ask K H t bv v rs a pl)(s:A6 H H'):Ask K H' t bv v rs a pl:={A with R:=Rws.same A.R s,d:=Dv.same s _ _ A.d,a:=s.sqT A.a}
abbrev yg3(K:Fg)(k_NoFit:Addr)(E:XK):TS :=
 (G9 (C2 (qh2 K k_NoFit) [] E (A2 (A4 0) (A2 (C2 (Z6 K) [] E0 (A2 (A4 1) (A2 (tSl (qr1 K) (A4 2) Q1 (Z1 (tUn (rU fun i=>.int (-i)) (tC (.int 1))))) (A2 (tOp (R1 K) (tOp (R1 K) (tSl (qr1 K) (A4 4) Q1 (Z1 (A4 5))) (M6 (A2 (A4 3) B0))) (tSl (qr1 K) (A4 4) (Z1 (A4 5)) Q1)) B0)))) B0))))
abbrev yg4(K:Fg)(k_NoFit:Addr)(E:XK):TS :=
 (C1 (E4 (tOp (I9 K) (A4 2) (tUn (rU fun i=>.int (-i)) (tC (.int 1)))) (B3 5))
 (yg3 K k_NoFit E))
def qs7(K:Fg)(kX:Addr)(kY:Addr):Sp:=fun vs H Q E=>∃ (t:Tr) (bv v bt:V) (rs:List Row) (a:Addr) (pl:List Int) (bit:Tr),vs=[bv,v,.ref a,bt]/\Ask K H t bv v rs a pl/\Dv K H bit.da bt/\wt bit<=10000/\hgt bit<=300/\(¬zj0 t pl 1->∀ H',A6 H H'->E (.ref kX) none H')/\∀ (q:List Int) (k:Nat) (ws:List Tr) (u:Tr),pl=q++[(k:Int)]->way t q=some (ws++[u])->u.isTx=false->k<=u.kids.length->yz3 K H Q E kY rs (qe5 t q (wm8 u.kids k bit))
def wa3(K:Fg)(k_NoPlace:Addr)(k_NoFit:Addr)(E:XK):TS :=
 (C1 (E4 (C2 (Y0 K k_NoPlace) [] E (A2 (A4 1) (A2 (A4 2) (A2 (tC (.int 1)) B0)))) (B3 4))
 (yg4 K k_NoFit E))
theorem yn7(sf_rule:SeI K kY "rule")(sf_place:SeI K kY "place")(h:qs7 K kX kY vs H Q E):wa3 K kX kY E {nx:=fun _ H'=>Q .non H',rt:=Q} (J0 ["book","tree","place","bit","parts","number"] vs) H:=by
 obtain⟨t,bv,v,bt,rs,a,pl,bit,rfl,A,db,wb,hb,qb,qg⟩:=h
 show wa3 K kX kY E _ [some bv,some v,some (.ref a),some bt,none,none] H
 unfold wa3
 lk
 refine⟨t,v,a,pl,1,rfl,A.d,A.a,A.l,fun q k ws u p us H1 e1 hw hu hk s1 hp du=>?_,fun hn H1 s1=>qb hn H1 s1⟩
 have hul:=Q5 du
 have A1:=A.same s1
 have hv:=xx6 hw (i:=ws.length) (w:=u) (by simp)
 obtain⟨wu,hgu⟩:=xx7 hu
 have hkl:=wg4 u.kids
 have aw:=A.w
 have al:=A.l
 have ah:=A.h
 subst e1
 rw[List.length_append] at al
 lk
 refine⟨1,rfl,?_⟩
 refine G7 A1.a (v:=.int k) (by rw[S9];exact U5 (n:=q.length) (by simp[E9]) (by simp[E9])) ?_
 lk
 refine⟨1,rfl,?_⟩
 lk
 refine qk3 A1.a fun c3 H2 s2 hc3=>?_
 rw[S9,wg8] at hc3
 lk
 refine qk3 (s2.sqT hp) fun c4 H3 s3 hc4=>?_
 rw[wh3 (by omega),Int.toNat_natCast] at hc4
 lk
 refine⟨D5 (by z_go),fun c5 hc5=>?_⟩
 have s4:=A6.new hc5 (.tup [bt])
 refine qe1 (s4.sqT hc4) (SqT.of A7) (D5 (by rw[List.length_take];show _+1<=_;omega)) fun c6 H5 s5 hc6=>?_
 lk
 have s35:=A6.tr s3 (A6.tr s4 s5)
 refine qk3 ((A6.tr s2 s35).sqT hp) fun c7 H6 s6 hc7=>?_
 rw[qq1 (by omega),Int.toNat_natCast] at hc7
 refine qe1 (s6.sqT hc6) hc7 (D5 (by rw[List.length_append,List.length_take,List.length_drop];show _+1+_<=_;omega)) fun c8 H7 s7 hc8=>?_
 have s37:=A6.tr s35 (A6.tr s6 s7)
 have s27:=A6.tr s2 s37
 have sf:=A6.tr s1 s27
 have du:=Dvs.same s27 _ _ du
 obtain⟨b1,b2⟩:=xe0 hw hu (wv2 u.kids k bit).1 (wv2 u.kids k bit).2
 lk
 refine zs1 (A1.same s27).R (A1.same s27).d (s37.sqT hc3) hw hu hc8 (ps:=wm8 u.kids k bit) ?_ (by omega) (by omega) (by omega) (by omega) ((qg q k ws u rfl hw hu (by omega)).same sf)
 unfold wm8
 rw[qc8,qc8,wh4,wh5]
 refine Dvs.append (Dvs.append (qx7 _ du) ?_) (qx8 _ du)
 rw[Tr.das,Tr.das]
 exact Dvs.one (Dv.same sf _ _ db)
def wb8(K:Fg)(kX:Addr)(kY:Addr):Sp:=fun _ _ _ _=>False
def xe1(K:Fg)(kX:Addr)(kY:Addr):Sp:=fun _ _ _ _=>False
inductive Ae3(t:Tr):List Int->Int->Tr->Str->Int->Tr->Prop
 | set {q:List Int} {k:Nat} {ws:List Tr} {u bit:Tr} {nm:Str} {stop:Int}:way t q=some (ws++[u])->u.isTx=false->k<=u.kids.length->Ae3 t (q++[(k:Int)]) 0 bit nm stop (qe5 t q (wm8 u.kids k bit))
def Bad(t:Tr)(pl:List Int)(wy stop:Int):Prop:=¬zj0 t pl 1
structure Thg(K:Fg)(H:Hp)(wy:Int)(th:V)(bit:Tr)(nm:Str):Prop where
 y:wy=0
 b:Dv K H bit.da th
 w:wt bit<=10000
 h:hgt bit<=300
theorem zj3{q':List Int}{k k':Nat}(e:q++[(k:Int)]=q'++[(k':Int)]):q=q'/\k=k':=by
 obtain⟨h1,e2⟩:=List.append_inj' e rfl
 injection e2 with e2 _
 exact⟨h1,by omega⟩
abbrev ws8(K:Fg)(k_NoPlace:Addr)(k_NoFit:Addr)(E:XK):TS :=
 (G9 (C2 (qs7 K k_NoPlace k_NoFit) [] E (A2 (A4 1) (A2 (A4 2) (A2 (A4 3) (A2 (A4 4) B0))))))
abbrev ws9(K:Fg)(k_NoPlace:Addr)(k_NoFit:Addr)(E:XK):TS :=
 (G9 (C2 (wb8 K k_NoPlace k_NoFit) [] E (A2 (A4 1) (A2 (A4 2) (A2 (A4 3) B0)))))
abbrev wt0(K:Fg)(k_NoPlace:Addr)(k_NoFit:Addr)(E:XK):TS :=
 (G9 (C2 (qx9 K k_NoPlace k_NoFit) [] E (A2 (A4 1) (A2 (A4 2) (A2 (A4 3) (A2 (A4 5) (A2 (A4 4) B0)))))))
abbrev wt1(K:Fg)(k_NoPlace:Addr)(k_NoFit:Addr)(E:XK):TS :=
 (G9 (C2 (xe1 K k_NoPlace k_NoFit) [] E (A2 (A4 1) (A2 (A4 2) (A2 (A4 3) B0)))))
abbrev wt2(K:Fg)(k_NoPlace:Addr)(k_NoFit:Addr)(E:XK):TS :=
 (C1 (M3 (D6 (tOp (Q7 K) (A4 0) (tC (.int 2))))
 (wt0 K k_NoPlace k_NoFit E) E8)
 (wt1 K k_NoPlace k_NoFit E))
abbrev wt3(K:Fg)(k_NoPlace:Addr)(k_NoFit:Addr)(E:XK):TS :=
 (C1 (M3 (D6 (tOp (Q7 K) (A4 0) (tC (.int 1))))
 (ws9 K k_NoPlace k_NoFit E) E8)
 (wt2 K k_NoPlace k_NoFit E))
def qd0(K:Fg)(kX:Addr)(kY:Addr):Sp:=fun vs H Q E=>∃ (t:Tr) (bv v th:V) (rs:List Row) (a:Addr) (pl:List Int) (wy stop:Int) (bit:Tr) (nm:Str),vs=[.int wy,bv,v,.ref a,th,.int stop]/\Ask K H t bv v rs a pl/\Thg K H wy th bit nm/\((Bad t pl wy stop/\∀ H',A6 H H'->E (.ref kX) none H')\/∃ t',Ae3 t pl wy bit nm stop t'/\yz3 K H Q E kY rs t')
def qf9(K:Fg)(k_NoPlace:Addr)(k_NoFit:Addr)(E:XK):TS :=
 (C1 (M3 (D6 (tOp (Q7 K) (A4 0) (tC (.int 0))))
 (ws8 K k_NoPlace k_NoFit E) E8)
 (wt3 K k_NoPlace k_NoFit E))
theorem xe2(sf_rule:SeI K kY "rule")(sf_place:SeI K kY "place")(h:qd0 K kX kY vs H Q E):qf9 K kX kY E {nx:=fun _ H'=>Q .non H',rt:=Q} (J0 ["_law_way","_law_book_here","_law_tree_here","_law_place","_law_thing","_law_stop"] vs) H:=by
 obtain⟨t,bv,v,th,rs,a,pl,wy,stop,bit,nm,rfl,A,B,q⟩:=h
 obtain rfl:=B.y
 show qf9 K kX kY E _ [some (.int 0),some bv,some v,some (.ref a),some th,some (.int stop)] H
 unfold qf9
 lk
 rw[decide_eq_true rfl]
 x_go
 lk
 refine⟨t,bv,v,th,rs,a,pl,bit,rfl,A,B.b,B.w,B.h,?_,?_⟩
 ·rcases q with⟨_,q⟩|⟨t',d,_⟩
  ·exact fun _=>q
  ·cases d with|set h1 h2 h3=>exact fun hn=>absurd ⟨_,_,_,_,rfl,h1,h2,by omega⟩ hn
 ·intro p k ws u e hw hu hk
  rcases q with⟨hb,q⟩|⟨t',d,M⟩
  ·exact absurd ⟨p,k,ws,u,e,hw,hu,by omega⟩ hb
  ·cases d with
   | set h1 h2 h3 =>
     obtain⟨rfl,rfl⟩:=zj3 e
     obtain rfl:=yg1 hw h1
     exact M
structure Ers(K:Fg)(k_Ended:Addr)(k_NoBook:Addr)(k_NoFit:Addr)(k_NoPlace:Addr)(k_NoSpot:Addr)(k_NoText:Addr)(k_NotEnded:Addr)(k_TagError:Addr):Prop where
 ga_NoFit:PySem.W.findIn K (.ref k_NoFit) "__getattribute__"=some (some (.builtin "BaseException.__getattribute__"))
 gn_NoFit:PySem.W.findIn K (.ref k_NoFit) "__getattr__"=some none
 cl_NoFit:PySem.W.findIn K (.ref k_NoFit) "__class__"=some (some (.builtin "object.__class__"))
 bx_NoFit:PySem.W.subIn K (.ref k_NoFit) (.type "BaseException")=some true
 ob_NoFit:PySem.W.subIn K (.ref k_NoFit) (.type "object")=some true
 ve_NoFit:PySem.W.subIn K (.ref k_NoFit) (.type "ValueError")=some true
 s_NoFit_Ended:PySem.W.subIn K (.ref k_NoFit) (.ref k_Ended)=some false
 s_NoFit_NoBook:PySem.W.subIn K (.ref k_NoFit) (.ref k_NoBook)=some false
 s_NoFit_NoFit:PySem.W.subIn K (.ref k_NoFit) (.ref k_NoFit)=some true
 s_NoFit_NoPlace:PySem.W.subIn K (.ref k_NoFit) (.ref k_NoPlace)=some false
 s_NoFit_NoSpot:PySem.W.subIn K (.ref k_NoFit) (.ref k_NoSpot)=some false
 s_NoFit_NoText:PySem.W.subIn K (.ref k_NoFit) (.ref k_NoText)=some false
 s_NoFit_NotEnded:PySem.W.subIn K (.ref k_NoFit) (.ref k_NotEnded)=some false
 ga_NoPlace:PySem.W.findIn K (.ref k_NoPlace) "__getattribute__"=some (some (.builtin "BaseException.__getattribute__"))
 gn_NoPlace:PySem.W.findIn K (.ref k_NoPlace) "__getattr__"=some none
 cl_NoPlace:PySem.W.findIn K (.ref k_NoPlace) "__class__"=some (some (.builtin "object.__class__"))
 bx_NoPlace:PySem.W.subIn K (.ref k_NoPlace) (.type "BaseException")=some true
 ob_NoPlace:PySem.W.subIn K (.ref k_NoPlace) (.type "object")=some true
 ve_NoPlace:PySem.W.subIn K (.ref k_NoPlace) (.type "ValueError")=some true
 s_NoPlace_Ended:PySem.W.subIn K (.ref k_NoPlace) (.ref k_Ended)=some false
 s_NoPlace_NoBook:PySem.W.subIn K (.ref k_NoPlace) (.ref k_NoBook)=some false
 s_NoPlace_NoFit:PySem.W.subIn K (.ref k_NoPlace) (.ref k_NoFit)=some false
 s_NoPlace_NoPlace:PySem.W.subIn K (.ref k_NoPlace) (.ref k_NoPlace)=some true
 s_NoPlace_NoSpot:PySem.W.subIn K (.ref k_NoPlace) (.ref k_NoSpot)=some false
 s_NoPlace_NoText:PySem.W.subIn K (.ref k_NoPlace) (.ref k_NoText)=some false
 s_NoPlace_NotEnded:PySem.W.subIn K (.ref k_NoPlace) (.ref k_NotEnded)=some false
 ic_Ended:PySem.W.isClsIn K k_Ended=true
 it_Ended:PySem.W.typeIn K (.ref k_Ended)=some (.type "type")
 ic_NoBook:PySem.W.isClsIn K k_NoBook=true
 it_NoBook:PySem.W.typeIn K (.ref k_NoBook)=some (.type "type")
 ic_NoFit:PySem.W.isClsIn K k_NoFit=true
 it_NoFit:PySem.W.typeIn K (.ref k_NoFit)=some (.type "type")
 ic_NoPlace:PySem.W.isClsIn K k_NoPlace=true
 it_NoPlace:PySem.W.typeIn K (.ref k_NoPlace)=some (.type "type")
 ic_NoSpot:PySem.W.isClsIn K k_NoSpot=true
 it_NoSpot:PySem.W.typeIn K (.ref k_NoSpot)=some (.type "type")
 ic_NoText:PySem.W.isClsIn K k_NoText=true
 it_NoText:PySem.W.typeIn K (.ref k_NoText)=some (.type "type")
 ic_NotEnded:PySem.W.isClsIn K k_NotEnded=true
 it_NotEnded:PySem.W.typeIn K (.ref k_NotEnded)=some (.type "type")
variable{k_Ended k_NoBook k_NoFit k_NoPlace k_NoSpot k_NoText k_NotEnded k_TagError:Addr}
theorem Ers.l_Ended(e:Ers K k_Ended k_NoBook k_NoFit k_NoPlace k_NoSpot k_NoText k_NotEnded k_TagError):qv1 K k_Ended:=⟨e.ic_Ended,e.it_Ended⟩
theorem Ers.l_NoBook(e:Ers K k_Ended k_NoBook k_NoFit k_NoPlace k_NoSpot k_NoText k_NotEnded k_TagError):qv1 K k_NoBook:=⟨e.ic_NoBook,e.it_NoBook⟩
theorem Ers.l_NoFit(e:Ers K k_Ended k_NoBook k_NoFit k_NoPlace k_NoSpot k_NoText k_NotEnded k_TagError):qv1 K k_NoFit:=⟨e.ic_NoFit,e.it_NoFit⟩
theorem Ers.l_NoPlace(e:Ers K k_Ended k_NoBook k_NoFit k_NoPlace k_NoSpot k_NoText k_NotEnded k_TagError):qv1 K k_NoPlace:=⟨e.ic_NoPlace,e.it_NoPlace⟩
theorem Ers.l_NoSpot(e:Ers K k_Ended k_NoBook k_NoFit k_NoPlace k_NoSpot k_NoText k_NotEnded k_TagError):qv1 K k_NoSpot:=⟨e.ic_NoSpot,e.it_NoSpot⟩
theorem Ers.l_NoText(e:Ers K k_Ended k_NoBook k_NoFit k_NoPlace k_NoSpot k_NoText k_NotEnded k_TagError):qv1 K k_NoText:=⟨e.ic_NoText,e.it_NoText⟩
theorem Ers.l_NotEnded(e:Ers K k_Ended k_NoBook k_NoFit k_NoPlace k_NoSpot k_NoText k_NotEnded k_TagError):qv1 K k_NotEnded:=⟨e.ic_NotEnded,e.it_NotEnded⟩
theorem Ers.e_NoFit(e:Ers K k_Ended k_NoBook k_NoFit k_NoPlace k_NoSpot k_NoText k_NotEnded k_TagError):xu5 K k_NoFit:=⟨⟨e.ga_NoFit,e.gn_NoFit,e.cl_NoFit,e.bx_NoFit,e.ob_NoFit⟩,e.l_NoFit,e.s_NoFit_NoFit⟩
theorem Ers.e_NoPlace(e:Ers K k_Ended k_NoBook k_NoFit k_NoPlace k_NoSpot k_NoText k_NotEnded k_TagError):xu5 K k_NoPlace:=⟨⟨e.ga_NoPlace,e.gn_NoPlace,e.cl_NoPlace,e.bx_NoPlace,e.ob_NoPlace⟩,e.l_NoPlace,e.s_NoPlace_NoPlace⟩
abbrev xn1(K:Fg)(k_NoFit:Addr):TS :=
 (G9 (tOp qp2 (Y8 (A2 (tC (.str "place")) B0)) (tOp (rI0 fun i j=>.int (i-j)) (tC (.int 2)) (tCB wx0 (A2 (tCB (qu1 K) (A2 (A4 6) (A2 (tC (.ref k_NoFit)) B0))) B0)))))
abbrev xn2(K:Fg)(k_NoFit:Addr):TS :=
 (G9 (Y8 (A2 (tCB (qu1 K) (A2 (A4 6) (A2 (tC (.ref k_NoFit)) B0))) (A2 (yy1 K (A4 6) "rule") (A2 (yy1 K (A4 6) "place") B0)))))
abbrev xn3(K:Fg)(k_NoFit:Addr):TS :=
 (C1 (M3 (tOr (wj3 (tB (tCB (qu1 K) (A2 (yy1 K (A4 6) "rule") (A2 (tC (.ty "str")) B0))))) (wj3 (tB (tCB (qu1 K) (A2 (yy1 K (A4 6) "place") (A2 (tC (.ty "tuple")) B0))))))
 (G9 (Y8 B0)) E8)
 (xn2 K k_NoFit))
abbrev xn4(K:Fg)(k_NoPlace:Addr)(k_NoFit:Addr):TS :=
 (C1 (M3 (tB (tCB (qu1 K) (A2 (A4 6) (A2 (tC (.ref k_NoPlace)) B0))))
 (xn1 K k_NoFit) E8)
 (xn3 K k_NoFit))
abbrev xn5(K:Fg)(k_NoText:Addr)(k_NoBook:Addr)(k_NoSpot:Addr)(k_Ended:Addr)(k_NotEnded:Addr)(k_NoPlace:Addr)(k_NoFit:Addr):TS :=
 (C1 (M3 (tOr (wj3 (tB (tCB (qu1 K) (A2 (A4 6) (A2 (tC (.ty "ValueError")) B0))))) (tB (tCB (qu1 K) (A2 (A4 6) (A2 (M6 (A2 (tC (.ref k_NoText)) (A2 (tC (.ref k_NoBook)) (A2 (tC (.ref k_NoSpot)) (A2 (tC (.ref k_Ended)) (A2 (tC (.ref k_NotEnded)) B0)))))) B0)))))
 (G9 (Y8 B0)) E8)
 (xn4 K k_NoPlace k_NoFit))
abbrev xn6(K:Fg)(k_NoText:Addr)(k_NoBook:Addr)(k_NoSpot:Addr)(k_Ended:Addr)(k_NotEnded:Addr)(k_NoPlace:Addr)(k_NoFit:Addr):TS :=
 (C1 (M3 (D6 (tOp xt6 (A4 6) (tC .non)))
 (G9 (Y8 (A2 (A4 7) B0))) E8)
 (xn5 K k_NoText k_NoBook k_NoSpot k_Ended k_NotEnded k_NoPlace k_NoFit))
abbrev xn7(K:Fg)(k_NoPlace:Addr)(k_NoFit:Addr)(k_NoText:Addr)(k_NoBook:Addr)(k_NoSpot:Addr)(k_Ended:Addr)(k_NotEnded:Addr):TS :=
 (C1 (yq8 [k_NoPlace,k_NoFit] 8 7 (fun E=>C2 (qd0 K k_NoPlace k_NoFit) [] E (A2 (A4 0) (A2 (A4 1) (A2 (A4 2) (A2 (A4 3) (A2 (A4 4) (A2 (A4 5) B0))))))) (E4 (A4 8) (B3 6)))
 (xn6 K k_NoText k_NoBook k_NoSpot k_Ended k_NotEnded k_NoPlace k_NoFit))
abbrev xn8(K:Fg)(k_NoPlace:Addr)(k_NoFit:Addr)(k_NoText:Addr)(k_NoBook:Addr)(k_NoSpot:Addr)(k_Ended:Addr)(k_NotEnded:Addr):TS :=
 (C1 (E4 (tC .non) (B3 7))
 (xn7 K k_NoPlace k_NoFit k_NoText k_NoBook k_NoSpot k_Ended k_NotEnded))
def Y1(K:Fg):Sp:=fun vs H Q _=>∃ (t:Tr) (bv v th:V) (rs:List Row) (a:Addr) (pl:List Int) (wy stop:Int) (bit:Tr) (nm:Str),vs=[.int wy,bv,v,.ref a,th,.int stop]/\Ask K H t bv v rs a pl/\Thg K H wy th bit nm/\((Bad t pl wy stop/\∀ p H',A6 H H'->H' p=some (.lst [.str "place",.str "place"])->Q (.ref p) H')\/∃ t',Ae3 t pl wy bit nm stop t'/\(V1 (ffk rs [] [] t')=none->∀ l x H',A6 H H'->H' l=some (.lst [x])->Dv K H' t'.da x->Q (.ref l) H')/\∀ r pl',V1 (ffk rs [] [] t')=some (r,pl')->∀ l p H',A6 H H'->H' l=some (.lst [.bl true,.str r,.ref p])->SqT K H' p (E9 pl')->Q (.ref l) H')
def qn4(K:Fg)(k_NoPlace:Addr)(k_NoFit:Addr)(k_NotEnded:Addr)(k_Ended:Addr)(k_NoSpot:Addr)(k_NoBook:Addr)(k_NoText:Addr):TS :=
 (C1 (E4 (tC .non) (B3 6))
 (xn8 K k_NoPlace k_NoFit k_NoText k_NoBook k_NoSpot k_Ended k_NotEnded))
theorem xy1(ei_rule:ExI K k_NoFit "rule")(ei_place:ExI K k_NoFit "place")(er:Ers K k_Ended k_NoBook k_NoFit k_NoPlace k_NoSpot k_NoText k_NotEnded k_TagError)(h:Y1 K vs H Q E):qn4 K k_NoPlace k_NoFit k_NotEnded k_Ended k_NoSpot k_NoBook k_NoText {nx:=fun _ H'=>Q .non H',rt:=Q} (J0 ["_law_way","_law_book_here","_law_tree_here","_law_place","_law_thing","_law_stop","_law_error","_law_found","e"] vs) H:=by
 obtain⟨t,bv,v,th,rs,a,pl,wy,stop,bit,nm,rfl,A,B,q⟩:=h
 show qn4 K _ _ _ _ _ _ _ _ [some (.int wy),some bv,some v,some (.ref a),some th,some (.int stop),none,none,none] H
 unfold qn4
 lk
 show yq8 [k_NoPlace,k_NoFit] 8 7 _ _ _ _ _
 unfold yq8
 lk
 refine⟨t,bv,v,th,rs,a,pl,wy,stop,bit,nm,rfl,A,B,?_⟩
 rcases q with⟨hb,q⟩|⟨t',dd,q0,q1⟩
 ·refine .inl ⟨hb,fun H1 s1=>⟨k_NoPlace,by simp,rfl,fun x hx=>?_⟩⟩
  have e1:(upd H1 x (qp5 x k_NoPlace none)) x=some (qp5 x k_NoPlace none):=A7
  have s2:A6 H (upd H1 x (qp5 x k_NoPlace none)):=A6.tr s1 (A6.new hx _)
  generalize upd H1 x (qp5 x k_NoPlace none)=H2 at *
  lk
  rw[decide_eq_false (show ¬(V.ref x=V.non) from fun z=>by cases z)]
  k_go
  lk
  refine yq9 e1 er.e_NoPlace (by rfl) er.ve_NoPlace ?_
  lk
  k_go
  lk
  refine⟨D5 (by z_go),fun c hc=>?_⟩
  have s3:=A6.new hc (.tup [.ref k_NoText,.ref k_NoBook,.ref k_NoSpot,.ref k_Ended,.ref k_NotEnded])
  have e3:(upd H2 c (.tup [.ref k_NoText,.ref k_NoBook,.ref k_NoSpot,.ref k_Ended,.ref k_NotEnded])) c=some (.tup [.ref k_NoText,.ref k_NoBook,.ref k_NoSpot,.ref k_Ended,.ref k_NotEnded]):=A7
  generalize upd H2 c (.tup [.ref k_NoText,.ref k_NoBook,.ref k_NoSpot,.ref k_Ended,.ref k_NotEnded])=H3 at *
  have e1:=s3 _ _ e1
  lk
  refine yr0 (cs:=[k_NoText,k_NoBook,k_NoSpot,k_Ended,k_NotEnded]) e1 er.e_NoPlace (SqT.of e3) ?_ ?_
  ·intro D hD
   simp only[List.mem_cons,List.not_mem_nil,or_false] at hD
   rcases hD with rfl|rfl|rfl|rfl|rfl
   ·exact⟨er.l_NoText,er.s_NoPlace_NoText⟩
   ·exact⟨er.l_NoBook,er.s_NoPlace_NoBook⟩
   ·exact⟨er.l_NoSpot,er.s_NoPlace_NoSpot⟩
   ·exact⟨er.l_Ended,er.s_NoPlace_Ended⟩
   ·exact⟨er.l_NotEnded,er.s_NoPlace_NotEnded⟩
  lk
  refine xu9 e1 er.e_NoPlace er.l_NoPlace er.s_NoPlace_NoPlace ?_
  lk
  refine⟨D5 (by z_go),fun l hl=>?_⟩
  have s4:=A6.new hl (.lst [.str "place"])
  have e4:(upd H3 l (.lst [.str "place"])) l=some (.lst [.str "place"]):=A7
  generalize upd H3 l (.lst [.str "place"])=H4 at *
  have e1:=s4 _ _ e1
  lk
  refine xu9 e1 er.e_NoPlace er.l_NoFit er.s_NoPlace_NoFit ?_
  lk
  refine .inr ⟨_,rfl,?_⟩
  lk
  refine .inr (.inr ⟨l,_,_,rfl,rfl,e4,by decide,by decide,D5 (by decide),fun p hp=>?_⟩)
  exact q p _ (A6.tr s2 (A6.tr s3 (A6.tr s4 (A6.new hp _)))) A7
 ·refine .inr ⟨t',dd,fun hn x H1 s1 dx=>?_,fun r pl' ho dx p H1 s1 hdx hp=>⟨k_NoFit,by simp,rfl,fun x hx=>?_⟩⟩
  ·lk
   rw[decide_eq_true rfl]
   x_go
   lk
   refine⟨D5 (by z_go),fun l hl=>?_⟩
   have s2:=A6.new hl (.lst [x])
   exact q0 hn l x _ (A6.tr s1 s2) A7 (Dv.same s2 _ _ dx)
  ·have e1:(upd H1 x (qp5 x k_NoFit (some dx))) x=some (qp5 x k_NoFit (some dx)):=A7
   have s2:A6 H1 (upd H1 x (qp5 x k_NoFit (some dx))):=A6.new hx _
   have hdx:=s2 _ _ hdx
   have hp:=s2.sqT hp
   generalize upd H1 x (qp5 x k_NoFit (some dx))=H2 at *
   lk
   rw[decide_eq_false (show ¬(V.ref x=V.non) from fun z=>by cases z)]
   k_go
   lk
   refine yq9 e1 er.e_NoFit (by rfl) er.ve_NoFit ?_
   lk
   k_go
   lk
   refine⟨D5 (by z_go),fun c hc=>?_⟩
   have s3:=A6.new hc (.tup [.ref k_NoText,.ref k_NoBook,.ref k_NoSpot,.ref k_Ended,.ref k_NotEnded])
   have e3:(upd H2 c (.tup [.ref k_NoText,.ref k_NoBook,.ref k_NoSpot,.ref k_Ended,.ref k_NotEnded])) c=some (.tup [.ref k_NoText,.ref k_NoBook,.ref k_NoSpot,.ref k_Ended,.ref k_NotEnded]):=A7
   generalize upd H2 c (.tup [.ref k_NoText,.ref k_NoBook,.ref k_NoSpot,.ref k_Ended,.ref k_NotEnded])=H3 at *
   have e1:=s3 _ _ e1
   have hdx:=s3 _ _ hdx
   have hp:=s3.sqT hp
   lk
   refine yr0 (cs:=[k_NoText,k_NoBook,k_NoSpot,k_Ended,k_NotEnded]) e1 er.e_NoFit (SqT.of e3) ?_ ?_
   ·intro D hD
    simp only[List.mem_cons,List.not_mem_nil,or_false] at hD
    rcases hD with rfl|rfl|rfl|rfl|rfl
    ·exact⟨er.l_NoText,er.s_NoFit_NoText⟩
    ·exact⟨er.l_NoBook,er.s_NoFit_NoBook⟩
    ·exact⟨er.l_NoSpot,er.s_NoFit_NoSpot⟩
    ·exact⟨er.l_Ended,er.s_NoFit_Ended⟩
    ·exact⟨er.l_NotEnded,er.s_NoFit_NotEnded⟩
   lk
   refine xu9 e1 er.e_NoFit er.l_NoPlace er.s_NoFit_NoPlace ?_
   lk
   refine xu8 ?_
   lk
   refine⟨x,k_NoFit,dx,_,_,rfl,e1,hdx,ei_rule,rfl,?_⟩
   lk
   refine yr1 (yb1 (.str _) (b:=true) rfl ?_)
   lk
   k_go
   lk
   refine xu8 ?_
   lk
   refine⟨x,k_NoFit,dx,_,_,rfl,e1,hdx,ei_place,rfl,?_⟩
   lk
   refine yr1 (wx5 hp (b:=true) rfl ?_)
   lk
   k_go
   lk
   refine xu9 e1 er.e_NoFit er.l_NoFit er.s_NoFit_NoFit ?_
   lk
   refine xu8 ?_
   lk
   refine⟨x,k_NoFit,dx,_,_,rfl,e1,hdx,ei_rule,rfl,?_⟩
   lk
   refine xu8 ?_
   lk
   refine⟨x,k_NoFit,dx,_,_,rfl,e1,hdx,ei_place,rfl,?_⟩
   lk
   refine⟨D5 (by z_go),fun l hl=>?_⟩
   have s4:=A6.new hl (.lst [.bl true,.str r,.ref p])
   exact q1 r pl' ho l p _ (A6.tr s1 (A6.tr s2 (A6.tr s3 s4))) A7 (s4.sqT hp)
mutual
def wbK(pl:List Int)(ab:List Str):Tr->List (T3×Bool)
 | .tx _=>[]
 | .nd _ ps=>wbS pl ab 0 false ps
def wbS(pl:List Int)(ab:List Str)(k:Nat)(bs:Bool):List Tr->List (T3×Bool)
 | []=>[]
 | t::ts=>((pl++[(k:Int)],ab,t),bs)::(wbK (pl++[(k:Int)]) (ab++[ql6 t]) t++wbS pl ab (k+1) t.isTx ts)
end
mutual
theorem zj4(pl:List Int)(ns ab:List Str):∀ t:Tr,wkT pl ns ab t=(pl,ns,t)::(wbK pl ab t).map (·.1)
 | .tx s=>by rw[wkT,wbK];rfl
 | .nd n ps=>by rw[wkT,wbK,zj5 pl ab 0 false ps]
theorem zj5(pl:List Int)(ab:List Str)(k:Nat)(bs:Bool):∀ ts:List Tr,wkS pl ab k ts=(wbS pl ab k bs ts).map (·.1)
 | []=>by rw[wkS,wbS];rfl
 | t::ts=>by rw[wkS,wbS,zj4 (pl++[(k:Int)]) ab (ab++[ql6 t]) t,zj5 pl ab (k+1) t.isTx ts,List.map_cons,List.map_append];rfl
end
def fOf(rs:List Row)(y:T3×Bool):List Int×Option Str:=(y.1.1,qc3 rs y.1.2.1 y.1.2.2 y.2)
mutual
theorem yn8(rs:List Row)(pl:List Int)(ab:List Str):∀ t:Tr,ffk rs pl ab t=(wbK pl ab t).map (fOf rs)
 | .tx s=>by rw[ffk,wbK];rfl
 | .nd n ps=>by rw[ffk,wbK,zj6 rs pl ab 0 false ps]
theorem zj6(rs:List Row)(pl:List Int)(ab:List Str)(k:Nat)(bs:Bool):∀ ts:List Tr,ffs rs pl ab k bs ts=(wbS pl ab k bs ts).map (fOf rs)
 | []=>by rw[ffs,wbS];rfl
 | t::ts=>by rw[ffs,wbS,yn8 rs (pl++[(k:Int)]) (ab++[ql6 t]) t,zj6 rs pl ab (k+1) t.isTx ts,List.map_cons,List.map_append];rfl
end
mutual
theorem xy2(t:Tr)(q:List Int)(ab:List Str)(ws:List Tr):∀ p:Tr,way t q=some (ws++[p])->∀ y∈wbK q ab p,∃ ws',way t y.1.1=some (ws'++[y.1.2.2])
 | .tx s,_,y,hy=>by rw[wbK] at hy;cases hy
 | .nd n ps,hw,y,hy=>by
   rw[wbK] at hy
   exact ys9 t q ab ws (.nd n ps) hw [] ps rfl 0 false rfl y hy
theorem ys9(t:Tr)(q:List Int)(ab:List Str)(ws:List Tr)(p:Tr)(hw:way t q=some (ws++[p])):∀ (done ts:List Tr),p.kids=done++ts->∀ (k:Nat) (bs:Bool),k=done.length->∀ y∈wbS q ab k bs ts,∃ ws',way t y.1.1=some (ws'++[y.1.2.2])
 | done,[],_,k,bs,_,y,hy=>by rw[wbS] at hy;cases hy
 | done,u::us,hk,k,bs,hl,y,hy=>by
   have ek:p.kids[k]?=some u:=by rw[hk,hl];simp
   have hw2:=qq0 hw ek
   rw[wbS,List.mem_cons,List.mem_append] at hy
   rcases hy with rfl|hy|hy
   ·exact⟨ws++[p],hw2⟩
   ·exact xy2 t _ _ (ws++[p]) u hw2 y hy
   ·exact ys9 t q ab ws p hw (done++[u]) us (by rw[hk];simp) (k+1) u.isTx (by simp[hl]) y hy
end
def Sib(pl:List Int)(k:Nat)(bs:Bool)(L:List (T3×Bool)):Prop:=∀ (i:Nat) (y:T3×Bool),L[i]?=some y->∃ (q:List Int) (m:Nat),y.1.1=q++[(m:Int)]/\((m=0/\y.2=false)\/(∃ m',m=m'+1/\∃ z∈L.take i,z.1.1=q++[(m':Int)]/\z.1.2.2.isTx=y.2)\/(q=pl/\m=k/\y.2=bs))
mutual
theorem yt0(pl:List Int)(ab:List Str):∀ t:Tr,Sib pl 0 false (wbK pl ab t)
 | .tx s=>by rw[wbK];intro i y h;simp at h
 | .nd n ps=>by rw[wbK];exact yt1 pl ab 0 false ps
theorem yt1(pl:List Int)(ab:List Str)(k:Nat)(bs:Bool):∀ ts:List Tr,Sib pl k bs (wbS pl ab k bs ts)
 | []=>by rw[wbS];intro i y h;simp at h
 | t :: ts=>by
   rw[wbS]
   intro i y h
   cases i with
   | zero=>cases h;exact⟨pl,k,rfl,.inr (.inr ⟨rfl,rfl,rfl⟩)⟩
   | succ i =>
     rw[List.getElem?_cons_succ] at h
     rw[List.take_succ_cons]
     by_cases hi:i<(wbK (pl++[(k:Int)]) (ab++[ql6 t]) t).length
     ·rw[List.getElem?_append_left hi] at h
      obtain⟨q,m,e,hc⟩:=yt0 (pl++[(k:Int)]) (ab++[ql6 t]) t i y h
      refine⟨q,m,e,?_⟩
      rcases hc with hc|⟨m',h1,z,hz,h2⟩|⟨h1,h2,h3⟩
      ·exact .inl hc
      ·exact .inr (.inl ⟨m',h1,z,List.mem_cons_of_mem _ (by rw[List.take_append_of_le_length (by omega)];exact hz),h2⟩)
      ·exact .inl ⟨h2,h3⟩
     ·rw[List.getElem?_append_right (by omega)] at h
      obtain⟨q,m,e,hc⟩:=yt1 pl ab (k+1) t.isTx ts _ y h
      refine⟨q,m,e,?_⟩
      rcases hc with hc|⟨m',h1,z,hz,h2⟩|⟨h1,h2,h3⟩
      ·exact .inl hc
      ·exact .inr (.inl ⟨m',h1,z,List.mem_cons_of_mem _ (by rw[List.take_append];exact List.mem_append.mpr (.inr hz)),h2⟩)
      ·subst h1 h2
       exact .inr (.inl ⟨k,rfl,((q++[(k:Int)],ab,t),bs),List.mem_cons_self,rfl,h3.symm⟩)
end
theorem zs2{t:Tr}{x:List Tr}(h:way t (q++[(-1:Int)])=some x):False:=by
 induction q generalizing t x with
 | nil=>have:=(S2 h).1;omega
 | cons k q ih=>obtain⟨_,u,ws,_,h2,_⟩:=S2 h;exact ih h2
def ky(pl:List Int):List Key:=pl.map Sum.inl
theorem zv6(pl:List Int):(ky pl).map kV=E9 pl:=by unfold ky E9;rw[List.map_map];rfl
theorem zj7:∀ {a b:List Int},ky a=ky b->a=b
 | [],[],_=>rfl
 | [],_::_,h=>by cases h
 | _::_,[],h=>by cases h
 | x::a,y::b,h=>by
   have h:(Sum.inl x::ky a:List Key)=Sum.inl y::ky b:=h
   injection h with h1 h2
   rw[Sum.inl.inj h1,zj7 h2]
theorem zs3{xs:List (List Key×V)}{o:HO}(h:H d=some (.dT xs)):qh4 H (upd H d o) :=
 ⟨fun b zs e=>by rw[C6 (fun z=>by rw[z,h] at e;cases e)];exact e,fun b o zs e=>by rw[C6 (fun z=>by rw[z,h] at e;cases e)];exact e⟩
def oD:Option Str->PyData
 | none=>.none
 | some r=>.str r
theorem Ak9(x:Option Str):Dv K H (oD x) (oV x):=by cases x with|none=>exact qq8.mpr rfl|some r=>exact N6.mpr rfl
def fD(x:List Int×Option Str):PyData:=.tuple [oD x.2,.tuple (qa8 x.1)]
theorem Ae4(x:Option Str):fix (oD x)=true:=by cases x <;> (unfold oD;rw[fix])
theorem zj8(x:List Int×Option Str):fix (fD x)=true:=by unfold fD;rw[fix,Z0,Z0,Z0,Ae4,fix,wz3];rfl
theorem zj9{x:List Int×Option Str}(h:Dv K H (fD x) v):∃ a b,v=.ref a/\SqT K H a [oV x.2,.ref b]/\SqT K H b (E9 x.1):=by
 obtain⟨a,xs,rfl,ha,h⟩:=C3.mp h
 rw[Dvs] at h;obtain⟨v1,r1,rfl,e1,h⟩:=h
 rw[Dvs] at h;obtain⟨v2,r2,rfl,e2,h⟩:=h
 rw[Dvs] at h;subst h
 have e1:v1=oV x.2:=by
  cases e:x.2 with
  | none=>rw[e] at e1;exact qq8.mp e1
  | some r=>rw[e] at e1;exact N6.mp e1
 subst e1
 obtain⟨b,ys,rfl,hb,h⟩:=C3.mp e2
 rw[N7] at h;subst h
 exact⟨a,b,rfl,ha,hb⟩
abbrev wt5(K:Fg):TS :=
 (qh6 (tBM K "list" X6 (A4 2) (A2 (M6 (A2 (C2 (Z4 K) [] E0 (A2 (A4 0) (A2 (A4 6) (A2 (A4 7) (A2 (A4 8) B0))))) (A2 (A4 5) B0))) B0)))
abbrev wt6(K:Fg):TS :=
 (C1 (E4 (yi9 (A4 4) (tOp (R1 K) (tSl (qr1 K) (A4 5) Q1 (Z1 (tUn (rU fun i=>.int (-i)) (tC (.int 1))))) (M6 (A2 (tOp (rI0 fun i j=>.int (i-j)) (tOp (I9 K) (A4 5) (tUn (rU fun i=>.int (-i)) (tC (.int 1)))) (tC (.int 1))) B0)))) (B3 8))
 (wt5 K))
def yt2(K:Fg):TS :=
 (M3 (D6 (tOp (W5 K) (A4 5) (M6 B0)))
 (wt6 K) E8)
abbrev wt7(K:Fg):TS :=
 (C1 (E4 (A4 7) (yu1 (A4 4) (A4 5) xq5))
 (yt2 K))
abbrev wt8(K:Fg):TS :=
 (C1 (qh9 (qi1 K (A4 3)) (wj6 K 3 (R7 (B3 5) (R7 (B3 6) (R7 (B3 7) wj5))))
 (wt7 K))
 (G9 (A4 2)))
abbrev wt9(K:Fg):TS :=
 (C1 (E4 (C2 (qc6 K) [] E0 (A2 (A4 1) B0)) (B3 3))
 (C1 (E4 zb4 (B3 4))
 (wt8 K)))
def qd1(K:Fg):Sp:=fun vs H Q _=>∃ (bv v:V) (rs:List Row) (t:Tr),vs=[bv,v]/\BkS rs/\Rws K H bv rs/\rs.length<=1000/\Dv K H t.da v/\wt t<=30000/\hgt t<=700/\∀ (p:Addr) (us:List V) (H':Hp),A6 H H'->H' p=some (.lst us)->Dvs K H' ((ffk rs [] [] t).map fD) us->Q (.ref p) H'
def qg0(K:Fg):TS :=
 (C1 (E4 (Y8 B0) (B3 2))
 (wt9 K))
theorem xe3 (h:qd1 K vs H Q E):qg0 K {nx:=fun _ H'=>Q .non H',rt:=Q} (J0 ["_law_book_here","_law_tree_here","_law_due","_law_walked","_law_parts","_law_place","_law_names","_law_part","_law_ahead"] vs) H:=by
 obtain⟨bv,v,rs,t,rfl,B,hR,hrl,hd,hz,hh,q⟩:=h
 show qg0 K _ [some bv,some v,none,none,none,none,none,none,none] H
 unfold qg0
 lk
 refine⟨D5 (by z_go),fun du hdu=>?_⟩
 have s1:=A6.new hdu (.lst [])
 have e1:(upd H du (.lst [])) du=some (.lst []):=A7
 generalize upd H du (.lst [])=H1 at *
 lk
 refine⟨t,v,rfl,Dv.same s1 _ _ hd,by omega,fun wd us H2 s2 nwd hwd w3=>?_⟩
 lk
 intro dc hdc
 have s3:=A6.new hdc (.dT [])
 have e3:(upd H2 dc (.dT [])) dc=some (.dT []):=A7
 have ndd:du≠dc:=N2 (s2 _ _ e1) hdc
 have ndw:du≠wd:=fun z=>by rw[<-z,e1] at nwd;cases nwd
 have ncw:wd≠dc:=N2 hwd hdc
 have e1:=s3 _ _ (s2 _ _ e1)
 have nwd0:H wd=none:=qz5 s1 nwd
 have ndc0:H dc=none:=qz5 (A6.tr s1 s2) hdc
 have hwd:=s3 _ _ hwd
 have w3:=w3.tupK s3.tupK
 have s13:=A6.tr s1 (A6.tr s2 s3)
 generalize upd H2 dc (.dT [])=H3 at *
 have hul:=w3.length
 have hwk:wk ([],[],t)=([],[],t)::(wbK [] [] t).map (·.1):=zj4 [] [] [] t
 have hwl:(wk ([],[],t)).length<=wt t:=xw9 _ _ _ t
 lk
 refine⟨wd,rfl,.inl ⟨⟨us,SqL.of hwd⟩,we9 (xs:=us) (fun i σ H'=>∃ (a5 a6 a7 a8:Option V) (ds:List V) (kvs:List (List Key×V)),σ=[some bv,some v,some (.ref du),some (.ref wd),some (.ref dc),a5,a6,a7,a8]/\A6 H H'/\H' du=some (.lst ds)/\H' wd=some (.lst us)/\H' dc=some (.dT kvs)/\W3s K H' (wk ([],[],t)) us/\Dvs K H' (((ffk rs [] [] t).take (i-1)).map fD) ds/\kvs.length<=i/\(∀ pl w,S6 kvs (ky pl)=some w->∃ ws u,way t pl=some (ws++[u])/\Dv K H' u.da w)/\∀ x∈(wk ([],[],t)).take i,∃ w,S6 kvs (ky x.1)=some w) ⟨_,_,_,_,[],[],rfl,s13,e1,hwd,e3,w3,E6,by simp,fun pl w h=>by simp[za8] at h,by simp⟩ ?_ ?_ ?_⟩⟩
 ·rintro i σ H' hi ⟨a5,a6,a7,a8,ds,kvs,rfl,z1,z2,z3,z⟩
  exact SqL.of z3
 ·rintro i x σ H' hx ⟨a5,a6,a7,a8,ds,kvs,rfl,z1,z2,z3,z4,z5,z6,z7,zA,zB⟩
  obtain⟨y,hy,wy⟩:=z5.get hx
  obtain⟨xa,pa,na,pv,rfl,k1,k2,k3,k4⟩:=wy
  have hil:i<(wk ([],[],t)).length:=(List.getElem?_eq_some_iff.mp hy).1
  have hylen:=zv2 [] [] (abv ([],[],t)) (by simp) t y (List.mem_of_getElem? hy)
  have hab0:(abv ([],[],t)).length=0:=rfl
  rw[hab0] at hylen
  simp only[List.length_nil,Nat.zero_add] at hylen
  have hway:∃ ws,way t y.1=some (ws++[y.2.2]):=by
   have hm:=List.mem_of_getElem? hy
   rw[hwk,List.mem_cons] at hm
   rcases hm with rfl|hm
   ·exact⟨[],by rw[way];rfl⟩
   ·obtain⟨w,hw,rfl⟩:=List.mem_map.mp hm
    exact xy2 t [] [] [] t (by rw[way];rfl) w hw
  refine⟨xa,_,rfl,SqT.of k1,rfl,_,_,rfl,N1 ⟨_,_,rfl,N1 ⟨_,_,rfl,N1 ⟨rfl,?_⟩⟩⟩⟩
  lk
  refine .inr ⟨dc,_,rfl,ya7.t (k:=ky y.1) z4 (by rw[k2,zv6]) (by rw[sizeLine_eq];omega),?_⟩
  have tk:=zs3 (o:=.dT (qb4 kvs (ky y.1) pv)) z4
  have u1:A6 H (upd H' dc (.dT (qb4 kvs (ky y.1) pv))):=A6.put z1 ndc0 _
  have u2:(upd H' dc (.dT (qb4 kvs (ky y.1) pv))) du=some (.lst ds):=by rw[C6 ndd];exact z2
  have u3:(upd H' dc (.dT (qb4 kvs (ky y.1) pv))) wd=some (.lst us):=by rw[C6 ncw];exact z3
  have u4:(upd H' dc (.dT (qb4 kvs (ky y.1) pv))) dc=some (.dT (qb4 kvs (ky y.1) pv)):=A7
  have u5:=z5.tupK tk
  have u6:=Dvs.tupK tk _ _ (P8 zj8 _) z6
  have k2:=tk.1 _ _ k2
  have k3:=tk.1 _ _ k3
  have k4:=Dv.tupK tk _ _ (qa9 _) k4
  have uA:∀ pl w,S6 (qb4 kvs (ky y.1) pv) (ky pl)=some w->∃ ws u,way t pl=some (ws++[u])/\Dv K (upd H' dc (.dT (qb4 kvs (ky y.1) pv))) u.da w:=by
   intro pl w h
   rw[ya6] at h
   by_cases e:ky pl=ky y.1
   ·rw[if_pos e] at h
    cases h
    obtain⟨ws,hw⟩:=hway
    rw[zj7 e]
    exact⟨ws,_,hw,k4⟩
   ·rw[if_neg e] at h
    obtain⟨ws,u,h1,h2⟩:=zA pl w h
    exact⟨ws,u,h1,Dv.tupK tk _ _ (qa9 _) h2⟩
  have uB:∀ x∈(wk ([],[],t)).take (i+1),∃ w,S6 (qb4 kvs (ky y.1) pv) (ky x.1)=some w:=by
   intro x hx
   rw[ya6]
   by_cases e:ky x.1=ky y.1
   ·rw[if_pos e];exact⟨_,rfl⟩
   ·rw[if_neg e]
    rw[List.take_add_one,hy] at hx
    rcases List.mem_append.mp hx with hx|hx
    ·exact zB x hx
    ·have:x=y:=by simpa using hx
     rw[this] at e;exact absurd rfl e
  have uL:(qb4 kvs (ky y.1) pv).length<=i+1:=by
   unfold qb4
   split
   ·rw[List.length_map];omega
   ·rw[List.length_append,List.length_singleton];omega
  generalize qb4 kvs (ky y.1) pv=kvs' at *
  generalize upd H' dc (.dT kvs')=H4 at *
  clear z1 z2 z3 z4 z5 z6 zA zB tk k1
  unfold yt2
  lk
  refine⟨D5 (by z_go),fun e0 he0=>?_⟩
  have s4:=A6.new he0 (.tup [])
  refine wx4 (d:=.tuple (qa8 y.1)) (e:=.tuple []) (C3.mpr ⟨pa,_,rfl,SqT.of (s4 _ _ k2),N7.mpr rfl⟩) (C3.mpr ⟨e0,[],rfl,SqT.of A7,E6⟩) (Nat.le_trans (Nat.min_le_right _ _) (by decide)) ?_
  rw[wg9]
  have u1:=A6.tr u1 s4
  have u2:=s4 _ _ u2
  have u3:=s4 _ _ u3
  have u4:=s4 _ _ u4
  have u5:=u5.tupK s4.tupK
  have u6:=Dvs.same s4 _ _ u6
  have k2:=s4 _ _ k2
  have k3:=s4 _ _ k3
  have k4:=Dv.same s4 _ _ k4
  have uA:∀ pl w,S6 kvs' (ky pl)=some w->∃ ws u,way t pl=some (ws++[u])/\Dv K (upd H4 e0 (.tup [])) u.da w:=fun pl w h=>by obtain⟨ws,u,h1,h2⟩:=uA pl w h;exact⟨ws,u,h1,Dv.same s4 _ _ h2⟩
  generalize upd H4 e0 (.tup [])=H5 at *
  lk
  cases i with
  | zero =>
    rw[hwk] at hy
    cases hy
    k_go
    lk
    exact⟨_,_,_,_,ds,kvs',rfl,u1,u2,u3,u4,u5,u6,uL,uA,uB⟩
  | succ i =>
    rw[hwk,List.getElem?_cons_succ,List.getElem?_map] at hy
    obtain⟨yb,hyb,rfl⟩:=Option.map_eq_some_iff.mp hy
    obtain⟨qq,m,eq,hc⟩:=yt0 [] [] t i yb hyb
    have e0:(!yb.1.1.isEmpty)=true:=by rw[eq];cases qq <;> rfl
    rw[e0]
    x_go
    have hc:(m=0/\yb.2=false)\/(∃ m',m=m'+1/\∃ z∈(wbK [] [] t).take i,z.1.1=qq++[(m':Int)]/\z.1.2.2.isTx=yb.2):=by
     rcases hc with hc|hc|⟨_,h2,h3⟩
     ·exact .inl hc
     ·exact .inr hc
     ·exact .inl ⟨h2,h3⟩
    have hff:(ffk rs [] [] t)[i]?=some (fOf rs yb):=by rw[yn8,List.getElem?_map,hyb];rfl
    rw[eq] at hylen k2
    rw[List.length_append,List.length_singleton] at hylen
    lk
    unfold yi9
    lk
    refine⟨dc,rfl,.inr ⟨kvs',.inl u4⟩,?_⟩
    lk
    refine⟨1,rfl,?_⟩
    lk
    refine Aj2 k2 fun c1 H6 s6 hc1=>?_
    rw[S9,wg8] at hc1
    lk
    refine⟨1,rfl,?_⟩
    refine G7 (SqT.of (s6 _ _ k2)) (v:=.int m) (U5 (n:=(E9 qq).length) (by rw[S9];simp) (by rw[S9];simp)) ?_
    lk
    refine⟨D5 (by z_go),fun c2 hc2=>?_⟩
    have s7:=A6.new hc2 (.tup [.int ((m:Int)-1)])
    refine yk2 (s7 _ _ hc1) A7 (by rw[M5];exact D5 (by show qq.length+1<=_;omega)) fun c3 H8 s8 hc3=>?_
    have hc3:H8 c3=some (.tup ((ky (qq++[(m:Int)-1])).map kV)):=by rw[zv6,hc3,S9]
    have s58:A6 H5 H8:=A6.tr s6 (A6.tr s7 s8)
    have u1:=A6.tr u1 s58
    have u2:=s58 _ _ u2
    have u3:=s58 _ _ u3
    have u4:=s58 _ _ u4
    have u5:=u5.tupK s58.tupK
    have u6:=Dvs.same s58 _ _ u6
    have k2:=s58 _ _ k2
    have k3:=s58 _ _ k3
    have k4:=Dv.same s58 _ _ k4
    have uA:∀ pl w,S6 kvs' (ky pl)=some w->∃ ws u,way t pl=some (ws++[u])/\Dv K H8 u.da w:=fun pl w h=>by obtain⟨ws,u,h1,h2⟩:=uA pl w h;exact⟨ws,u,h1,Dv.same s58 _ _ h2⟩
    refine⟨_,wa8.t u4 hc3,?_⟩
    have hah:Ahd K H8 ((S6 kvs' (ky (qq++[(m:Int)-1]))).getD .non) yb.2:=by
     rcases hc with⟨rfl,h2⟩|⟨m',rfl,z,hz,h3,h4⟩
     ·cases e:S6 kvs' (ky (qq++[((0:Nat):Int)-1])) with
      | none=>exact .inl ⟨rfl,h2⟩
      | some w =>
        obtain⟨ws,u,h5,_⟩:=uA _ _ e
        exact(zs2 h5).elim
     ·have em:(((m'+1:Nat):Int)-1)=(m':Int):=by omega
      rw[em]
      obtain⟨w,hw⟩:=uB z.1 (by
       rw[hwk,List.take_succ_cons]
       refine List.mem_cons_of_mem _ ?_
       rw[<-List.map_take]
       refine List.mem_map_of_mem ?_
       rw[List.take_add_one]
       exact List.mem_append.mpr (.inl hz))
      rw[h3] at hw
      rw[hw]
      obtain⟨ws,u,h5,h6⟩:=uA _ _ hw
      obtain⟨ws',h7⟩:=xy2 t [] [] [] t (by rw[way];rfl) z (List.mem_of_mem_take hz)
      rw[h3] at h7
      have:=yg1 h5 h7
      exact .inr ⟨u,h6,by rw[this];exact h4⟩
    generalize (S6 kvs' (ky (qq++[(m:Int)-1]))).getD .non=av at *
    lk
    refine⟨.inl ⟨rfl,_,SqL.of u2⟩,?_⟩
    lk
    refine⟨bv,na,pv,av,rs,yb.1.2.1,yb.1.2.2,yb.2,rfl,B,hR.same u1,hrl,SqT.of k3,by omega,k4,hah,fun H9 s9=>?_⟩
    lk
    refine⟨D5 (by z_go),fun c4 hc4=>?_⟩
    have s10:=A6.new hc4 (.tup [oV (qc3 rs yb.1.2.1 yb.1.2.2 yb.2),.ref pa])
    have e10:(upd H9 c4 (.tup [oV (qc3 rs yb.1.2.1 yb.1.2.2 yb.2),.ref pa])) c4=some (.tup [oV (qc3 rs yb.1.2.1 yb.1.2.2 yb.2),.ref pa]):=A7
    generalize upd H9 c4 (.tup [oV (qc3 rs yb.1.2.1 yb.1.2.2 yb.2),.ref pa])=H10 at *
    have s810:=A6.tr s9 s10
    have u1:=A6.tr u1 s810
    have u2:=s810 _ _ u2
    have u3:=s810 _ _ u3
    have u4:=s810 _ _ u4
    have u5:=u5.tupK s810.tupK
    have u6:=Dvs.same s810 _ _ u6
    have k2:=s810 _ _ k2
    have hdsl:ds.length<=i:=by
     have:=u6.length
     rw[List.length_map,List.length_take] at this
     have e:i+1-1=i:=by omega
     rw[e] at this
     omega
    lk
    refine W6 u2 (by rw[sizeLine_eq];omega) ?_
    have tk:=U6 (ys:=ds++[.ref c4]) u2
    refine⟨_,_,_,_,_,kvs',rfl,A6.put u1 hdu _,A7,by rw[C6 (Ne.symm ndw)];exact u3,by rw[C6 (Ne.symm ndd)];exact u4,u5.tupK tk,?_,uL,fun pl w h=>?_,uB⟩
    ·have e:i+1+1-1=i+1:=by omega
     rw[e,List.take_add_one,hff,List.map_append]
     have e:i+1-1=i:=by omega
     rw[e] at u6
     refine Dvs.append (Dvs.tupK tk _ _ (P8 zj8 _) u6) (Dvs.one ?_)
     unfold fD fOf
     refine C3.mpr ⟨c4,_,rfl,SqT.of (tk.1 _ _ e10),E1 (Ak9 _) (E1 (C3.mpr ⟨pa,_,rfl,SqT.of (tk.1 _ _ k2),?_⟩) E6)⟩
     rw[<-eq]
     exact N7.mpr rfl
    ·obtain⟨ws,u,h1,h2⟩:=uA pl w h
     exact⟨ws,u,h1,Dv.tupK tk _ _ (qa9 _) (Dv.same s810 _ _ h2)⟩
 ·rintro σ H' ⟨a5,a6,a7,a8,ds,kvs,rfl,z1,z2,z3,z4,z5,z6,z7,zA,zB⟩
  lk
  refine q du ds H' z1 z2 ?_
  have hlen:(ffk rs [] [] t).length=us.length-1:=by rw[hul,hwk,yn8];simp
  rw[List.take_of_length_le (by omega)] at z6
  exact z6
abbrev xe4(K:Fg):TS :=
 (M3 (D6 (tOp qm0 (A4 2) (tC .non)))
 (G9 (M6 (A2 (A4 2) (A2 (A4 3) B0)))) E8)
def Z7(K:Fg):Sp:=fun vs H Q _=>∃ (bv v:V) (rs:List Row) (t:Tr),vs=[bv,v]/\BkS rs/\Rws K H bv rs/\rs.length<=1000/\Dv K H t.da v/\wt t<=30000/\hgt t<=700/\∀ (x:V) (H':Hp),A6 H H'->Ak3 K H' (V1 (ffk rs [] [] t)) x->Q x H'
def qj1(K:Fg):TS :=
 (C1 (qh9 (qi1 K (C2 (qd1 K) [] E0 (A2 (A4 0) (A2 (A4 1) B0)))) (wj6 K 2 (R7 (B3 2) (R7 (B3 3) wj5)))
 (xe4 K))
 (G9 (tC .non)))
theorem xo0(h:Z7 K vs H Q E):qj1 K {nx:=fun _ H'=>Q .non H',rt:=Q} (J0 ["_law_book_here","_law_tree_here","_law_rule","_law_place"] vs) H:=by
 obtain⟨bv,v,rs,t,rfl,B,hR,hrl,hd,hz,hh,q⟩:=h
 show qj1 K _ [some bv,some v,none,none] H
 unfold qj1
 lk
 refine⟨bv,v,rs,t,rfl,B,hR,hrl,hd,hz,hh,fun p us H1 s1 hp dv=>?_⟩
 have hul:us.length=(ffk rs [] [] t).length:=by have:=dv.length;rw[List.length_map] at this;exact this
 refine qp6 (H0:=H1) (xs:=us) (.inl (SqL.of hp)) (fun _ _ e=>e) (fun i σ H'=>H'=H1/\(∃ (a2 a3:Option V),σ=[some bv,some v,a2,a3])/\∀ y∈(ffk rs [] [] t).take i,y.2=none) ⟨rfl,⟨_,_,rfl⟩,by simp⟩ (fun i σ H' p=>p.1▸fun _ _ e=>e) ?_ ?_
 ·rintro i x σ H' hx ⟨rfl,⟨a2,a3,rfl⟩,hn⟩
  obtain⟨d,h1,h2⟩:=dv.get' hx
  rw[List.getElem?_map] at h1
  obtain⟨y,hy,rfl⟩:=Option.map_eq_some_iff.mp h1
  obtain⟨a,pb,rfl,ha,hb⟩:=zj9 h2
  refine⟨a,_,rfl,ha,rfl,_,_,rfl,N1 ⟨_,_,rfl,N1 ⟨rfl,?_⟩⟩⟩
  lk
  rw[wd9]
  cases e:y.2 with
  | none =>
    k_go
    lk
    exact⟨rfl,⟨_,_,rfl⟩,qw9 hy hn e⟩
  | some r =>
    x_go
    lk
    refine⟨D5 (by z_go),fun c hc=>?_⟩
    have s2:=A6.new hc (.tup [.str r,.ref pb])
    refine q _ _ (A6.tr s1 s2) ?_
    rw[wp6 hn hy e]
    exact C3.mpr ⟨c,_,rfl,SqT.of A7,E1 (N6.mpr rfl) (E1 (C3.mpr ⟨pb,_,rfl,s2.sqT hb,N7.mpr rfl⟩) E6)⟩
 ·rintro σ H' ⟨rfl,⟨a2,a3,rfl⟩,hn⟩
  lk
  refine q _ _ s1 ?_
  rw[hul,List.take_length] at hn
  rw[xb1 hn]
  rfl
def Al0(K:Fg):TS :=
 (G9 (M6 (A2 (tOp (I9 K) (A4 0) (tC (.int 0))) (A2 (tOp (R1 K) (tOp (R1 K) (tSl (qr1 K) (tOp (I9 K) (A4 0) (tC (.int 1))) Q1 (Z1 (A4 3))) (M6 (A2 (A4 4) B0))) (tSl (qr1 K) (tOp (I9 K) (A4 0) (tC (.int 1))) (Z1 (tOp (R1 K) (A4 3) (tC (.int 1)))) Q1)) B0))))
abbrev we0(K:Fg)(spr:Sp):TS :=
 (C1 (E4 (C2 spr [] E0 (A2 (tOp (I9 K) (tOp (I9 K) (A4 0) (tC (.int 1))) (A4 3)) (A2 (tSl (qr1 K) (A4 1) (Z1 (tC (.int 1))) Q1) (A2 (A4 2) B0)))) (B3 4))
 (Al0 K))
def R3(n:Nat)(K:Fg):Sp:=fun vs H Q _=>∃ (tv:V) (pa qa:Addr) (t u:Tr) (pl:List Int) (ws ps:List Tr) (qs:List V),vs=[tv,.ref pa,.ref qa]/\Dv K H t.da tv/\SqT K H pa (E9 pl)/\way t pl=some (ws++[u])/\u.isTx=false/\pl.length<=n/\SqT K H qa qs/\Dvs K H (Tr.das ps) qs/\wt t<=30000/\∀ (x:V) (H':Hp),A6 H H'->Dv K H' (qe5 t pl ps).da x->Q x H'
def qn5(K:Fg):Sp:=R3 40 K
def P9(K:Fg):Nat->Sp
 | 0=>fun _ _ _ _=>False
 | n+1=>R3 n K
def T1(K:Fg)(spr:Sp):TS :=
 (C1 (M3 (D6 (tOp (Q7 K) (A4 1) (M6 B0)))
 (G9 (M6 (A2 (tOp (I9 K) (A4 0) (tC (.int 0))) (A2 (A4 2) B0)))) E8)
 (C1 (E4 (tOp (I9 K) (A4 1) (tC (.int 0))) (B3 3))
 (we0 K spr)))
theorem qn6 (n:Nat) (h:R3 n K vs H Q E):T1 K (P9 K n) {nx:=fun _ H'=>Q .non H',rt:=Q} (J0 ["_law_tree_here","_law_place","_law_parts","_law_k","_law_inner"] vs) H:=by
 obtain⟨tv,pa,qa,t,u,pl,ws,ps,qs,rfl,hd,hpa,hw,hu,hn,hqa,dq,hz,q⟩:=h
 show T1 K _ _ [some tv,some (.ref pa),some (.ref qa),none,none] H
 unfold T1
 lk
 refine⟨D5 (by z_go),fun e0 he0=>?_⟩
 have s1:=A6.new he0 (.tup [])
 refine wx3 (d:=.tuple (qa8 pl)) (e:=.tuple []) (C3.mpr ⟨pa,_,rfl,s1.sqT hpa,N7.mpr rfl⟩) (C3.mpr ⟨e0,[],rfl,SqT.of A7,E6⟩) (Nat.le_trans (Nat.min_le_right _ _) (by decide)) ?_
 rw[wg9]
 generalize upd H e0 (.tup [])=H1 at *
 have hd:=Dv.same s1 _ _ hd
 have hpa:=s1.sqT hpa
 have hqa:=s1.sqT hqa
 have dq:=Dvs.same s1 _ _ dq
 lk
 cases pl with
 | nil =>
   x_go
   have hw2:t=u:=by
    rw[way] at hw
    have:=congrArg List.getLast? (Option.some.inj hw)
    simpa using this
   subst hw2
   cases t with
   | tx s=>cases hu
   | nd m ts =>
     obtain⟨ta,tb,us,rfl,hta,htb,_⟩:=U8 hd
     lk
     refine G7 hta (v:=.str m) (D8 (j:=0) rfl) ?_
     lk
     refine⟨D5 (by z_go),fun c hc=>?_⟩
     have s2:=A6.new hc (.tup [.str m,.ref qa])
     refine q _ _ (A6.tr s1 s2) ?_
     rw[qe5]
     exact qx2 (SqT.of A7) (s2.sqT hqa) (Dvs.same s2 _ _ dq)
 | cons k pl =>
   k_go
   obtain⟨h0,w,ws',h1,h2,h3⟩:=S2 hw
   cases t with
   | tx s=>cases h1
   | nd m ts =>
     have h1:ts[k.toNat]?=some w:=h1
     have hk:k.toNat<ts.length:=(List.getElem?_eq_some_iff.mp h1).1
     have hwts:wts ts<=30000:=by rw[wt] at hz;omega
     have htl:=wg4 ts
     obtain⟨ta,tb,us,rfl,hta,htb,hd2⟩:=U8 hd
     obtain⟨v,hv,dv⟩:=qb6 hd2 h1
     cases n with
     | zero=>simp at hn
     | succ n =>
       lk
       refine G7 hpa (v:=.int k) (D8 (j:=0) rfl) ?_
       lk
       refine G7 hta (v:=.ref tb) (D8 (j:=1) rfl) ?_
       lk
       refine G7 htb (v:=v) (ixI h0 hv) ?_
       lk
       refine qk3 hpa fun p2 H2 s2 hp2=>?_
       rw[qq1 (by decide)] at hp2
       have hp2:SqT K H2 p2 (E9 pl):=hp2
       lk
       have hww:wt w<=30000:=by
        have:∀ {l:List Tr} {i:Nat},l[i]?=some w->wt w<=wts l:=by
         intro l
         induction l with
         | nil=>intro i h;simp at h
         | cons a l ih =>
           intro i h
           rw[wts]
           cases i with
           | zero=>cases h;omega
           | succ i=>have:=ih (i:=i) (by simpa using h);omega
        have:=this h1
        omega
       have hlast:∃ ws2,way w pl=some (ws2++[u]):=by
        rw[h2]
        cases ws with
        | nil =>
          injection h3 with _ h3
          subst h3
          have:=V7 h2
          simp at this
        | cons a l =>
          injection h3 with _ h3
          exact⟨l,by rw[<-h3];rfl⟩
       obtain⟨ws2,hw2⟩:=hlast
       refine⟨v,p2,qa,w,u,pl,ws2,ps,qs,rfl,Dv.same s2 _ _ dv,hp2,hw2,hu,by simp at hn;omega,s2.sqT hqa,Dvs.same s2 _ _ dq,hww,fun x H3 s3 dx=>?_⟩
       lk
       unfold Al0
       have s23:=A6.tr s2 s3
       have hta:=s23.sqT hta
       have htb:=s23.sqT htb
       have hd2:=Dvs.same s23 _ _ hd2
       have hul:=Q5 hd2
       lk
       refine G7 hta (v:=.str m) (D8 (j:=0) rfl) ?_
       lk
       refine G7 hta (v:=.ref tb) (D8 (j:=1) rfl) ?_
       lk
       refine qk3 htb fun c1 H4 s4 hc1=>?_
       rw[wh3 h0] at hc1
       lk
       refine⟨D5 (by z_go),fun c2 hc2=>?_⟩
       have s5:=A6.new hc2 (.tup [x])
       refine qe1 (s5.sqT hc1) (SqT.of A7) (D5 (by rw[List.length_take];show _+1<=_;omega)) fun c3 H6 s6 hc3=>?_
       have s36:=A6.tr s4 (A6.tr s5 s6)
       lk
       refine G7 (s36.sqT hta) (v:=.ref tb) (D8 (j:=1) rfl) ?_
       lk
       refine .inl (qq9 ?_)
       lk
       refine qk3 (s36.sqT htb) fun c4 H7 s7 hc4=>?_
       rw[qq1 (by omega),show(k+1).toNat=k.toNat+1 by omega] at hc4
       refine qe1 (s7.sqT hc3) hc4 (D5 (by rw[List.length_append,List.length_take,List.length_drop];show _+1+_<=_;omega)) fun c5 H8 s8 hc5=>?_
       lk
       refine⟨D5 (by z_go),fun c6 hc6=>?_⟩
       have s9:=A6.new hc6 (.tup [.str m,.ref c5])
       have s39:=A6.tr s36 (A6.tr s7 (A6.tr s8 s9))
       refine q _ _ (A6.tr s1 (A6.tr s23 s39)) ?_
       rw[qe5,h1]
       refine qx2 (SqT.of A7) (s9.sqT hc5) ?_
       rw[qc8,qc8,wh4,wh5]
       refine Dvs.append (Dvs.append (qx7 _ (Dvs.same s39 _ _ hd2)) ?_) (qx8 _ (Dvs.same s39 _ _ hd2))
       rw[Tr.das,Tr.das]
       exact Dvs.one (Dv.same s39 _ _ dx)
theorem zs4(n:Nat):(List.replicate n (V.bl true)).all ql8=true:=List.all_eq_true.mpr fun x hx=>by rw[List.eq_of_mem_replicate hx];rfl
theorem zk0:∀ n:Nat,inV (.bl false) (List.replicate n (V.bl true))=false
 | 0=>rfl
 | n+1=>by
   have ih:=zk0 n
   unfold inV at ih ⊢
   rw[List.replicate_succ,List.any_cons,ih];rfl
theorem yg6:∀ {ts:List Tr} {t:Tr},t∈ts->hgt t<=O2 ts
 | u::ts,t,h=>by
   rw[O2]
   rcases List.mem_cons.mp h with rfl|h
   ·exact Nat.le_max_left _ _
   ·exact Nat.le_trans (yg6 h) (Nat.le_max_right _ _)
theorem yt3:∀ {ts:List Tr} {t:Tr},t∈ts->wt t<=wts ts
 | u::ts,t,h=>by
   rw[wts]
   rcases List.mem_cons.mp h with rfl|h
   ·exact Nat.le_add_right _ _
   ·exact Nat.le_trans (yt3 h) (Nat.le_add_left _ _)
abbrev wm9(K:Fg)(spr:Sp):TS :=
 (G9 (xp3 (tCB (wa9 K) (A2 (tOp (I9 K) (A4 0) (tC (.int 1))) (A2 (tC (.ty "tuple")) B0))) (tOp (wd5 K true) (tC (.bl false)) (Y4 [none] (qi1 K (tOp (I9 K) (A4 0) (tC (.int 1)))) (B3 0) tTT (C2 spr [] E0 (A2 (A4 0) B0))))))
abbrev wn0(K:Fg)(spr:Sp):TS :=
 (C1 (M3 (tOr (wj3 (tB (tCB (wa9 K) (A2 (A4 0) (A2 (tC (.ty "tuple")) B0))))) (tOr (D6 (tOp (W5 K) (tCB (P6 K) (A2 (A4 0) B0)) (tC (.int 2)))) (wj3 (tB (tCB (wa9 K) (A2 (tOp (I9 K) (A4 0) (tC (.int 0))) (A2 (tC (.ty "str")) B0)))))))
 (G9 (tC (.bl false))) E8)
 (wm9 K spr))
def T2(n:Nat)(K:Fg):Sp:=fun vs H Q _=>∃ (t:Tr) (v:V),vs=[v]/\Dv K H t.da v/\hgt t<=n/\wt t<=40000/\∀ H',A6 H H'->Q (.bl true) H'
def qu2(K:Fg):Sp:=T2 45 K
def S4(K:Fg):Nat->Sp
 | 0=>fun _ _ _ _=>False
 | n+1=>T2 n K
def X0(K:Fg)(spr:Sp):TS :=
 (C1 (M3 (tB (tCB (wa9 K) (A2 (A4 0) (A2 (tC (.ty "str")) B0))))
 (G9 (tC (.bl true))) E8)
 (wn0 K spr))
theorem qu3(n:Nat)(h:T2 n K vs H Q E):X0 K (S4 K n) {nx:=fun _ H'=>Q .non H',rt:=Q} (J0 ["_law_found"] vs) H:=by
 obtain⟨t,v,rfl,hd,hh,hw,q⟩:=h
 show X0 K _ _ [some v] H
 unfold X0
 cases t with
 | tx s =>
   rw[yr6 hd]
   lk
   refine yb1 (.str _) (b:=true) rfl ?_
   lk
   exact q H (fun _ _ e=>e)
 | nd nm ps =>
   obtain⟨a,bq,us,rfl,ha,hb,hus⟩:=U8 hd
   have hul:=Q5 hus
   obtain⟨m,rfl⟩:∃ m,n=m+1:=⟨n-1,by rw[hgt] at hh;omega⟩
   rw[hgt] at hh
   rw[wt] at hw
   lk
   refine wx5 ha (b:=false) rfl ?_
   lk
   refine wx5 ha (b:=true) rfl ?_
   lk
   k_go
   lk
   refine O1 (.inr ha) ?_
   lk
   rw[show decide ((([V.str nm,V.ref bq].length:Nat):Int)=2)=true from rfl]
   k_go
   lk
   refine G7 ha (v:=.str nm) (D8 (j:=0) rfl) ?_
   lk
   refine yb1 (.str _) (b:=true) rfl ?_
   lk
   k_go
   lk
   refine G7 ha (v:=.ref bq) (D8 (j:=1) rfl) ?_
   lk
   refine wx5 hb (b:=true) rfl ?_
   lk
   refine G7 ha (v:=.ref bq) (D8 (j:=1) rfl) ?_
   have hwl:ps.length<=wts ps:=by
    have:∀ l:List Tr,l.length<=wts l:=fun l=>by
     induction l with
     | nil=>exact Nat.zero_le _
     | cons t l ih=>rw[wts,List.length_cons];have:=ym1 t;omega
    exact this ps
   refine qp7 (H0:=H) (xs:=us) (.inr hb) (fun _ _ e=>e) (fun i ys H'=>A6 H H'/\ys=List.replicate i (V.bl true)) ⟨fun _ _ e=>e,rfl⟩ ?_ (fun i ys H' p=>p.1) ?_ ?_
   ·rintro i ys H' hi ⟨_,rfl⟩
    rw[List.length_replicate];exact D5 (by omega)
   ·rintro i x ys H' hx ⟨s1,rfl⟩
    obtain⟨d,h1,h2⟩:=hus.get' hx
    rw[O4,List.getElem?_map] at h1
    obtain⟨t,ht,rfl⟩:=Option.map_eq_some_iff.mp h1
    have hm:=List.mem_of_getElem? ht
    lk
    refine⟨t,x,rfl,Dv.same s1 _ _ h2,?_,?_,fun H2 s2=>?_⟩
    ·have:=yg6 hm;omega
    ·have:=yt3 hm;omega
    ·refine⟨A6.tr s1 s2,?_⟩
     rw[List.replicate_succ']
   ·rintro ys H' ⟨s1,rfl⟩ p hp
    refine .inl (yp9 (.inl (SqL.of A7)) rfl (zs4 _) ?_)
    rw[zk0]
    exact q _ (A6.tr s1 (A6.new hp _))
abbrev xe6(K:Fg):TS :=
 (C1 (E4 (tOp (I9 K) (A4 2) (C2 (D0 K) [] E0 (A2 (A4 0) (A2 (tCB (P6 K) (A2 (A4 2) B0)) B0)))) (wj6 K 3 (R7 (B3 3) (R7 (B3 4) (R7 (B3 5) wj5)))))
 (G9 (M6 (A2 (A4 3) (A2 (tOp (I9 K) (A4 5) (tC (.int 1))) B0)))))
def qg1(K:Fg):Sp:=fun vs H Q _=>∃ (d:Addr) (v:V) (t:Tr),vs=[.ref d,v]/\Dk H d/\Dv K H t.da v/\t.isTx=false/\wt t<=10000/\∀ (x pa pb:Addr) (q:List Int) (ws:List Tr) (u:Tr) (us:List V) (H':Hp),Mv d H H'->H' x=some (.tup [.ref pa,.ref pb])->SqT K H' pa (E9 q)->way t q=some (ws++[u])->u.isTx=false->SqT K H' pb us->Dvs K H' (Tr.das u.kids) us->Q (.ref x) H'
def qj2(K:Fg):TS :=
 (C1 (E4 (Y4 [none] (qi1 K (C2 (qc6 K) [] E0 (A2 (A4 1) B0))) (B3 0) (wj3 (tB (tCB (wa9 K) (A2 (tOp (I9 K) (A4 0) (tC (.int 2))) (A2 (tC (.ty "str")) B0))))) (A4 0)) (B3 2))
 (xe6 K))
theorem xo1(h:qg1 K vs H Q E):qj2 K {nx:=fun _ H'=>Q .non H',rt:=Q} (J0 ["_law_deck","_law_tree_here","_law_some_here","_law_place","_law_names","_law_part"] vs) H:=by
 obtain⟨d,tv,t,rfl,dk,htv,ht,hz,q⟩:=h
 show qj2 K _ [some (.ref d),some tv,none,none,none,none] H
 unfold qj2
 have hwl:(wk ([],[],t)).length<=wt t:=xw9 _ _ _ t
 lk
 refine⟨t,tv,rfl,htv,by omega,fun p us H1 s1 np hp w3=>?_⟩
 have hul:=w3.length
 refine qe0 (xs:=us) (SqL.of hp) (fun i ys H'=>H'=H1/\∃ xs:List T3,W3s K H1 xs ys/\(∀ x∈xs,x∈wk ([],[],t)/\x.2.2.isTx=false)/\xs.length<=i/\(1<=i->1<=xs.length)) ⟨rfl,[],rfl,by simp,by simp,by simp⟩ ?_ ?_ ?_ ?_
 ·rintro i ys H' hi ⟨rfl,xs,w,_,h1,_⟩
  rw[w.length];exact D5 (by omega)
 ·rintro i ys H' hi ⟨rfl,_⟩
  exact SqL.of hp
 ·rintro i x ys H' hx ⟨rfl,xs,w,hm,h1,h2⟩
  obtain⟨y,hy,wy⟩:=w3.get hx
  have wy0:=wy
  obtain⟨xa,pa,na,pv,rfl,k1,k2,k3,k4⟩:=wy
  lk
  refine G7 (SqT.of k1) (v:=pv) (D8 (j:=2) rfl) ?_
  lk
  refine wz5 k4 ?_
  lk
  cases htx:y.2.2.isTx with
  | false =>
    x_go
    lk
    refine⟨rfl,xs++[y],W3s.app w (W3s.one wy0),fun z hz=>?_,by simp;omega,fun _=>by simp⟩
    rcases List.mem_append.mp hz with hz|hz
    ·exact hm z hz
    ·rw[List.mem_singleton.mp hz];exact⟨List.mem_of_getElem? hy,htx⟩
  | true =>
    k_go
    refine⟨rfl,xs,w,hm,by omega,fun _=>?_⟩
    cases i with
    | zero =>
      rw[xw8] at hy
      cases hy
      rw[ht] at htx;cases htx
    | succ i=>exact h2 (by omega)
 ·rintro ys H' ⟨rfl,xs,w,hm,h1,h2⟩ wd hwd
  have h2:1<=xs.length:=h2 (by rw[hul,xw8];simp)
  have hyl:=w.length
  have s2:=A6.new hwd (.lst ys)
  have e2:(upd H' wd (.lst ys)) wd=some (.lst ys):=A7
  have w:=w.tupK s2.tupK
  have s12:=A6.tr s1 s2
  generalize upd H' wd (.lst ys)=H2 at *
  have dk2:=dk.same s12
  lk
  refine O1 (.inl (SqL.of e2)) ?_
  lk
  refine⟨d,(ys.length:Int),rfl,by omega,by omega,dk2,fun m H3 m0 m1 mv3=>?_⟩
  lk
  have nwd:wd≠d:=(dk.same s1).ne hwd
  have hml:m.toNat<ys.length:=by omega
  refine S5 (SqL.of (mv3.at e2 nwd)) (ixI m0 (List.getElem?_eq_getElem hml)) ?_
  obtain⟨y,hy,wy⟩:=(w.tupK (mv3.tupK dk2)).get (List.getElem?_eq_getElem hml)
  obtain⟨xa,pa,na,pv,ev,k1,k2,k3,k4⟩:=wy
  obtain⟨hym,hyt⟩:=hm y (List.mem_of_getElem? hy)
  rw[ev]
  refine⟨xa,_,rfl,SqT.of k1,rfl,_,_,rfl,N1 ⟨_,_,rfl,N1 ⟨_,_,rfl,N1 ⟨rfl,?_⟩⟩⟩⟩
  obtain⟨ws,hway⟩:=Ae2 hym
  obtain⟨pl,ns,u⟩:=y
  cases u with
  | tx s=>cases hyt
  | nd n ps =>
    obtain⟨ta,pb,us2,rfl,hta,htb,hd2⟩:=U8 k4
    lk
    refine G7 hta (v:=.ref pb) (D8 (j:=1) rfl) ?_
    lk
    refine⟨D5 (by z_go),fun x hx=>?_⟩
    have s4:=A6.new hx (.tup [.ref pa,.ref pb])
    exact q x pa pb pl ws (.nd n ps) us2 _ ((Mv.tr (Mv.same (Mv.refl dk) s12) mv3).same s4) A7 (SqT.of (s4 _ _ k2)) hway rfl (s4.sqT htb) (Dvs.same s4 _ _ hd2)
mutual
theorem zk1:∀ t:Tr,nd t.da=true
 | .tx s=>by rw[Tr.da,nd]
 | .nd n ps=>by rw[Tr.da,nd,nds,nd,nds,nd,nds,yt4 ps];rfl
theorem yt4:∀ ts:List Tr,nds (Tr.das ts)=true
 | []=>by rw[Tr.das,nds]
 | t::ts=>by rw[Tr.das,nds,zk1 t,yt4 ts];rfl
end
mutual
theorem xe8:∀ t:Tr,t.da.depth<=2*hgt t+4
 | .tx s=>by rw[Tr.da];simp[PyData.depth]
 | .nd n ps=>by
   have:=xs0 ps
   rw[Tr.da,hgt]
   simp[PyData.depth,PyData.depthAll] at this ⊢
   omega
theorem xs0:∀ ts:List Tr,PyData.depthAll (Tr.das ts)<=2*O2 ts+4
 | []=>by rw[Tr.das];simp[PyData.depthAll]
 | t::ts=>by
   have h1:=xe8 t
   have h2:=xs0 ts
   rw[Tr.das,O2]
   simp[PyData.depthAll] at h2 ⊢
   omega
end
theorem zk2{t:Tr}{p':Addr}{x y:V}(hh:hgt t<=90)(h:H p=some (.lst [x]))(h':H p'=some (.lst [y]))(dx:Dv K H t.da x)(dy:Dv K H t.da y)(q:Q (.bl false) H):W5 K (.ref p) (.ref p') H Q:=by
 have hd:=xe8 t
 have hd2:(PyData.list [t.da]).depth<=190:=by simp[PyData.depth,PyData.depthAll];omega
 refine wx4 (d:=.list [t.da]) (e:=.list [t.da]) (P5.mpr ⟨p,_,rfl,SqL.of h,Dvs.one dx⟩) (P5.mpr ⟨p',_,rfl,SqL.of h',Dvs.one dy⟩) (by omega) ?_
 rw[qk2 _ (by rw[nd,nds,nds,zk1];rfl)]
 exact q
theorem we1:∀ l:List Int,PyData.depthAll (qa8 l)<=1
 | []=>by simp[qa8,PyData.depthAll]
 | a::l=>by
   have:=we1 l
   show PyData.depthAll (.int a::qa8 l)<=1
   simp[PyData.depthAll,PyData.depth] at this ⊢
   omega
theorem xe9:∀ ns:List Int,nds (qa8 ns)=true
 | []=>by rw[show qa8 []=[] from rfl,nds]
 | n::ns=>by show nds (.int n::qa8 ns)=true;rw[nds,xe9 ns,nd];rfl
def wp7(K:Fg)(H:Hp)(l:Addr)(rs:List Row)(t:Tr):Prop:=(V1 (ffk rs [] [] t)=none/\∃ x,H l=some (.lst [x])/\Dv K H t.da x)\/∃ r pl p,V1 (ffk rs [] [] t)=some (r,pl)/\H l=some (.lst [.bl true,.str r,.ref p])/\SqT K H p (E9 pl)
theorem wp7.same{l:Addr}{t:Tr}(h:wp7 K H l rs t)(s:A6 H H'):wp7 K H' l rs t:=h.imp (fun⟨a,x,b,c⟩=>⟨a,x,s _ _ b,Dv.same s _ _ c⟩) fun⟨r,pl,p,a,b,c⟩=>⟨r,pl,p,a,s _ _ b,s.sqT c⟩
abbrev xf0(K:Fg):TS :=
 (G9 (xp3 (tOp (Q7 K) (tCB (P6 K) (A2 (A4 0) B0)) (tC (.int 1))) (xp3 (C2 (qu2 K) [] E0 (A2 (tOp (I9 K) (A4 0) (tC (.int 0))) B0)) (tOp (Q7 K) (tOp (I9 K) (A4 0) (tC (.int 0))) (A4 2)))))
abbrev xf1(K:Fg):TS :=
 (G9 (tOp (Q7 K) (A4 0) (Y8 (A2 (tC (.bl true)) (A2 (tOp (I9 K) (A4 3) (tC (.int 0))) (A2 (tOp (I9 K) (A4 3) (tC (.int 1))) B0))))))
def qg2(K:Fg):Sp:=fun vs H Q _=>∃ (l:Addr) (bv mv:V) (rs:List Row) (t:Tr),vs=[.ref l,bv,mv]/\BkS rs/\Rws K H bv rs/\rs.length<=1000/\Dv K H t.da mv/\wt t<=30000/\hgt t<=45/\wp7 K H l rs t/\∀ H',A6 H H'->Q (.bl true) H'
def qj3(K:Fg):TS :=
 (C1 (E4 (C2 (Z7 K) [] E0 (A2 (A4 1) (A2 (A4 2) B0))) (B3 3))
 (C1 (M3 (D6 (tOp xt6 (A4 3) (tC .non)))
 (xf0 K) E8)
 (xf1 K)))
theorem xo2(h:qg2 K vs H Q E):qj3 K {nx:=fun _ H'=>Q .non H',rt:=Q} (J0 ["_law_told_here","_law_book_here","_law_made","_law_due"] vs) H:=by
 obtain⟨l,bv,mv,rs,t,rfl,B,hR,hrl,hd,hw,hh,hT,q⟩:=h
 show qj3 K _ [some (.ref l),some bv,some mv,none] H
 unfold qj3
 have hdd:=xe8 t
 lk
 refine⟨bv,mv,rs,t,rfl,B,hR,hrl,hd,hw,by omega,fun x H1 s1 hx=>?_⟩
 have hd:=Dv.same s1 _ _ hd
 lk
 rcases hT.same s1 with⟨hn,y,hl,dy⟩|⟨r,pl,p,hf,hl,hp⟩
 ·rw[hn] at hx
  obtain rfl:x=.non:=hx
  rw[decide_eq_true rfl]
  x_go
  lk
  refine O1 (.inl (SqL.of hl)) ?_
  lk
  rw[decide_eq_true (by rfl)]
  x_go
  lk
  refine S5 (SqL.of hl) (v:=y) (D8 (j:=0) rfl) ?_
  lk
  refine⟨t,y,rfl,dy,hh,by omega,fun H2 s2=>?_⟩
  refine⟨_,rfl,?_⟩
  x_go
  lk
  refine S5 (SqL.of (s2 _ _ hl)) (v:=y) (D8 (j:=0) rfl) ?_
  lk
  refine wx3 (Dv.same s2 _ _ dy) (Dv.same s2 _ _ hd) (by omega) ?_
  rw[qk2 _ (zk1 t)]
  exact q H2 (A6.tr s1 s2)
 ·rw[hf] at hx
  obtain⟨c,us,rfl,hc,du⟩:=C3.mp (show Dv K H1 (.tuple [.str r,.tuple (qa8 pl)]) x from hx)
  rw[Dvs] at du
  obtain⟨y1,us,rfl,d1,du⟩:=du
  rw[Dvs] at du
  obtain⟨y2,us,rfl,d2,du⟩:=du
  rw[Dvs] at du
  subst du
  obtain rfl:=N6.mp d1
  rw[decide_eq_false (by simp)]
  k_go
  lk
  refine G7 hc (v:=.str r) (D8 (j:=0) rfl) ?_
  lk
  refine G7 hc (v:=y2) (D8 (j:=1) rfl) ?_
  lk
  refine⟨D5 (by z_go),fun l2 hl2=>?_⟩
  have s2:=A6.new hl2 (.lst [.bl true,.str r,y2])
  have hdp:=we1 pl
  refine wx3 (d:=.list [.bool true,.str r,.tuple (qa8 pl)]) (e:=.list [.bool true,.str r,.tuple (qa8 pl)]) (P5.mpr ⟨l,_,rfl,SqL.of (s2 _ _ hl),E1 (qi0.mpr rfl) (E1 (N6.mpr rfl) (E1 (C3.mpr ⟨p,_,rfl,s2.sqT hp,N7.mpr rfl⟩) E6))⟩)
   (P5.mpr ⟨l2,_,rfl,SqL.of A7,E1 (qi0.mpr rfl) (E1 (N6.mpr rfl) (E1 (Dv.same s2 _ _ d2) E6))⟩) (by simp[PyData.depth,PyData.depthAll] at hdp ⊢;omega) ?_
  rw[qk2 _ (by rw[nd,nds,nds,nds,nds,nd,nd,nd,xe9];rfl)]
  exact q _ (A6.tr s1 s2)
def chn:List Str->List Tr->List Tr
 | [],ps=>ps
 | n::ns,ps=>[.nd n (chn ns ps)]
theorem zk3:∀ (ns:List Str) (ps:List Tr),wts (chn ns ps)=ns.length+wts ps/\O2 (chn ns ps)<=ns.length+O2 ps
 | [],ps=>by rw[chn];simp
 | n::ns,ps=>by
   have:=zk3 ns ps
   rw[chn,wts,wts,wt,O2,O2,hgt,List.length_cons];omega
def Chn(t:Tr)(n:Nat):Prop:=∀ m,m<=n->∃ ws u,way t (List.replicate m (0:Int))=some (ws++[u])/\u.isTx=false
theorem yt5:∀ (ns:List Str) (ps:List Tr) (x:Str),Chn (.nd x (chn ns ps)) ns.length
 | ns,ps,x,0,_=>⟨[],.nd x (chn ns ps),by rw[List.replicate_zero,way];rfl,rfl⟩
 | [],ps,x,m+1,h=>by simp at h
 | n::ns,ps,x,m+1,h=>by
   obtain⟨ws,u,h1,h2⟩:=yt5 ns ps n m (by simpa using h)
   refine⟨.nd x (chn (n::ns) ps)::ws,u,?_,h2⟩
   rw[List.replicate_succ]
   have:=ym6 (t:=.nd x (chn (n::ns) ps)) (u:=.nd n (chn ns ps)) (k:=0) rfl h1
   exact this
abbrev wn1(K:Fg):TS :=
 (G9 (M6 (A2 (M6 (A2 (tC (.str "")) (A2 (A4 6) B0))) (A2 (tCB (P6 K) (A2 (A4 4) B0)) B0))))
abbrev wn2(K:Fg):TS :=
 (C1 (qh9 (zf8 K (A2 (A4 4) B0)) (B3 7)
 (E4 (M6 (A2 (M6 (A2 (A4 7) (A2 (A4 6) B0))) B0)) (B3 6)))
 (wn1 K))
def chD(K:Fg):TS :=
 (C1 (E4 (C2 (qf8 K) [] E0 (A2 (A4 0) (A2 (A4 1) (A2 (A4 4) (A2 (tC (.int 2)) B0))))) (B3 6))
 (wn2 K))
theorem Al1{bk na:Addr}{ub:List V}{a2 a3:Option V}(G:Grw K H d bk e 3 ub rs [])(hna:SqT K H na (D4 ns))(hl:ns.length<=20)(q:∀ (x:Addr) (tv:V) (t:Tr) (n:Nat) (H':Hp),Mv d H H'->H' x=some (.tup [tv,.int n])->Dv K H' t.da tv->t.isTx=false->wt t<=1200->hgt t<=30->n<=20->Chn t n->D.rt (.ref x) H') :
 chD K D [some (.ref d),some (.ref bk),a2,a3,some (.ref na),a5,a6,a7] H:=by
 unfold chD
 lk
 have G1:Grw K H d bk na 1 ub rs ns:=⟨G.dk,G.hbk,G.dvs,G.r1,G.r8,G.B,hna,by omega⟩
 refine⟨d,bk,na,1,ub,rs,ns,rfl,G1,by decide,fun t vs ps H1 mv1 ht dv _ hw hpl hh=>?_⟩
 have hB:BB 1=31:=by decide
 have hpl:ps.length<=4:=by split at hpl <;> omega
 have hw:wts ps<=124:=by rw[hB] at hw;omega
 have hna1:=(mv1.tupK G.dk).sqT hna
 have hnl:=G8 ns
 lk
 refine zp5 ?_
 lk
 refine zg2 (xs:=D4 ns) hna1 (fun i σ H'=>i<=ns.length/\∃ (c:Addr) (zs:List V) (a7:Option V),σ=[some (.ref d),some (.ref bk),a2,a3,some (.ref na),a5,some (.ref c),a7]/\A6 H1 H'/\H' c=some (.tup zs)/\Dvs K H' (Tr.das (chn (ns.drop (ns.length-i)) ps)) zs) ⟨Nat.zero_le _,t,vs,_,rfl,fun _ _ e=>e,ht,by rw[Nat.sub_zero,List.drop_length];exact dv⟩ (fun i σ H' ⟨_,_,_,_,_,s,_⟩=>s.sqT hna1) ?_ ?_
 ·rintro i x σ H' hx hi ⟨_,c,zs,a7,rfl,s1,hc,dz⟩
  rw[hnl] at hx hi
  obtain⟨y,hy,rfl⟩:=qx1 hx
  lk
  refine⟨D5 (by z_go),fun p1 h1=>?_⟩
  have s2:=A6.new h1 (.tup [.str y,.ref c])
  have e2:(upd H' p1 (.tup [.str y,.ref c])) p1=some (.tup [.str y,.ref c]):=A7
  generalize upd H' p1 (.tup [.str y,.ref c])=H2 at *
  lk
  refine⟨D5 (by z_go),fun p2 h2=>?_⟩
  have s3:=A6.new h2 (.tup [.ref p1])
  refine⟨hi,p2,_,_,rfl,A6.tr s1 (A6.tr s2 s3),A7,?_⟩
  have hlt:ns.length-(i+1)<ns.length:=by omega
  have ey:ns[ns.length-(i+1)]=y:=by
   have:=(List.getElem?_eq_some_iff.mp hy).2
   rw[<-this];congr 1;omega
  rw[List.drop_eq_getElem_cons hlt,ey,show ns.length-(i+1)+1=ns.length-i by omega,chn,Tr.das,Tr.das]
  exact Dvs.one (qx2 (SqT.of (s3 _ _ e2)) (SqT.of ((A6.tr s2 s3) _ _ hc)) (Dvs.same (A6.tr s2 s3) _ _ dz))
 ·rintro σ H' ⟨_,c,zs,a7,rfl,s1,hc,dz⟩
  rw[hnl,Nat.sub_self,List.drop_zero] at dz
  lk
  refine⟨D5 (by z_go),fun p1 h1=>?_⟩
  have s2:=A6.new h1 (.tup [.str "",.ref c])
  have e2:(upd H' p1 (.tup [.str "",.ref c])) p1=some (.tup [.str "",.ref c]):=A7
  generalize upd H' p1 (.tup [.str "",.ref c])=H2 at *
  have s12:=A6.tr s1 s2
  lk
  refine O1 (.inr (s12.sqT hna1)) ?_
  rw[hnl]
  lk
  refine⟨D5 (by z_go),fun p2 h2=>?_⟩
  have s3:=A6.new h2 (.tup [.ref p1,.int ns.length])
  have cl:=zk3 ns ps
  exact q p2 _ (.nd "" (chn ns ps)) ns.length _ (mv1.same (A6.tr s12 s3)) A7 (qx2 (SqT.of (s3 _ _ e2)) (SqT.of ((A6.tr s2 s3) _ _ hc)) (Dvs.same (A6.tr s2 s3) _ _ dz)) rfl (by rw[wt];omega) (by rw[hgt];omega) hl (yt5 ns ps _)
abbrev wn3(K:Fg):TS :=
 (E4 (tOp (R1 K) (A4 4) (M6 (A2 (tOp (I9 K) (A4 3) (C2 (D0 K) [] E0 (A2 (A4 0) (A2 (tCB (P6 K) (A2 (A4 3) B0)) B0)))) B0))) (B3 4))
abbrev wn4(K:Fg):TS :=
 (qh9 (qh7 (A2 (tOp (R1 K) (tC (.int 14)) (C2 (D0 K) [] E0 (A2 (A4 0) (A2 (tC (.int 7)) B0)))) B0)) (B3 5)
 (wn3 K))
abbrev wn5(K:Fg):TS :=
 (C1 (M3 (D6 (tOp (W5 K) (A4 3) (Y8 B0)))
 (wn4 K) E8)
 (chD K))
abbrev wn6(K:Fg):TS :=
 (C1 (E4 (Y4 [some 2,none] (qi1 K (A4 1)) (B3 1) (wa6 (D6 (tOp (wd5 K false) (tOp (I9 K) (A4 1) (tC (.int 1))) (M6 (A2 (tC (.str "plain")) (A2 (tC (.str "anew")) B0))))) (wa6 (D6 (tOp (Q7 K) (tSl (qr1 K) (A4 1) (Z1 (tC (.int 3))) Q1) (M6 (A2 (M6 B0) (A2 (M6 B0) B0))))) (D6 (tOp (wd5 K true) (tOp (I9 K) (A4 1) (tC (.int 0))) (A4 0))))) (tOp (I9 K) (A4 1) (tC (.int 0)))) (B3 3))
 (C1 (E4 (M6 B0) (B3 4))
 (wn5 K)))
def qa4(K:Fg):Sp:=fun vs H Q _=>∃ (d bk e:Addr) (ub:List V) (rs:List Row),vs=[.ref d,.ref bk]/\Grw K H d bk e 3 ub rs []/\∀ (x:Addr) (tv:V) (t:Tr) (n:Nat) (H':Hp),Mv d H H'->H' x=some (.tup [tv,.int n])->Dv K H' t.da tv->t.isTx=false->wt t<=1200->hgt t<=30->n<=20->Chn t n->Q (.ref x) H'
def qd2(K:Fg):TS :=
 (C1 (E4 (Y4 [none] (qi1 K (A4 1)) (B3 0) tTT (tOp (I9 K) (A4 0) (tC (.int 2)))) (B3 2))
 (wn6 K))
theorem wu1 (h:qa4 K vs H Q E):qd2 K {nx:=fun _ H'=>Q .non H',rt:=Q} (J0 ["_law_deck","_law_book_here","_law_hosts","_law_plain","_law_names","_law_k","_law_parts","_law_name_here"] vs) H:=by
 obtain⟨d,bk,e,ub,rs,rfl,G,q⟩:=h
 show qd2 K _ [some (.ref d),some (.ref bk),none,none,none,none,none,none] H
 unfold qd2
 have hul:ub.length=rs.length:=by have:=G.dvs.length;rw[List.length_map] at this;exact this
 have r8:=G.r8
 have row:∀ {i:Nat} {x:V} {H':Hp},ub[i]?=some x->A6 H H'->∃ (r:Row) (rb:Addr) (sv bv:V),x=.ref rb/\SqT K H' rb [.str r.name,.str r.sort,.str r.host,sv,bv]/\Dv K H' (.tuple (sDa r.shuts)) sv/\Dv K H' (.tuple (sDa r.bars)) bv:=by
  intro i x H' hx s
  obtain⟨dd,hd1,hd2⟩:=G.dvs.get' hx
  rw[List.getElem?_map] at hd1
  obtain⟨r,hr,rfl⟩:=Option.map_eq_some_iff.mp hd1
  obtain⟨rb,sv,bv,h1,h2,h3,h4⟩:=N3 (Dv.same s _ _ hd2)
  exact⟨r,rb,sv,bv,h1,h2,h3,h4⟩
 lk
 refine qp7 (H0:=H) (xs:=ub) (.inr G.hbk) (fun _ _ e=>e) (fun i ys H'=>H'=H/\∃ hs:List Str,ys=D4 hs/\hs.length<=i) ⟨rfl,[],rfl,by simp⟩ (fun i ys H' hi ⟨_,hs,e,hl⟩=>by rw[e,G8];exact D5 (by omega)) (fun i ys H' p=>p.1▸fun _ _ e=>e) ?_ ?_
 ·rintro i x ys H' hx ⟨rfl,hs,rfl,hl⟩
  obtain⟨r,rb,sv,bv,rfl,hrb,_,_⟩:=row hx (fun _ _ e=>e)
  lk
  refine G7 hrb (v:=.str r.host) (D8 (j:=2) rfl) ?_
  exact⟨rfl,hs++[r.host],U7 _ _,by simp;omega⟩
 rintro ys H' ⟨rfl,hs,rfl,hl⟩ ha hha
 have s1:=A6.new hha (.lst (D4 hs))
 have e1:(upd H' ha (.lst (D4 hs))) ha=some (.lst (D4 hs)):=A7
 generalize upd H' ha (.lst (D4 hs))=H1 at *
 lk
 refine qp7 (H0:=H1) (xs:=ub) (.inr (s1.sqT G.hbk)) (fun _ _ e=>e) (fun i ys H'=>A6 H1 H'/\∃ zs:List Str,ys=D4 zs/\zs.length<=i) ⟨fun _ _ e=>e,[],rfl,by simp⟩ (fun i ys H' hi ⟨_,hs,e,hl⟩=>by rw[e,G8];exact D5 (by omega)) (fun i ys H' p=>p.1) ?_ ?_
 ·rintro i x ys H2 hx ⟨s2,zs,rfl,hzl⟩
  obtain⟨r,rb,sv,bv,rfl,hrb,dsv,dbv⟩:=row hx (A6.tr s1 s2)
  have no:∀ {H3:Hp},A6 H2 H3->A6 H1 H3/\∃ zs':List Str,D4 zs=D4 zs'/\zs'.length<=i+1:=fun s3=>⟨A6.tr s2 s3,zs,rfl,by omega⟩
  lk
  refine G7 hrb (v:=.str r.sort) (D8 (j:=1) rfl) ?_
  lk
  refine⟨D5 (by z_go),fun p1 h1=>?_⟩
  have s3:=A6.new h1 (.tup [.str "plain",.str "anew"])
  refine .inl (yj4 (.inr (SqT.of A7)) rfl (by decide) ?_)
  generalize inV (.str r.sort) [.str "plain",.str "anew"]=c1
  generalize upd H2 p1 (.tup [.str "plain",.str "anew"])=H3 at *
  refine⟨_,rfl,?_⟩
  cases c1 with
  | false=>refine S7 ?_;refine S7 ?_;exact no s3
  | true =>
    x_go
    lk
    refine qk3 (s3.sqT hrb) fun p2 H4 s4 hp2=>?_
    rw[qq1 (by decide)] at hp2
    have hp2:SqT K H4 p2 [sv,bv]:=hp2
    lk
    refine⟨D5 (by z_go),fun p3 h3=>?_⟩
    have s5:=A6.new h3 (.tup [])
    have e5:(upd H4 p3 (.tup [])) p3=some (.tup []):=A7
    generalize upd H4 p3 (.tup [])=H5 at *
    lk
    refine⟨D5 (by z_go),fun p4 h4=>?_⟩
    have s6:=A6.new h4 (.tup [])
    have e6:(upd H5 p4 (.tup [])) p4=some (.tup []):=A7
    generalize upd H5 p4 (.tup [])=H6 at *
    lk
    refine⟨D5 (by z_go),fun p5 h5=>?_⟩
    have s7:=A6.new h5 (.tup [.ref p3,.ref p4])
    have s47:=A6.tr s5 (A6.tr s6 s7)
    have s37:=A6.tr s4 s47
    have s27:=A6.tr s3 s37
    refine wx3 (d:=.tuple [.tuple (sDa r.shuts),.tuple (sDa r.bars)]) (e:=.tuple [.tuple [],.tuple []]) (C3.mpr ⟨p2,_,rfl,s47.sqT hp2,E1 (Dv.same s27 _ _ dsv) (E1 (Dv.same s27 _ _ dbv) E6)⟩) (C3.mpr ⟨p5,_,rfl,SqT.of A7,E1 (C3.mpr ⟨p3,[],rfl,SqT.of ((A6.tr s6 s7) _ _ e5),E6⟩) (E1 (C3.mpr ⟨p4,[],rfl,SqT.of (s7 _ _ e6),E6⟩) E6)⟩) (Nat.le_trans (Nat.min_le_right _ _) (by decide)) ?_
    generalize PyData.eqv (.tuple [.tuple (sDa r.shuts),.tuple (sDa r.bars)]) (.tuple [.tuple [],.tuple []])=c2
    generalize upd H6 p5 (.tup [.ref p3,.ref p4])=H7 at *
    refine⟨_,rfl,?_⟩
    cases c2 with
    | false=>refine S7 ?_;refine S7 ?_;exact no s27
    | true =>
      x_go
      lk
      refine G7 (s27.sqT hrb) (v:=.str r.name) (D8 (j:=0) rfl) ?_
      lk
      refine .inl (yp9 (.inl (SqL.of ((A6.tr s2 s27) _ _ e1))) rfl (qe3 hs) ?_)
      generalize (!inV (.str r.name) (D4 hs))=c3
      refine⟨_,rfl,?_⟩
      cases c3 with
      | false=>refine S7 ?_;exact no s27
      | true =>
        x_go
        lk
        refine G7 (s27.sqT hrb) (v:=.str r.name) (D8 (j:=0) rfl) ?_
        exact⟨A6.tr s2 s27,zs++[r.name],U7 _ _,by simp;omega⟩
 rintro ys H2 ⟨s2,zs,rfl,hzl⟩ pl hpl
 have s3:=A6.new hpl (.lst (D4 zs))
 have e3:(upd H2 pl (.lst (D4 zs))) pl=some (.lst (D4 zs)):=A7
 generalize upd H2 pl (.lst (D4 zs))=H3 at *
 have s13:=A6.tr s1 (A6.tr s2 s3)
 lk
 refine⟨D5 (by z_go),fun na hna=>?_⟩
 have s4:=A6.new hna (.tup [])
 have e4:(upd H3 na (.tup [])) na=some (.tup []):=A7
 generalize upd H3 na (.tup [])=H4 at *
 lk
 refine⟨D5 (by z_go),fun em hem=>?_⟩
 have s5:=A6.new hem (.lst [])
 refine yd0 (ds:=sDa zs) (P5.mpr ⟨pl,_,rfl,SqL.of ((A6.tr s4 s5) _ _ e3),V6.mpr rfl⟩) A7 ?_
 have e4:=s5 _ _ e4
 have e3:=(A6.tr s4 s5) _ _ e3
 have s15:=A6.tr s13 (A6.tr s4 s5)
 have ndp:pl≠d:=(G.dk.same (A6.tr s1 s2)).ne hpl
 generalize upd H4 em (.lst [])=H5 at *
 have G5:=G.same s15
 lk
 cases zs with
 | nil =>
   k_go
   refine wf7 ?_
   exact Al1 (ns:=[]) G5 (SqT.of e4) (by simp) fun x tv t n H' mv=>q x tv t n H' (Mv.tr (Mv.same (Mv.refl G.dk) s15) mv)
 | cons z0 zs =>
   x_go
   have hzl:zs.length+1<=ub.length:=hzl
   lk
   refine⟨d,7,rfl,by decide,by decide,G5.dk,fun j H6 j0 j1 mv6=>?_⟩
   lk
   refine .inl (qq9 ?_)
   obtain⟨m,em,hm⟩:∃ m:Nat,14+j=m/\m<=20:=⟨(14+j).toNat,by omega,by omega⟩
   rw[em]
   refine qg8 (by omega) (by omega) (fun i σ H'=>∃ (na:Addr) (ns:List Str) (a5:Option V),σ=[some (.ref d),some (.ref bk),some (.ref ha),some (.ref pl),some (.ref na),a5,none,none]/\Mv d H5 H'/\SqT K H' na (D4 ns)/\ns.length=i) ⟨na,[],_,rfl,mv6,SqT.of ((mv6.tupK G5.dk).1 _ _ e4),rfl⟩ ?_ ?_
   ·rintro i σ H' hi ⟨na,ns,a5,rfl,mv,hna,hl⟩
    have e3':=mv.at e3 ndp
    lk
    refine O1 (.inl (SqL.of e3')) ?_
    lk
    refine⟨d,_,rfl,by rw[G8];show(0:Int)<((zs.length+1:Nat):Int);omega,by rw[G8];show((zs.length+1:Nat):Int)<_;omega,mv.dk,fun k H8 k0 k1 mv8=>?_⟩
    rw[G8] at k1
    have kl:k.toNat<(z0::zs).length:=by omega
    lk
    refine S5 (SqL.of (mv8.at e3' ndp)) (ixI k0 (X8 kl)) ?_
    lk
    refine⟨D5 (by z_go),fun p2 h2=>?_⟩
    have s9:=A6.new h2 (.tup [.str (z0::zs)[k.toNat]])
    refine qe1 (s9.sqT ((mv8.tupK mv.dk).sqT hna)) (SqT.of A7) (by rw[G8];exact D5 (by show _+1<=_;omega)) fun p3 H9 s10 hp3=>?_
    lk
    exact⟨p3,ns++[(z0::zs)[k.toNat]],_,rfl,(Mv.tr mv mv8).same (A6.tr s9 s10),by rw[<-U7];exact hp3,by simp[hl]⟩
   ·rintro σ H' ⟨na,ns,a5,rfl,mv,hna,hl⟩
    exact Al1 (G5.mv mv) hna (by omega) fun x tv t n H' mv'=>q x tv t n H' (Mv.tr (Mv.tr (Mv.same (Mv.refl G.dk) s15) mv) mv')
abbrev wu2(K:Fg):TS :=
 (C1 (qh9 (qi1 K (A4 3)) (B3 4)
 (E4 (tOp (I9 K) (tOp (I9 K) (A4 1) (tC (.int 1))) (A4 4)) (B3 1)))
 (G9 (M6 (A2 (A4 3) (A2 (tOp (I9 K) (A4 1) (tC (.int 1))) B0)))))
def qd3(K:Fg):Sp:=fun vs H Q _=>∃ (d:Addr) (tv:V) (t:Tr) (n:Nat),vs=[.ref d,tv,.int n]/\Dk H d/\Dv K H t.da tv/\n<=20/\Chn t n/\∀ (x pa pb:Addr) (q:List Int) (ws:List Tr) (u:Tr) (us:List V) (H':Hp),Mv d H H'->H' x=some (.tup [.ref pa,.ref pb])->SqT K H' pa (E9 q)->way t q=some (ws++[u])->u.isTx=false->SqT K H' pb us->Dvs K H' (Tr.das u.kids) us->Q (.ref x) H'
def qg3(K:Fg):TS :=
 (C1 (E4 (tOp (yc5 K) (M6 (A2 (tC (.int 0)) B0)) (tCB (ze0 K) (A2 (tC (.int 0)) (A2 (tOp (rI0 fun i j=>.int (i-j)) (A4 2) (C2 (D0 K) [] E0 (A2 (A4 0) (A2 (tC (.int 3)) B0)))) B0)))) (B3 3))
 (wu2 K))
theorem xf3(h:qd3 K vs H Q E):qg3 K {nx:=fun _ H'=>Q .non H',rt:=Q} (J0 ["_law_deck","_law_tree_here","_law_many","_law_place","_law_step"] vs) H:=by
 obtain⟨d,tv,t,n,rfl,dk,dt,hn,hC,q⟩:=h
 show qg3 K _ [some (.ref d),some tv,some (.int n),none,none] H
 unfold qg3
 lk
 refine⟨D5 (by z_go),fun z hz=>?_⟩
 have s1:=A6.new hz (.tup [.int 0])
 have e1:(upd H z (.tup [.int 0])) z=some (.tup [.int 0]):=A7
 generalize upd H z (.tup [.int 0])=H1 at *
 lk
 refine⟨d,3,rfl,by decide,by decide,dk.same s1,fun j H2 j0 j1 mv2=>?_⟩
 lk
 obtain⟨m,em,hm⟩:∃ m:Nat,(if(n:Int)-j > 0 then(n:Int)-j else 0)=m/\m<=n:=⟨((n:Int)-j).toNat,by split <;> omega,by omega⟩
 rw[em]
 refine zg1 ((mv2.tupK (dk.same s1)).1 _ _ e1) (by omega) (by show 1*m<=_;exact D5 (by omega)) fun pa H3 s3 hpa=>?_
 have ep:(List.replicate m [V.int 0]).flatten=E9 (List.replicate m 0):=by
  clear em hm hpa
  induction m with
  | zero=>rfl
  | succ m ih=>rw[List.replicate_succ,List.replicate_succ,List.flatten_cons,ih];rfl
 rw[ep] at hpa
 obtain⟨ws,u,hw,hu⟩:=hC m hm
 have mv3:=(Mv.tr (Mv.same (Mv.refl dk) s1) mv2).same s3
 have dt3:=Dv.tupK (mv3.tupK dk) _ _ (qa9 t) dt
 have hwl:=V7 hw
 rw[List.length_replicate] at hwl
 lk
 refine qp6 (H0:=H3) (.inr (SqT.of hpa)) (fun _ _ e=>e) (fun i σ H'=>H'=H3/\∃ (w:Tr) (wv:V) (a4:Option V),σ=[some (.ref d),some wv,some (.int n),some (.ref pa),a4]/\(ws++[u])[i]?=some w/\Dv K H3 w.da wv) ⟨rfl,t,tv,_,rfl,qx4 hw,dt3⟩ (fun i σ H' p=>p.1▸fun _ _ e=>e) ?_ ?_
 ·rintro i x σ H' hx ⟨rfl,w,wv,a4,rfl,hwi,dw⟩
  have hx2:(List.replicate m (0:Int))[i]?=some 0/\x=.int 0:=by
   unfold E9 at hx
   rw[List.getElem?_map] at hx
   obtain⟨y,hy,rfl⟩:=Option.map_eq_some_iff.mp hx
   have:=List.eq_of_mem_replicate (List.mem_of_getElem? hy)
   subst this
   exact⟨hy,rfl⟩
  obtain⟨hx2,rfl⟩:=hx2
  obtain⟨u',w',h1,h2,h3,h4⟩:=qx3 hw hx2
  rw[hwi] at h1
  cases h1
  cases w with
  | tx z=>cases h3
  | nd nm ks =>
    obtain⟨ta,tb,us,rfl,hta,htb,dk2⟩:=U8 dw
    obtain⟨y,hy,dy⟩:=qb6 dk2 (show ks[(0:Int).toNat]?=some w' from h3)
    lk
    refine G7 hta (v:=.ref tb) (D8 (j:=1) rfl) ?_
    lk
    refine G7 htb (ixI (by decide) hy) ?_
    lk
    exact⟨rfl,w',y,_,rfl,h4,dy⟩
 ·rintro σ H' ⟨rfl,w,wv,a4,rfl,hwi,dw⟩
  rw[M5,List.length_replicate] at hwi
  have:w=u:=by
   have e:ws.length=m:=by simpa using hwl
   rw[<-e] at hwi
   simpa using hwi.symm
  subst this
  cases w with
  | tx z=>cases hu
  | nd nm ks =>
    obtain⟨ta,tb,us,rfl,hta,htb,dk2⟩:=U8 dw
    lk
    refine G7 hta (v:=.ref tb) (D8 (j:=1) rfl) ?_
    lk
    refine⟨D5 (by z_go),fun x hx=>?_⟩
    have s5:=A6.new hx (.tup [.ref pa,.ref tb])
    exact q x pa tb _ ws (.nd nm ks) us _ (mv3.same s5) A7 (SqT.of (s5 _ _ hpa)) hw rfl (s5.sqT htb) (Dvs.same s5 _ _ dk2)
theorem Am6(h0:0<=j)(h3:j<3)(hx:x.length<=9):(PySem.Txt.mul x j).length<=18:=by
 have:j=0\/j=1\/j=2:=by omega
 rcases this with rfl|rfl|rfl
 ·exact Nat.zero_le _
 ·have:=zv5 (x:=x) (c:=true);exact Nat.le_trans this (by omega)
 ·unfold PySem.Txt.mul
  rw[if_neg (by decide)]
  split
  ·omega
  ·show((#[]:Array Nat)++x.cps++x.cps).size<=18
   have hx:x.cps.size<=9:=hx
   rw[Array.size_append,Array.size_append]
   show 0+_+_<=_
   omega
abbrev xy3(K:Fg):TS :=
 (G9 (tOp (yc5 K) (C2 (U4 K) [] E0 (A2 (A4 0) B0)) (C2 (D0 K) [] E0 (A2 (A4 0) (A2 (tC (.int 3)) B0)))))
abbrev xy4(K:Fg):TS :=
 (G9 (M6 (A2 (A4 4) (A2 (tOp (yc5 K) (A4 5) (tCB wx0 (A2 (tOp (W5 K) (tOp (I9 K) (C2 (S3 K) [] E0 (A2 (A4 1) (A2 (A4 4) B0))) (tC (.int 1))) (tC (.str "bare"))) B0))) B0))))
abbrev xy5(K:Fg):TS :=
 (C1 (E4 (C2 (qf8 K) [] E0 (A2 (A4 0) (A2 (A4 1) (A2 (M6 (A2 (A4 4) B0)) (A2 (tC (.int 2)) B0))))) (B3 5))
 (xy4 K))
abbrev xy6(K:Fg):TS :=
 (G9 (C2 (wh1 K) [] E0 (A2 (A4 0) (A2 (A4 1) (A2 (A4 2) (A2 (tC (.int 2)) B0))))))
abbrev xy7(K:Fg):TS :=
 (C1 (M3 (D6 (tOp (Q7 K) (A4 3) (tC (.int 3))))
 (xy6 K) E8)
 (G9 (C2 (U4 K) [] E0 (A2 (A4 0) B0))))
abbrev xy8(K:Fg):TS :=
 (C1 (M3 (D6 (tOp (Q7 K) (A4 3) (tC (.int 2))))
 (G9 (M6 (A2 (A4 4) (A2 (M6 B0) B0)))) E8)
 (xy7 K))
abbrev xy9(K:Fg):TS :=
 (C1 (M3 (D6 (tOp (Q7 K) (A4 3) (tC (.int 1))))
 (xy5 K) E8)
 (xy8 K))
abbrev xz0(K:Fg):TS :=
 (C1 (M3 (D6 (tOp (Q7 K) (A4 3) (tC (.int 0))))
 (xy3 K) E8)
 (xy9 K))
abbrev xz1(K:Fg):TS :=
 (C1 (E4 (tOp (I9 K) (tOp (I9 K) (A4 1) (C2 (D0 K) [] E0 (A2 (A4 0) (A2 (tCB (P6 K) (A2 (A4 1) B0)) B0)))) (tC (.int 0))) (B3 4))
 (xz0 K))
def qn7(K:Fg):Sp:=fun vs H Q _=>∃ (d bk e:Addr) (c:Int) (ub:List V) (rs:List Row),vs=[.ref d,.ref bk,.int c]/\Grw K H d bk e 3 ub rs []/\∀ (x:V) (w:Tr) (H':Hp),Mv d H H'->Dv K H' w.da x->wt w<=200->hgt w<=3->Q x H'
def qs8(K:Fg):TS :=
 (C1 (E4 (C2 (D0 K) [] E0 (A2 (A4 0) (A2 (tC (.int 5)) B0))) (B3 3))
 (xz1 K))
theorem yg7(h:qn7 K vs H Q E):qs8 K {nx:=fun _ H'=>Q .non H',rt:=Q} (J0 ["_law_deck","_law_book_here","_law_code","_law_way","_law_name_here","_law_inner"] vs) H:=by
 obtain⟨d,bk,e,c,ub,rs,rfl,G,q⟩:=h
 show qs8 K _ [some (.ref d),some (.ref bk),some (.int c),none,none,none] H
 unfold qs8
 have hul:ub.length=rs.length:=by have:=G.dvs.length;rw[List.length_map] at this;exact this
 have r1:=G.r1
 have r8:=G.r8
 lk
 refine⟨d,5,rfl,by decide,by decide,G.dk,fun j H0 j0 j1 mv0=>?_⟩
 have G0:=G.mv mv0
 lk
 refine O1 (.inr G0.hbk) ?_
 lk
 refine⟨d,_,rfl,by omega,by omega,G0.dk,fun y H1 y0 y1 mv1=>?_⟩
 have G1:=G0.mv mv1
 have mv01:=Mv.tr mv0 mv1
 lk
 have hyl:y.toNat<ub.length:=by omega
 refine G7 G1.hbk (ixI y0 (List.getElem?_eq_getElem hyl)) ?_
 obtain⟨dd,hd1,hd2⟩:=G1.dvs.get' (List.getElem?_eq_getElem hyl)
 rw[List.getElem?_map] at hd1
 obtain⟨r,hr,rfl⟩:=Option.map_eq_some_iff.mp hd1
 obtain⟨rb,sv,bv,erv,hrb,_,_⟩:=N3 hd2
 rw[erv]
 lk
 refine G7 hrb (v:=.str r.name) (D8 (j:=0) rfl) ?_
 lk
 by_cases h0:j=0
 ·rw[decide_eq_true h0]
  x_go
  lk
  refine⟨d,rfl,G1.dk,fun x H2 mv2 l1 l2=>?_⟩
  lk
  refine⟨d,3,rfl,by decide,by decide,mv2.dk,fun k H3 k0 k1 mv3=>?_⟩
  refine .inl (.inl (.inr (.inl ⟨x,k,rfl,rfl,k0,by omega,by omega,?_⟩)))
  have:=Am6 k0 k1 l2
  exact q _ (.tx _) H3 (Mv.tr mv01 (Mv.tr mv2 mv3)) (zg7 _) (by rw[wt];omega) (by rw[hgt];omega)
 rw[decide_eq_false h0]
 k_go
 lk
 by_cases h1:j=1
 ·rw[decide_eq_true h1]
  x_go
  lk
  refine⟨D5 (by z_go),fun a ha=>?_⟩
  have s2:=A6.new ha (.tup [.str r.name])
  have G2:=G1.same s2
  have G3:Grw K (upd H1 a (.tup [.str r.name])) d bk a 1 ub rs [r.name]:=⟨G2.dk,G2.hbk,G2.dvs,G.r1,G.r8,G.B,SqT.of A7,by simp⟩
  generalize upd H1 a (.tup [.str r.name])=H2 at *
  lk
  refine⟨d,bk,a,1,ub,rs,[r.name],rfl,G3,by decide,fun t vs ps H3 mv3 ht dv _ hw hl hh=>?_⟩
  have hl:ps.length<=3:=hl
  have hB:BB 1=31:=by decide
  rw[hB] at hw
  have G4:=G2.mv mv3
  lk
  refine⟨.ref bk,r.name,rs,rfl,G4.rws,fun u H4 s4 du=>?_⟩
  obtain⟨rb2,sv2,bv2,rfl,hrb2,_,_⟩:=N3 du
  lk
  refine G7 hrb2 (v:=.str (V2 rs r.name).sort) (D8 (j:=1) rfl) ?_
  lk
  refine .inr ⟨_,rfl,?_⟩
  have hvl:=Q5 dv
  obtain⟨n,en,hn⟩:∃ n:Nat,(if(!decide ((V2 rs r.name).sort=("bare":Str)))=true then(1:Int) else 0)=n/\n<=1:=by
   split
   ·exact⟨1,rfl,Nat.le_refl _⟩
   ·exact⟨0,rfl,by decide⟩
  rw[en]
  refine zg1 (s4 _ _ ht) (by omega) (D5 (by rw[hvl];have:=Nat.mul_le_mul hl hn;omega)) fun p H5 s5 hp=>?_
  have mvf:=(Mv.tr (mv01.same s2) mv3).same (A6.tr s4 s5)
  have d5:=Dvs.same (A6.tr s4 s5) _ _ dv
  lk
  refine⟨D5 (by z_go),fun p2 hp2=>?_⟩
  have s6:=A6.new hp2 (.tup [.str r.name,.ref p])
  have:n=0\/n=1:=by omega
  rcases this with rfl|rfl
  ·refine q _ (.nd r.name []) _ (mvf.same s6) (qx2 (SqT.of A7) (SqT.of (s6 _ _ hp)) ?_) (by simp[wt,wts]) (by simp[hgt,O2])
   rw[Tr.das];exact E6
  ·rw[show(List.replicate 1 vs).flatten=vs by simp] at hp
   refine q _ (.nd r.name ps) _ (mvf.same s6) (qx2 (SqT.of A7) (SqT.of (s6 _ _ hp)) (Dvs.same s6 _ _ d5)) ?_ ?_
   ·rw[wt];omega
   ·rw[hgt];omega
 rw[decide_eq_false h1]
 k_go
 lk
 by_cases h2:j=2
 ·rw[decide_eq_true h2]
  x_go
  lk
  refine⟨D5 (by z_go),fun a ha=>?_⟩
  have s4:=A6.new ha (.tup [])
  have e4:(upd H1 a (.tup [])) a=some (.tup []):=A7
  generalize upd H1 a (.tup [])=H4 at *
  lk
  refine⟨D5 (by z_go),fun p2 hp2=>?_⟩
  have s5:=A6.new hp2 (.tup [.str r.name,.ref a])
  exact q _ (.nd r.name []) _ (mv01.same (A6.tr s4 s5)) (qx2 (SqT.of A7) (SqT.of (s5 _ _ e4)) (by rw[Tr.das];exact E6)) (by simp[wt,wts]) (by simp[hgt,O2])
 rw[decide_eq_false h2]
 k_go
 lk
 by_cases h3:j=3
 ·rw[decide_eq_true h3]
  x_go
  lk
  exact⟨d,bk,c,2,ub,rs,rfl,G1.dk,G1.hbk,G1.dvs,r1,by omega,by decide,fun t v H2 mv2 dv hw hh=>q v t H2 (Mv.tr mv01 mv2) dv (Nat.le_trans hw (by decide)) (by omega)⟩
 ·rw[decide_eq_false h3]
  k_go
  lk
  exact⟨d,rfl,G1.dk,fun x H2 mv2 l1 l2=>q _ (.tx x) H2 (Mv.tr mv01 mv2) (zg7 x) (by rw[wt];omega) (by rw[hgt];omega)⟩
abbrev zs5(K:Fg):TS :=
 (M3 (wa6 (D6 (tOp xt6 (C2 (Z7 K) [] E0 (A2 (A4 3) (A2 (A4 11) B0))) (tC .non))) (D6 (tOp yj1 (A4 4) (tC (.int 0)))))
 (E4 (A4 11) (B3 5)) E8)
abbrev zs6(K:Fg):TS :=
 (C1 (M3 (D6 (tOp (W5 K) (A4 12) (C2 (Y1 K) [] E0 (A2 (tC (.int 0)) (A2 (A4 3) (A2 (A4 5) (A2 (tOp (R1 K) (A4 7) (M6 (A2 (A4 9) B0))) (A2 (A4 10) (A2 (tC (.int 0)) B0)))))))))
 (G9 (tC (.bl false))) E8)
 (zs5 K))
def Ae5(K:Fg):TS :=
 (C1 (M3 (wj3 (tB (C2 (qg2 K) [] E0 (A2 (A4 12) (A2 (A4 3) (A2 (A4 11) B0))))))
 (G9 (tC (.bl false))) E8)
 (zs6 K))
section
variable{d bk e sc pa pb:Addr}{ub us:List V}{rs:List Row}{t u t' bit:Tr}{tv:V}{q:List Int}{ws:List Tr}{D:V0}{c many:Int}{i k:Nat}
structure Tq(K:Fg)(H:Hp)(d bk e:Addr)(ub:List V)(rs:List Row)(t:Tr)(tv:V)(many:Int)(i:Nat):Prop where
 G:Grw K H d bk e 3 ub rs []
 dt:Dv K H t.da tv
 nd:t.isTx=false
 wt:wt t<=1200+300*i
 ht:hgt t<=30+3*i
 mc:many=-1\/∃ n:Nat,many=n/\n<=20/\Chn t n
theorem Tq.mv(L:Tq K H d bk e ub rs t tv many i)(m:Mv d H H'):Tq K H' d bk e ub rs t tv many i:={L with G:=L.G.mv m,dt:=Dv.tupK (m.tupK L.G.dk) _ _ (qa9 t) L.dt}
theorem Tq.same(L:Tq K H d bk e ub rs t tv many i)(m:A6 H H'):Tq K H' d bk e ub rs t tv many i:=L.mv (Mv.same (Mv.refl L.G.dk) m)
structure Plc(K:Fg)(H:Hp)(pa pb:Addr)(us:List V)(t u:Tr)(q:List Int)(ws:List Tr):Prop where
 hpa:SqT K H pa (E9 q)
 hpb:SqT K H pb us
 du:Dvs K H (Tr.das u.kids) us
 hw:way t q=some (ws++[u])
 hu:u.isTx=false
theorem Plc.tupK(P:Plc K H pa pb us t u q ws)(k:qh4 H H'):Plc K H' pa pb us t u q ws:={P with hpa:=k.sqT P.hpa,hpb:=k.sqT P.hpb,du:=Dvs.tupK k _ _ (qe9 _) P.du}
theorem Plc.lens(P:Plc K H pa pb us t u q ws):q.length<=hgt t/\us.length<=wt t/\us.length=u.kids.length/\wts u.kids<=wt t:=by
 have h1:=xx4 P.hw
 have h2:=xx6 P.hw (i:=ws.length) (w:=u) (by simp)
 have h3:=(xx7 P.hu).1
 have h4:=wg4 u.kids
 have h5:=Q5 P.du
 omega
theorem zs7{l l2:Addr}(h1:wp7 K H l rs t)(h2:wp7 K H l2 rs t)(hh:hgt t<=90)(q:Q (.bl false) H):W5 K (.ref l) (.ref l2) H Q:=by
 rcases h1 with⟨n1,x,a1,d1⟩|⟨r,pl,p,f1,a1,p1⟩
 ·rcases h2 with⟨n2,y,a2,d2⟩|⟨r2,pl2,p2,f2,a2,q2⟩
  ·exact zk2 hh a1 a2 d1 d2 q
  ·rw[n1] at f2;cases f2
 ·rcases h2 with⟨n2,y,a2,d2⟩|⟨r2,pl2,p2,f2,a2,q2⟩
  ·rw[n2] at f1;cases f1
  ·rw[f1] at f2
   cases f2
   have hdp:=we1 pl
   refine wx4 (d:=.list [.bool true,.str r,.tuple (qa8 pl)]) (e:=.list [.bool true,.str r,.tuple (qa8 pl)]) (P5.mpr ⟨l,_,rfl,SqL.of a1,E1 (qi0.mpr rfl) (E1 (N6.mpr rfl) (E1 (C3.mpr ⟨p,_,rfl,p1,N7.mpr rfl⟩) E6))⟩)
    (P5.mpr ⟨l2,_,rfl,SqL.of a2,E1 (qi0.mpr rfl) (E1 (N6.mpr rfl) (E1 (C3.mpr ⟨p2,_,rfl,q2,N7.mpr rfl⟩) E6))⟩) (by simp[PyData.depth,PyData.depthAll] at hdp ⊢;omega) ?_
   rw[qk2 _ (by rw[nd,nds,nds,nds,nds,nd,nd,nd,xe9];rfl)]
   exact q
structure Bt(K:Fg)(H:Hp)(bit:Tr)(bv:V):Prop where
 d:Dv K H bit.da bv
 w:wt bit<=200
 h:hgt bit<=3
theorem zk4(L:Tq K H d bk e ub rs t tv many i)(hi:i<3)(P:Plc K H pa pb us t u q ws)(B:Bt K H bit bv)(hk:k<=us.length)(ha:SqT K H a (E9 (q++[(k:Int)])))(qq:∀ l H',A6 H H'->wp7 K H' l rs (qe5 t q (wm8 u.kids k bit))->Q (.ref l) H'):Y1 K [.int 0,.ref bk,tv,.ref a,bv,.int 0] H Q E:=by
 obtain⟨l1,l2,l3,l4⟩:=P.lens
 have w1:=L.wt
 have h1:=L.ht
 have bw:=B.w
 have bh:=B.h
 exact⟨t,.ref bk,tv,bv,rs,a,_,0,0,bit, "",rfl,⟨L.G.rws,L.dt,ha,by omega,by omega,by rw[List.length_append];show _+1<=_;omega⟩,⟨rfl,B.d,by omega,by omega⟩,.inr ⟨_,.set P.hw P.hu (by omega),fun hn l x H1 s1 hl dx=>qq l H1 s1 (.inl ⟨hn,x,hl,dx⟩),fun r pl hf l p H1 s1 hl hp=>qq l H1 s1 (.inr ⟨r,pl,p,hf,hl,hp⟩)⟩⟩
theorem zv7{Q':VK}(L:Tq K H d bk e ub rs t tv many i)(hi:i<3)(P:Plc K H pa pb us t u q ws)(hp:H p=some (.tup [.int k]))(hQ:∀ p' H5,A6 H H5->SqT K H5 p' (E9 (q++[(k:Int)]))->Q' (.ref p') H5):R1 K (.ref pa) (.ref p) H Q':=by
 obtain⟨l1,_,_,_⟩:=P.lens
 have h1:=L.ht
 refine qe1 P.hpa (SqT.of hp) (by rw[M5];exact D5 (by show _+1<=_;omega)) fun p' H5 s5 hp5=>?_
 rw[<-S9] at hp5
 exact hQ p' H5 s5 hp5
theorem Al2{mv:V}{l:Addr}(L:Tq K H d bk e ub rs t tv many i)(hi:i<3)(P:Plc K H pa pb us t u q ws)(B:Bt K H bit bv)(hk:k<=us.length)(dm:Dv K H (qe5 t q (wm8 u.kids k bit)).da mv)(hT:wp7 K H l rs (qe5 t q (wm8 u.kids k bit)))(qq:∀ (t':Tr) (tv':V) (H':Hp) (a11 a12:Option V),Tq K H' d bk e ub rs t' tv' many (i+1)->D.nx [some (.ref sc),some (.ref d),some (.int c),some (.ref bk),some (.int many),some tv',a6,some (.ref pa),some (.ref pb),some (.int k),some bv,a11,a12] H') :
 Ae5 K D [some (.ref sc),some (.ref d),some (.int c),some (.ref bk),some (.int many),some tv,a6,some (.ref pa),some (.ref pb),some (.int k),some bv,some mv,some (.ref l)] H:=by
 have w1:=L.wt
 have h1:=L.ht
 have r8:=L.G.r8
 have bw:=B.w
 have bh:=B.h
 obtain⟨b1,b2⟩:=xe0 P.hw P.hu (wv2 u.kids k bit).1 (wv2 u.kids k bit).2
 have hnd:=zr8 (ps:=wm8 u.kids k bit) P.hw L.nd
 unfold Ae5
 lk
 refine⟨l,.ref bk,mv,rs,_,rfl,L.G.B,L.G.rws,by omega,dm,by omega,by omega,hT,fun H1 s1=>?_⟩
 lk
 k_go
 lk
 refine⟨D5 (by z_go),fun p hp=>?_⟩
 have s2:=A6.new hp (.tup [.int k])
 have s12:=A6.tr s1 s2
 refine zv7 (L.same s12) hi (P.tupK s12.tupK) A7 fun a H3 s3 ha=>?_
 have s13:=A6.tr s12 s3
 lk
 refine zk4 (L.same s13) hi (P.tupK s13.tupK) ⟨Dv.same s13 _ _ B.d,bw,bh⟩ hk ha fun l2 H4 s4 hT2=>?_
 have s14:=A6.tr s13 s4
 refine zs7 (hT.same s14) hT2 (by omega) ?_
 have La:=L.same s14
 lk
 refine⟨.ref bk,mv,rs,_,rfl,L.G.B,La.G.rws,by omega,Dv.same s14 _ _ dm,by omega,by omega,fun x H5 s5 hx=>?_⟩
 have Lb:=La.same s5
 have dm2:=Dv.same (A6.tr s14 s5) _ _ dm
 have old:D.nx [some (.ref sc),some (.ref d),some (.int c),some (.ref bk),some (.int many),some tv,a6,some (.ref pa),some (.ref pb),some (.int k),some bv,some mv,some (.ref l)] H5:=qq t tv H5 _ _ {Lb with wt:=by omega,ht:=by omega}
 lk
 by_cases hx0:x=.non
 ·rw[decide_eq_true hx0]
  x_go
  lk
  by_cases hm:many<0
  ·rw[decide_eq_true hm]
   x_go
   lk
   refine qq _ mv H5 _ _ ⟨Lb.G,dm2,hnd,by omega,by omega,.inl ?_⟩
   rcases L.mc with h|⟨n,h,_⟩ <;> omega
  ·rw[decide_eq_false hm]
   k_go
   lk
   exact old
 ·rw[decide_eq_false hx0]
  k_go
  k_go
  lk
  exact old
abbrev zs8(K:Fg):TS :=
 (C1 (E4 (C2 (Y1 K) [] E0 (A2 (tC (.int 0)) (A2 (A4 3) (A2 (A4 5) (A2 (tOp (R1 K) (A4 7) (M6 (A2 (A4 9) B0))) (A2 (A4 10) (A2 (tC (.int 0)) B0))))))) (B3 12))
 (Ae5 K))
abbrev zs9(K:Fg):TS :=
 (C1 (E4 (C2 (qn5 K) [] E0 (A2 (A4 5) (A2 (A4 7) (A2 (tOp (R1 K) (tOp (R1 K) (tSl (qr1 K) (A4 8) Q1 (Z1 (A4 9))) (M6 (A2 (A4 10) B0))) (tSl (qr1 K) (A4 8) (Z1 (A4 9)) Q1)) B0)))) (B3 11))
 (zs8 K))
abbrev zt0(K:Fg):TS :=
 (C1 (E4 (C2 (qn7 K) [] E0 (A2 (A4 1) (A2 (A4 3) (A2 (A4 2) B0)))) (B3 10))
 (zs9 K))
def Ae6(K:Fg):TS :=
 (C1 (E4 (C2 (D0 K) [] E0 (A2 (A4 1) (A2 (tOp (R1 K) (tCB (P6 K) (A2 (A4 8) B0)) (tC (.int 1))) B0))) (B3 9))
 (zt0 K))
theorem zv8{a9 a10 a11 a12:Option V}(L:Tq K H d bk e ub rs t tv many i)(hi:i<3)(P:Plc K H pa pb us t u q ws)(qq:∀ (t':Tr) (tv':V) (H':Hp) (a9 a10 a11 a12:Option V),Tq K H' d bk e ub rs t' tv' many (i+1)->D.nx [some (.ref sc),some (.ref d),some (.int c),some (.ref bk),some (.int many),some tv',a6,some (.ref pa),some (.ref pb),a9,a10,a11,a12] H') :
 Ae6 K D [some (.ref sc),some (.ref d),some (.int c),some (.ref bk),some (.int many),some tv,a6,some (.ref pa),some (.ref pb),a9,a10,a11,a12] H:=by
 obtain⟨l1,l2,l3,l4⟩:=P.lens
 have w1:=L.wt
 have h1:=L.ht
 unfold Ae6
 lk
 refine O1 (.inr P.hpb) ?_
 lk
 refine .inl (qq9 ?_)
 lk
 refine⟨d,_,rfl,by omega,by omega,L.G.dk,fun k H1 k0 k1 mv1=>?_⟩
 obtain⟨k,rfl⟩:∃ n:Nat,k=n:=⟨k.toNat,by omega⟩
 have P:=P.tupK (mv1.tupK L.G.dk)
 have L:=L.mv mv1
 lk
 refine⟨d,bk,e,c,ub,rs,rfl,L.G,fun bv bit H2 mv2 db wb hb=>?_⟩
 have P:=P.tupK (mv2.tupK L.G.dk)
 have L:=L.mv mv2
 have B:Bt K H2 bit bv:=⟨db,wb,hb⟩
 lk
 refine qk3 P.hpb fun c1 H3 s3 hc1=>?_
 rw[wh3 (by omega),Int.toNat_natCast] at hc1
 lk
 refine⟨D5 (by z_go),fun c4 hc4=>?_⟩
 have s4:=A6.new hc4 (.tup [bv])
 refine qe1 (s4.sqT hc1) (SqT.of A7) (D5 (by rw[List.length_take];show _+1<=_;omega)) fun c5 H5 s5 hc5=>?_
 have s35:=A6.tr s3 (A6.tr s4 s5)
 lk
 refine qk3 (s35.sqT P.hpb) fun c6 H6 s6 hc6=>?_
 rw[qq1 (by omega),Int.toNat_natCast] at hc6
 refine qe1 (s6.sqT hc5) hc6 (D5 (by rw[List.length_append,List.length_take,List.length_drop];show _+1+_<=_;omega)) fun c7 H7 s7 hc7=>?_
 have s37:=A6.tr s35 (A6.tr s6 s7)
 have P7:=P.tupK s37.tupK
 have L7:=L.same s37
 lk
 refine⟨tv,pa,c7,t,u,q,ws,wm8 u.kids k bit,_,rfl,L7.dt,P7.hpa,P.hw,P.hu,by omega,hc7,?_,by omega,fun mv H8 s8 dm=>?_⟩
 ·unfold wm8
  rw[qc8,qc8,wh4,wh5]
  refine Dvs.append (Dvs.append (qx7 _ P7.du) ?_) (qx8 _ P7.du)
  rw[Tr.das,Tr.das]
  exact Dvs.one (Dv.same s37 _ _ db)
 have s38:=A6.tr s37 s8
 lk
 refine⟨D5 (by z_go),fun p hp=>?_⟩
 have s9:=A6.new hp (.tup [.int k])
 have s39:=A6.tr s38 s9
 refine zv7 (L.same s39) hi (P.tupK s39.tupK) A7 fun a H10 s10 ha=>?_
 have s310:=A6.tr s39 s10
 lk
 refine zk4 (L.same s310) hi (P.tupK s310.tupK) ⟨Dv.same s310 _ _ db,wb,hb⟩ (by omega) ha fun l H11 s11 hT=>?_
 have s311:=A6.tr s310 s11
 refine N1 ?_
 refine Al2 (L.same s311) hi (P.tupK s311.tupK) ⟨Dv.same s311 _ _ db,wb,hb⟩ (by omega) (Dv.same (A6.tr s9 (A6.tr s10 s11)) _ _ dm) hT ?_
 intro t' tv' H' a11 a12 L'
 exact qq t' tv' H' _ _ _ _ L'
end
abbrev zt1(K:Fg):TS :=
 (E4 (C2 (qa4 K) [] E0 (A2 (A4 1) (A2 (A4 3) B0))) (wj6 K 2 (R7 (B3 5) (R7 (B3 4) wj5))))
abbrev zt2(K:Fg):TS :=
 (E4 (C2 (qd3 K) [] E0 (A2 (A4 1) (A2 (A4 5) (A2 (A4 4) B0)))) (wj6 K 2 (R7 (B3 7) (R7 (B3 8) wj5))))
abbrev yt6(K:Fg):TS :=
 (C1 (E4 (C2 (qg1 K) [] E0 (A2 (A4 1) (A2 (A4 5) B0))) (wj6 K 2 (R7 (B3 7) (R7 (B3 8) wj5))))
 (C1 (M3 (D6 (tOp zm8 (A4 4) (tC (.int 0))))
 (zt2 K) E8)
 (Ae6 K)))
abbrev zk5(K:Fg):TS :=
 (C1 (M3 (D6 (tOp (Q7 K) (C2 (D0 K) [] E0 (A2 (A4 1) (A2 (tC (.int 4)) B0))) (tC (.int 1))))
 (zt1 K) E8)
 (C1 (qh9 (qh7 (A2 (tC (.int 3)) B0)) (B3 6)
 (yt6 K))
 (G9 (tC (.bl true)))))
abbrev zk6(K:Fg):TS :=
 (C1 (E4 (M6 (A2 (tC (.str "")) (A2 (C2 (qf8 K) [] E0 (A2 (A4 1) (A2 (A4 3) (A2 (M6 B0) (A2 (tC (.int 4)) B0))))) B0))) (B3 5))
 (zk5 K))
abbrev zk7(K:Fg):TS :=
 (C1 (E4 (C2 (qi9 K) [] E0 (A2 (A4 1) (A2 (A4 2) (A2 (tC (.int 8)) B0)))) (B3 3))
 (C1 (E4 (tUn (rU fun i=>.int (-i)) (tC (.int 1))) (B3 4))
 (zk6 K)))
abbrev zk8(K:Fg):TS :=
 (C1 (E4 (C2 (D0 K) [] E0 (A2 (A4 1) (A2 (tOp (rI Af1 fun i j=>.int (i ^ j.toNat)) (tC (.int 10)) (tC (.int 6))) B0))) (B3 2))
 (zk7 K))
def wn8(K:Fg):Sp:=fun vs H Q _=>∃ (a:Addr) (ns:List Int),vs=[.ref a]/\SqL K H a (ns.map V.int)/\ns.length<=63/\∀ H',Q (.bl true) H'
def yt7(K:Fg):TS :=
 (C1 (E4 (C2 (qa1 K) [] E0 (A2 (A4 0) (A2 (tC (.int 700)) B0))) (B3 1))
 (zk8 K))
theorem Ae7(h:wn8 K vs H Q E):yt7 K {nx:=fun _ H'=>Q .non H',rt:=Q} (J0 ["_law_script","_law_deck","_law_code","_law_book_here","_law_many","_law_tree_here","_law_turn","_law_place","_law_parts","_law_k","_law_bit_here","_law_made","_law_told_here"] vs) H:=by
 obtain⟨sc,ns,rfl,hS,hn,q⟩:=h
 show yt7 K _ [some (.ref sc),none,none,none,none,none,none,none,none,none,none,none,none] H
 unfold yt7
 lk
 refine⟨sc,ns,700,rfl,hS,by decide,fun d H1 s1 _ dk1=>?_⟩
 lk
 refine⟨10,6,rfl,rfl,⟨by decide,by decide,by decide⟩,?_⟩
 lk
 refine⟨d,_,rfl,by decide,by decide,dk1,fun c H2 c0 c1 mv2=>?_⟩
 lk
 refine⟨d,c,8,rfl,by decide,by decide,mv2.dk,fun bk ub rs H3 mv3 hbk dvs r1 r8 BS=>?_⟩
 lk
 refine⟨1,rfl,?_⟩
 lk
 refine⟨D5 (by z_go),fun e he=>?_⟩
 have s4:=A6.new he (.tup [])
 have G:Grw K (upd H3 e (.tup [])) d bk e 3 ub rs []:=⟨mv3.dk.same s4,s4.sqT (SqT.of hbk),Dvs.same s4 _ _ dvs,r1,r8,BS,SqT.of A7,by decide⟩
 generalize upd H3 e (.tup [])=H4 at *
 lk
 refine⟨d,bk,e,3,ub,rs,[],rfl,G,by decide,fun t vs ps H5 mv5 ht dv _ hw hl hh=>?_⟩
 have G5:=G.mv mv5
 lk
 refine⟨D5 (by z_go),fun p hp=>?_⟩
 have s6:=A6.new hp (.tup [.str "",.ref t])
 have dt:Dv K (upd H5 p (.tup [.str "",.ref t])) (Tr.nd ("":Str) ps).da (.ref p):=qx2 (SqT.of A7) (SqT.of (s6 _ _ ht)) (Dvs.same s6 _ _ dv)
 generalize upd H5 p (.tup [.str "",.ref t])=H6 at *
 have G6:=G5.same s6
 have hB:BB 3=283:=by decide
 have hl:ps.length<=4:=hl
 have hwt:wt (Tr.nd ("":Str) ps)<=1133:=by
  rw[hB] at hw
  have:=Nat.mul_le_mul_right 283 hl
  rw[wt];omega
 have hht:hgt (Tr.nd ("":Str) ps)<=5:=by rw[hgt];omega
 lk
 refine⟨d,4,rfl,by decide,by decide,G6.dk,fun j H7 j0 j1 mv7=>?_⟩
 have L0:Tq K H7 d bk e ub rs (Tr.nd ("":Str) ps) (.ref p) (-1) 0:=⟨G6.mv mv7,Dv.tupK (mv7.tupK G6.dk) _ _ (qa9 _) dt,rfl,by omega,by omega,.inl rfl⟩
 have main:∀ {H':Hp} {t:Tr} {tv:V} {many:Int},Tq K H' d bk e ub rs t tv many 0->C1 (qh9 (qh7 (A2 (tC (.int 3)) B0)) (B3 6) (yt6 K)) (G9 (tC (.bl true))) {nx:=fun _ H'=>Q .non H',rt:=Q} [some (.ref sc),some (.ref d),some (.int c),some (.ref bk),some (.int many),some tv,none,none,none,none,none,none,none] H':=by
  intro H' t tv many L
  lk
  refine qg8 (by omega) (by omega) (fun i σ H'=>∃ (t:Tr) (tv:V) (a6 a7 a8 a9 a10 a11 a12:Option V),σ=[some (.ref sc),some (.ref d),some (.int c),some (.ref bk),some (.int many),some tv,a6,a7,a8,a9,a10,a11,a12]/\Tq K H' d bk e ub rs t tv many i) ⟨t,tv,_,_,_,_,_,_,_,rfl,L⟩ ?_ ?_
  ·rintro i σ H' hi ⟨t,tv,a6,a7,a8,a9,a10,a11,a12,rfl,L⟩
   have hi:i<3:=by omega
   have w1:=L.wt
   lk
   refine⟨d,tv,t,rfl,L.G.dk,L.dt,L.nd,by omega,fun x pa pb pl ws u us H7 mv7 hx hpa hway hu hpb du=>?_⟩
   have L:=L.mv mv7
   refine⟨x,_,rfl,SqT.of hx,rfl,_,_,rfl,N1 ⟨_,_,rfl,N1 ⟨rfl,?_⟩⟩⟩
   lk
   by_cases hm:0<=many
   ·rw[decide_eq_true hm]
    x_go
    lk
    obtain⟨n,en,hn20,hC⟩:∃ n:Nat,many=n/\n<=20/\Chn t n:=by
     rcases L.mc with h|h
     ·omega
     ·exact h
    subst en
    refine⟨d,tv,t,n,rfl,L.G.dk,L.dt,hn20,hC,fun x2 pa2 pb2 pl2 ws2 u2 us2 H8 mv8 hx2 hpa2 hway2 hu2 hpb2 du2=>?_⟩
    refine⟨x2,_,rfl,SqT.of hx2,rfl,_,_,rfl,N1 ⟨_,_,rfl,N1 ⟨rfl,?_⟩⟩⟩
    refine zv8 (L.mv mv8) hi ⟨hpa2,hpb2,du2,hway2,hu2⟩ ?_
    intro t' tv' H' a9 a10 a11 a12 L'
    exact⟨t',tv',_,_,_,_,_,_,_,rfl,L'⟩
   ·rw[decide_eq_false hm]
    k_go
    refine wf7 ?_
    refine zv8 L hi ⟨hpa,hpb,du,hway,hu⟩ ?_
    intro t' tv' H' a9 a10 a11 a12 L'
    exact⟨t',tv',_,_,_,_,_,_,_,rfl,L'⟩
  ·rintro σ H' ⟨t,tv,a6,a7,a8,a9,a10,a11,a12,rfl,L⟩
   lk
   exact q _
 lk
 by_cases hj:j=1
 ·rw[decide_eq_true hj]
  x_go
  lk
  refine⟨d,bk,e,ub,rs,rfl,L0.G,fun x tv t n H8 mv8 hx dt8 hnd hw8 hh8 hn20 hC=>?_⟩
  refine⟨x,_,rfl,SqT.of hx,rfl,_,_,rfl,N1 ⟨_,_,rfl,N1 ⟨rfl,?_⟩⟩⟩
  exact main ⟨L0.G.mv mv8,dt8,hnd,by omega,by omega,.inr ⟨n,rfl,hn20,hC⟩⟩
 ·rw[decide_eq_false hj]
  k_go
  refine wf7 ?_
  exact main L0
end
variable{X:Cx}{pos:Pos}{P:List Str}{mg:Str->Option Value}{w:World}{us:List Value}{h:Heap}{z:Nat}
section
open PyProof.Rows
set_option maxHeartbeats 0
def top(i:Nat):Stmt:=PySem.Challenge.pw_tagmend_k70_set_in.main.body.getD i (.Pass ⟨0,0,0,0⟩)
def Al3(s:Stmt)(j:Nat):Stmt:=match s with
 | .ClassDef _ _ _ b _ _ _ _ _ _ _=>b.getD j (.Pass ⟨0,0,0,0⟩)
 | _=>.Pass ⟨0,0,0,0⟩
abbrev xf4:Stmt:=top 16
abbrev wn9:Stmt:=top 17
abbrev wo0:Stmt:=top 18
abbrev wo1:Stmt:=top 19
abbrev we2:Stmt:=top 20
abbrev wo2:Stmt:=top 23
abbrev wo3:Stmt:=top 24
abbrev we3:Stmt:=top 25
abbrev wo4:Stmt:=top 26
abbrev qg4:Stmt:=top 27
abbrev xf5:Stmt:=top 28
abbrev qn8:Stmt:=top 29
abbrev ql1:Stmt:=top 30
abbrev qg5:Stmt:=top 31
abbrev qe6:Stmt:=top 32
abbrev wo5:Stmt:=top 33
abbrev we4:Stmt:=top 36
abbrev we5:Stmt:=top 37
abbrev ql2:Stmt:=top 38
abbrev qs9:Stmt:=top 39
abbrev qt0:Stmt:=top 40
abbrev qo4:Stmt:=top 41
abbrev qt1:Stmt:=top 42
abbrev qd4:Stmt:=top 43
abbrev xf6:Stmt:=top 45
abbrev wp8:Stmt:=top 46
abbrev wh9:Stmt:=top 47
abbrev yg8:Stmt:=top 48
abbrev ql3:Stmt:=top 49
abbrev qt2:Stmt:=top 50
abbrev yg9:Stmt:=top 51
abbrev wo6:Stmt:=top 52
abbrev ql4:Stmt:=top 54
abbrev qy0:Stmt:=top 55
abbrev qy1:Stmt:=top 56
abbrev qd5:Stmt:=top 57
abbrev qy2:Stmt:=top 58
abbrev X2:Stmt:=top 59
abbrev qn9:Stmt:=top 60
abbrev qo0:Stmt:=top 61
abbrev qy3:Stmt:=top 62
abbrev we6:Stmt:=top 63
abbrev qy4:Stmt:=top 64
abbrev Y2:Stmt:=top 65
abbrev qo5:Stmt:=top 66
abbrev qt3:Stmt:=top 67
abbrev qe7:Stmt:=top 68
abbrev qt4:Stmt:=top 69
abbrev X3:Stmt:=top 70
abbrev qj4:Stmt:=top 71
abbrev qt5:Stmt:=top 72
abbrev qy5:Stmt:=top 73
abbrev qt6:Stmt:=top 74
abbrev X4:Stmt:=top 75
abbrev qo6:Stmt:=top 76
abbrev we7:Stmt:=top 77
abbrev xs1:Stmt:=top 78
abbrev wo7:Stmt:=Al3 (top 8) 0
set_option genInjectivity false in
structure Fa where
 a:Addr
 d:FuncData
structure Fok(K:Fg)(mg:Str->Option Value)(x:Str)(st:Stmt)(ps:List Str)(f:Fa):Prop where
 F:Fun K x x st f.a f.d
 b:wf1 K f.d ps []
 m:mg x=some (.ref f.a)
theorem zcl{CX:CXT}{j k:Nat}{fa:Fa}{st:Stmt}{ps:List Str}{sp:Sp}{p:Pos}{e:Expr}{es:List Expr}{t:TA}(F:M0 X.prog X.w X.K X.mg X.base CX k fa.a fa.d ps sp)(hr:qd6 j X.A)(f:Fok X.K X.mg x st ps fa)(hx:ww2 CX X E)(ha:PA X (e::es) t)(hk:k<=j:=by walk_at "le")(hg:autoParam (Gl X x) zAr)(hdb:autoParam ((x == ("__debug__":Str))=false) zAd)(he:autoParam (starEach (e::es) X.env=(false,eval e X.env)::starEach es X.env) zAr)(hpl:autoParam ((backTo pos (starEach es X.env)).any (·.1)=false) zAr):PE X (.Call (.Name x p) (e::es) [] pos) (C2 sp [] E t):=zl6 F (hr.mono hk) hg f.m f.F.kp f.b .nil hx ha hdb he hpl
theorem zst{sc:Scope}{e:Expr}{pos':Pos}(S:D7 X.N P sc)(he:PE X e te)(hi:autoParam (X.N[i]?=some x) zAr)(hx:Loc X.env.scope x:=by exact Or.inl rfl)(hs:autoParam (swapsWith e (some (.Name x pos')) pos.line X.env=pure false) zAr)(hf:X.fn x=true\/X.env.scope.names.lookup x=some .local:=by walk_at "or"):PS X (.Assign [.Name x pos'] e pos) (E4 te (B3 i)):=O0 S.nd hi hx he hs hf
set_option genInjectivity false in
structure Adr where
 za:Fa
 zb:Fa
 zc:Fa
 zd:Fa
 ze:Fa
 zf:Fa
 zg:Fa
 zh:Fa
 zi:Fa
 zj:Fa
 zk:Fa
 zl:Fa
 zm:Fa
 zn:Fa
 zo:Fa
 zr:Fa
 zt:Fa
 zu:Fa
 zv:Fa
 zw:Fa
 zx:Fa
 zy:Fa
 zz:Fa
 ya:Fa
 yc:Fa
 yd:Fa
 ye:Fa
 yf:Fa
 yg:Fa
 yh:Fa
 yi:Fa
 yj:Fa
 yk:Fa
 yl:Fa
 ym:Fa
 yn:Fa
 yo:Fa
 yp:Fa
 yq:Fa
 yr:Fa
 yt:Fa
 yu:Fa
 yw:Fa
 yx:Fa
 yy:Fa
 yz:Fa
 xb:Fa
 xc:Fa
 xf:Fa
 xg:Fa
 xh:Fa
 xi:Fa
 xj:Fa
 xk:Fa
 xl:Fa
 xm:Fa
 xn:Fa
 a_i_NoFit:Addr
 d_i_NoFit:FuncData
 c_WALL_SORTS:Addr
 v_NAME:Value
 v_SORT:Value
 v_HOST:Value
 v_SHUTS:Value
 v_BARS:Value
 v_ROOT_NAME:Value
 v_MOST_ABOVE:Value
 k_Ended:Addr
 k_NoBook:Addr
 k_NoFit:Addr
 k_NoPlace:Addr
 k_NoSpot:Addr
 k_NoText:Addr
 k_NotEnded:Addr
 k_TagError:Addr
structure Txt(K:Fg)(mg:Str->Option Value)(t:Adr):Prop where
 za:Fok K mg "row_of" xf4 ["rows","name"] t.za
 zb:Fok K mg "sort_of" wn9 ["book","name"] t.zb
 zc:Fok K mg "is_wall" wo0 ["book","name"] t.zc
 zd:Fok K mg "host_of" wo1 ["book","name"] t.zd
 ze:Fok K mg "frame_of" we2 ["book","name"] t.ze
 zf:Fok K mg "is_text" wo2 ["part"] t.zf
 zg:Fok K mg "name_of" wo3 ["tree"] t.zg
 zh:Fok K mg "parts_of" we3 ["part"] t.zh
 zi:Fok K mg "part_at" wo4 ["tree","place"] t.zi
 zj:Fok K mg "names_above" qg4 ["tree","place"] t.zj
 zk:Fok K mg "way_to" xf5 ["tree","place"] t.zk
 zl:Fok K mg "places_in" qn8 ["tree"] t.zl
 zm:Fok K mg "placed_parts" ql1 ["tree"] t.zm
 zn:Fok K mg "steps_below" qg5 ["place","part"] t.zn
 zo:Fok K mg "straight_above" qe6 ["names"] t.zo
 zr:Fok K mg "near_of" wo5 ["book","names"] t.zr
 zt:Fok K mg "fault_of" we4 ["book","tree"] t.zt
 zu:Fok K mg "fault_at" we5 ["book","tree","place"] t.zu
 zv:Fok K mg "follows_text" ql2 ["tree","place"] t.zv
 zw:Fok K mg "text_fault" qs9 ["book","names","text","beside"] t.zw
 zx:Fok K mg "tree_fault" qt0 ["book","names","tree"] t.zx
 zy:Fok K mg "frame_fault" qo4 ["book","names","name"] t.zy
 zz:Fok K mg "near_fault" qt1 ["book","names","name"] t.zz
 ya:Fok K mg "share_a_name" qd4 ["names","others"] t.ya
 yc:Fok K mg "set_in" xf6 ["book","tree","place","bit"] t.yc
 yd:Fok K mg "taken_out" wp8 ["book","tree","place"] t.yd
 ye:Fok K mg "put_around" wh9 ["book","tree","place","stop","name"] t.ye
 yf:Fok K mg "lifted" yg8 ["book","tree","place"] t.yf
 yg:Fok K mg "parts_around" ql3 ["tree","place","beyond"] t.yg
 yh:Fok K mg "with_parts" qt2 ["tree","place","parts"] t.yh
 yi:Fok K mg "joined" yg9 ["parts"] t.yi
 yj:Fok K mg "fitting" wo6 ["book","tree"] t.yj
 yk:Fok K mg "_law_numbers" ql4 ["_law_script","_law_most"] t.yk
 yl:Fok K mg "_law_draw" qy0 ["_law_deck","_law_most"] t.yl
 ym:Fok K mg "_law_name" qy1 ["_law_code","_law_k"] t.ym
 yn:Fok K mg "_law_sorts" qd5 ["_law_deck","_law_count"] t.yn
 yo:Fok K mg "_law_some" qy2 ["_law_deck","_law_names"] t.yo
 yp:Fok K mg "_law_book" X2 ["_law_deck","_law_code","_law_most"] t.yp
 yq:Fok K mg "_law_text" qn9 ["_law_deck"] t.yq
 yr:Fok K mg "_law_walk" qo0 ["_law_tree_here"] t.yr
 yt:Fok K mg "_law_tree" qy3 ["_law_deck","_law_book_here","_law_code","_law_deep"] t.yt
 yu:Fok K mg "_law_row" we6 ["_law_book_here","_law_name_here"] t.yu
 yw:Fok K mg "_law_near" qy4 ["_law_book_here","_law_names"] t.yw
 yx:Fok K mg "_law_fault" Y2 ["_law_book_here","_law_names","_law_part","_law_ahead"] t.yx
 yy:Fok K mg "_law_faults" qo5 ["_law_book_here","_law_tree_here"] t.yy
 yz:Fok K mg "_law_grown" qt3 ["_law_deck","_law_book_here","_law_names","_law_deep"] t.yz
 xb:Fok K mg "_law_put_parts" qe7 ["_law_tree_here","_law_place","_law_parts"] t.xb
 xc:Fok K mg "_law_first" qt4 ["_law_book_here","_law_tree_here"] t.xc
 xf:Fok K mg "_law_is_part" X3 ["_law_found"] t.xf
 xg:Fok K mg "_law_elder" qj4 ["_law_deck","_law_tree_here"] t.xg
 xh:Fok K mg "_law_asked" qt5 ["_law_way","_law_book_here","_law_tree_here","_law_place","_law_thing","_law_stop"] t.xh
 xi:Fok K mg "_law_told" qy5 ["_law_way","_law_book_here","_law_tree_here","_law_place","_law_thing","_law_stop"] t.xi
 xj:Fok K mg "_law_right" qt6 ["_law_told_here","_law_book_here","_law_made"] t.xj
 xk:Fok K mg "_law_chained" X4 ["_law_deck","_law_book_here"] t.xk
 xl:Fok K mg "_law_at_end" qo6 ["_law_deck","_law_tree_here","_law_many"] t.xl
 xm:Fok K mg "_law_bit" we7 ["_law_deck","_law_book_here","_law_code"] t.xm
 xn:Fok K mg "law" xs1 ["_law_script"] t.xn
 F_i_NoFit:Fun K "__init__" "NoFit.__init__" wo7 t.a_i_NoFit t.d_i_NoFit
 b_i_NoFit:wf1 K t.d_i_NoFit ["self","rule","place"] []
 m_i_NoFit:InI K mg "NoFit" t.k_NoFit t.a_i_NoFit
 g_WALL_SORTS:mg "WALL_SORTS"=some (.ref t.c_WALL_SORTS)
 q_WALL_SORTS:∀ H:Hp,SqT K H t.c_WALL_SORTS [.str "room",.str "frame"]
 g_NAME:mg "NAME"=some t.v_NAME/\M4 (.int 0) t.v_NAME
 g_SORT:mg "SORT"=some t.v_SORT/\M4 (.int 1) t.v_SORT
 g_HOST:mg "HOST"=some t.v_HOST/\M4 (.int 2) t.v_HOST
 g_SHUTS:mg "SHUTS"=some t.v_SHUTS/\M4 (.int 3) t.v_SHUTS
 g_BARS:mg "BARS"=some t.v_BARS/\M4 (.int 4) t.v_BARS
 g_ROOT_NAME:mg "ROOT_NAME"=some t.v_ROOT_NAME/\M4 (.str "") t.v_ROOT_NAME
 g_MOST_ABOVE:mg "MOST_ABOVE"=some t.v_MOST_ABOVE/\M4 (.int 19) t.v_MOST_ABOVE
 z_ValueError:mg "ValueError"=none
 z_any:mg "any"=none
 z_enumerate:mg "enumerate"=none
 z_int:mg "int"=none
 z_isinstance:mg "isinstance"=none
 z_len:mg "len"=none
 z_list:mg "list"=none
 z_max:mg "max"=none
 z_range:mg "range"=none
 z_reversed:mg "reversed"=none
 z_sorted:mg "sorted"=none
 z_str:mg "str"=none
 z_sum:mg "sum"=none
 z_tuple:mg "tuple"=none
 n_Ended:mg "Ended"=some (.ref t.k_Ended)
 n_NoBook:mg "NoBook"=some (.ref t.k_NoBook)
 n_NoFit:mg "NoFit"=some (.ref t.k_NoFit)
 n_NoPlace:mg "NoPlace"=some (.ref t.k_NoPlace)
 n_NoSpot:mg "NoSpot"=some (.ref t.k_NoSpot)
 n_NoText:mg "NoText"=some (.ref t.k_NoText)
 n_NotEnded:mg "NotEnded"=some (.ref t.k_NotEnded)
 n_TagError:mg "TagError"=some (.ref t.k_TagError)
 x_NoPlace:Aj5 K mg "NoPlace" t.k_NoPlace
 er:Ers K t.k_Ended t.k_NoBook t.k_NoFit t.k_NoPlace t.k_NoSpot t.k_NoText t.k_NotEnded t.k_TagError
 y_NoFit_TagError:PySem.W.exmOne K (.ref t.k_NoFit) (.ref t.k_TagError)=some true
 y_NoPlace_TagError:PySem.W.exmOne K (.ref t.k_NoPlace) (.ref t.k_TagError)=some true
 se_NoFit_rule:SeI K t.k_NoFit "rule"
 ei_NoFit_rule:ExI K t.k_NoFit "rule"
 se_NoFit_place:SeI K t.k_NoFit "place"
 ei_NoFit_place:ExI K t.k_NoFit "place"
 ba_TagError:BaI K mg "TagError" t.k_TagError
section
variable{P:Program}{base:Heap}{t:Adr}
theorem xs2:D7 ["rows","name","row"] ["rows","name"] (B4 xf4):=by walk_at "k"
theorem xf7:D7 ["book","name","row"] ["book","name"] (B4 wn9):=by walk_at "k"
theorem xf8:D7 ["book","name"] ["book","name"] (B4 wo0):=by walk_at "k"
theorem xf9:D7 ["book","name","row"] ["book","name"] (B4 wo1):=by walk_at "k"
theorem wp9:D7 ["book","name","row"] ["book","name"] (B4 we2):=by walk_at "k"
theorem xg0:D7 ["part"] ["part"] (B4 wo2):=by walk_at "k"
theorem xg1:D7 ["tree"] ["tree"] (B4 wo3):=by walk_at "k"
theorem wq0:D7 ["part"] ["part"] (B4 we3):=by walk_at "k"
theorem qt7:D7 ["tree","place"] ["tree","place"] (B4 wo4):=by walk_at "k"
theorem qy6:D7 ["tree","place"] ["tree","place"] (B4 qg4):=by walk_at "k"
theorem wa4:D7 ["tree","place","way","number","parts"] ["tree","place"] (B4 xf5):=by walk_at "k"
theorem wi0:D7 ["tree"] ["tree"] (B4 qn8):=by walk_at "k"
theorem qu4:D7 ["tree","placed","ahead","step"] ["tree"] (B4 ql1):=by walk_at "k"
theorem qy7:D7 ["place","part","parts"] ["place","part"] (B4 qg5):=by walk_at "k"
theorem qo1:D7 ["names"] ["names"] (B4 qe6):=by walk_at "k"
theorem xg2:D7 ["book","names","start","number","name"] ["book","names"] (B4 wo5):=by walk_at "k"
theorem wq1:D7 ["book","tree","place","rule"] ["book","tree"] (B4 we4):=by walk_at "k"
theorem wq2:D7 ["book","tree","place","part","names"] ["book","tree","place"] (B4 we5):=by walk_at "k"
theorem qu5:D7 ["tree","place","number"] ["tree","place"] (B4 ql2):=by walk_at "k"
theorem wb9:D7 ["book","names","text","beside"] ["book","names","text","beside"] (B4 qs9):=by walk_at "k"
theorem wc0:D7 ["book","names","tree","sort"] ["book","names","tree"] (B4 qt0):=by walk_at "k"
theorem qy8:D7 ["book","names","name","above","host","frame"] ["book","names","name"] (B4 qo4):=by walk_at "k"
theorem wc1:D7 ["book","names","name","row","near"] ["book","names","name"] (B4 qt1):=by walk_at "k"
theorem qu6:D7 ["names","others"] ["names","others"] (B4 qd4):=by walk_at "k"
theorem xs3:D7 ["book","tree","place","bit","parts","number"] ["book","tree","place","bit"] (B4 xf6):=by walk_at "k"
theorem qu7:D7 ["tree","place","beyond","above"] ["tree","place","beyond"] (B4 ql3):=by walk_at "k"
theorem wc2:D7 ["tree","place","parts","way","part","level","number","beside"] ["tree","place","parts"] (B4 qt2):=by walk_at "k"
theorem xg3:D7 ["book","tree","fault"] ["book","tree"] (B4 wo6):=by walk_at "k"
theorem qu8:D7 ["_law_script","_law_most","_law_deck","_law_kind","_law_last"] ["_law_script","_law_most"] (B4 ql4):=by walk_at "k"
theorem wi1:D7 ["_law_deck","_law_most","_law_number"] ["_law_deck","_law_most"] (B4 qy0):=by walk_at "k"
theorem wi2:D7 ["_law_code","_law_k","_law_letters","_law_first_here","_law_long","_law_told_here","_law_name_here","_law_j","_law_step"] ["_law_code","_law_k"] (B4 qy1):=by walk_at "k"
theorem wc3:D7 ["_law_deck","_law_count","_law_kinds","_law_sorts_here","_law_hosts","_law_k","_law_free"] ["_law_deck","_law_count"] (B4 qd5):=by walk_at "k"
theorem wi3:D7 ["_law_deck","_law_names","_law_some_here","_law_name_here"] ["_law_deck","_law_names"] (B4 qy2):=by walk_at "k"
theorem wi4:D7 ["_law_deck","_law_code","_law_most","_law_count","_law_sorts_here","_law_hosts","_law_names","_law_soft","_law_may_shut","_law_book_here","_law_k","_law_shuts","_law_host","_law_row_here"] ["_law_deck","_law_code","_law_most"] (B4 X2):=by walk_at "k"
theorem wi5:D7 ["_law_deck","_law_signs"] ["_law_deck"] (B4 qn9):=by walk_at "k"
theorem wi6:D7 ["_law_tree_here","_law_found","_law_todo","_law_place","_law_names","_law_part","_law_above"] ["_law_tree_here"] (B4 qo0):=by walk_at "k"
theorem qj5:D7 ["_law_deck","_law_book_here","_law_code","_law_deep","_law_name_here","_law_parts","_law_k"] ["_law_deck","_law_book_here","_law_code","_law_deep"] (B4 qy3):=by walk_at "k"
theorem wq3:D7 ["_law_book_here","_law_name_here","_law_row_here"] ["_law_book_here","_law_name_here"] (B4 we6):=by walk_at "k"
theorem wi7:D7 ["_law_book_here","_law_names","_law_near_here","_law_k"] ["_law_book_here","_law_names"] (B4 qy4):=by walk_at "k"
theorem wc4:D7 ["_law_book_here","_law_names","_law_part","_law_ahead","_law_above","_law_frame","_law_name_here","_law_sort","_law_host","_law_shuts","_law_bars","_law_frames","_law_near_here"] ["_law_book_here","_law_names","_law_part","_law_ahead"] (B4 Y2):=by walk_at "k"
theorem qy9:D7 ["_law_book_here","_law_tree_here","_law_due","_law_walked","_law_parts","_law_place","_law_names","_law_part","_law_ahead"] ["_law_book_here","_law_tree_here"] (B4 qo5):=by walk_at "k"
theorem qg6:D7 ["_law_deck","_law_book_here","_law_names","_law_deep","_law_parts","_law_frame","_law_k","_law_row_here","_law_part","_law_inner"] ["_law_deck","_law_book_here","_law_names","_law_deep"] (B4 qt3):=by walk_at "k"
theorem V8:D7 ["_law_tree_here","_law_place","_law_parts","_law_k","_law_inner"] ["_law_tree_here","_law_place","_law_parts"] (B4 qe7):=by walk_at "k"
theorem wc5:D7 ["_law_book_here","_law_tree_here","_law_rule","_law_place"] ["_law_book_here","_law_tree_here"] (B4 qt4):=by walk_at "k"
theorem qa5:D7 ["_law_found"] ["_law_found"] (B4 X3):=by walk_at "k"
theorem wc6:D7 ["_law_deck","_law_tree_here","_law_some_here","_law_place","_law_names","_law_part"] ["_law_deck","_law_tree_here"] (B4 qj4):=by walk_at "k"
theorem wc7:D7 ["_law_way","_law_book_here","_law_tree_here","_law_place","_law_thing","_law_stop"] ["_law_way","_law_book_here","_law_tree_here","_law_place","_law_thing","_law_stop"] (B4 qt5):=by walk_at "k"
theorem wi8:D7 ["_law_way","_law_book_here","_law_tree_here","_law_place","_law_thing","_law_stop","_law_error","_law_found","e"] ["_law_way","_law_book_here","_law_tree_here","_law_place","_law_thing","_law_stop"] (B4 qy5):=by walk_at "k"
theorem wc8:D7 ["_law_told_here","_law_book_here","_law_made","_law_due"] ["_law_told_here","_law_book_here","_law_made"] (B4 qt6):=by walk_at "k"
theorem qu9:D7 ["_law_deck","_law_book_here","_law_hosts","_law_plain","_law_names","_law_k","_law_parts","_law_name_here"] ["_law_deck","_law_book_here"] (B4 X4):=by walk_at "k"
theorem qz0:D7 ["_law_deck","_law_tree_here","_law_many","_law_place","_law_step"] ["_law_deck","_law_tree_here","_law_many"] (B4 qo6):=by walk_at "k"
theorem wq4:D7 ["_law_deck","_law_book_here","_law_code","_law_way","_law_name_here","_law_inner"] ["_law_deck","_law_book_here","_law_code"] (B4 we7):=by walk_at "k"
theorem zk9:D7 ["_law_script","_law_deck","_law_code","_law_book_here","_law_many","_law_tree_here","_law_turn","_law_place","_law_parts","_law_k","_law_bit_here","_law_made","_law_told_here"] ["_law_script"] (B4 xs1):=by walk_at "k"
theorem xg4:D7 ["self","rule","place"] ["self","rule","place"] (B4 wo7):=by walk_at "k"
theorem wo8(T:Txt K mg t):M0 P w K mg base CX0 1 t.za.a t.za.d ["rows","name"] (qj7 K):=by
 refine T.za.F.ok xs2 (yl8 K) (fun cdv A outer s H vs Q E hr h=>⟨wg2 K,?_,yy4 h⟩)
 have S:=xs2
 refine A5 ?_ ?_
 ·refine Q9 PassesOwn.never rfl ?_ ?_ ?_
  ·exact(R0 (pv 0))
  ·exact(C8 (i:=2) S.nd rfl (Or.inl rfl))
  ·refine A9 ?_
   refine E5 ?_ ?_ ?_
   ·exact(B5 (L6 (M7 hr)) (C5 (B1 (B7 hr)) (pv 2) (O9 rfl T.g_NAME.1 T.g_NAME.2) (fun _ _=>rfl)) (pv 1) (C0 _))
   ·refine A9 ?_
    exact(B6 (pv 2))
   ·exact B8
 refine A9 ?_
 exact(B6 N9)
theorem yh0(T:Txt K mg t):M0 P w K mg base CX0 1 t.ze.a t.ze.d ["book","name"] (qm2 K):=by
 refine T.ze.F.ok wp9 (by walk_at "n") (fun cdv A outer s H vs Q E hr h=>⟨wd7 K,?_,yc8 h⟩)
 have S:=wp9
 refine A5 ?_ ?_
 ·refine Q9 PassesOwn.never rfl ?_ ?_ ?_
  ·exact(R0 (pv 0))
  ·exact(C8 (i:=2) S.nd rfl (Or.inl rfl))
  ·refine A9 ?_
   refine E5 ?_ ?_ ?_
   ·exact(PW.pt (Y7 (B5 (L6 (M7 hr)) (C5 (B1 (B7 hr)) (pv 2) (O9 rfl T.g_SORT.1 T.g_SORT.2) (fun _ _=>rfl)) E3 (C0 _)) (T7 (B5 (L6 (M7 hr)) (C5 (B1 (B7 hr)) (pv 2) (O9 rfl T.g_HOST.1 T.g_HOST.2) (fun _ _=>rfl)) (pv 1) (C0 _)))))
   ·refine A9 ?_
    exact(B6 (C5 (B1 (B7 hr)) (pv 2) (O9 rfl T.g_NAME.1 T.g_NAME.2) (fun _ _=>rfl)))
   ·exact B8
 refine A9 ?_
 exact(B6 N9)
theorem qt8(T:Txt K mg t):M0 P w K mg base CX0 1 t.zf.a t.zf.d ["part"] (qb0 K):=by
 refine T.zf.F.ok xg0 (by walk_at "n") (fun cdv A outer s H vs Q E hr h=>⟨qz6 K,?_,ym3 h⟩)
 have S:=xg0
 refine A9 ?_
 exact(B6 (C7 I0 rfl T.z_isinstance boot_isinstance (A0 (pv 0) (A0 (S8 rfl T.z_str boot_str rfl) A3))))
theorem qe8(T:Txt K mg t):M0 P w K mg base CX0 1 t.zg.a t.zg.d ["tree"] (U0 K):=by
 refine T.zg.F.ok xg1 (by walk_at "n") (fun cdv A outer s H vs Q E hr h=>⟨qz9 K,?_,ym7 h⟩)
 have S:=xg1
 refine A9 ?_
 exact(B6 (C5 (B1 (B7 hr)) (pv 0) A8 (fun _ _=>rfl)))
theorem qo2(T:Txt K mg t):M0 P w K mg base CX0 1 t.zo.a t.zo.d ["names"] (S1 K):=by
 refine T.zo.F.ok qo1 (by walk_at "n") (fun cdv A outer s H vs Q E hr h=>⟨X9 K,?_,wg5 h⟩)
 have S:=qo1
 refine A9 ?_
 exact(B6 (qo9 (B5 qh5 (C7 E7 rfl T.z_len boot_len (A0 (pv 0) A3)) A8 (C0 _)) (C5 (B1 (B7 hr)) (pv 0) (V4 Q0 A8) (fun _ _=>rfl)) (O9 rfl T.g_ROOT_NAME.1 T.g_ROOT_NAME.2)))
theorem qv0(T:Txt K mg t):M0 P w K mg base CX0 1 t.ya.a t.ya.d ["names","others"] (U9 K):=by
 refine T.ya.F.ok qu6 (by walk_at "n") (fun cdv A outer s H vs Q E hr h=>⟨qc1 K,?_,wr5 h⟩)
 have S:=qu6
 refine A9 ?_
 refine B6 ?_
 exact(C7 (yw9 rfl) rfl T.z_any boot_any (A0 (V5 rfl (M2 (osc:=B4 qd4) (ON:=["names","others"]) (N:=["others","name"]) (fr:=[some 1,none]) (by decide +kernel) rfl rfl) (R0 (pv 0)) (fun _ _ _ _ _ _=>(C8 (i:=1) (show List.Nodup (["others","name"]:List Str) by decide +kernel) rfl (Or.inl rfl))) Q3 (fun _ _ _ _ _ _=>Z8) (fun _ _ _ _ _ _=>(T8 (qr0 (B7 hr)) (pv 1) (pv 0) (by with_unfolding_all rfl)))) A3))
theorem wu4(T:Txt K mg t):M0 P w K mg base CX0 1 t.yk.a t.yk.d ["_law_script","_law_most"] (qa1 K):=by
 refine T.yk.F.ok qu8 (by walk_at "n") (fun cdv A outer s H vs Q E hr h=>⟨qb9 K,?_,wr4 h⟩)
 have S:=qu8
 refine A5 ?_ ?_
 ·refine zst (i:=2) S ?_
  exact(M8 wd4 rfl T.z_list boot_list (A0 (N5 yj6 (pv 0) P0 (O5 A8)) A3))
 refine A5 ?_ ?_
 ·refine zst (i:=3) S ?_
  exact A8
 refine A5 ?_ ?_
 ·refine E5 ?_ ?_ ?_
  ·exact(B5 (O3 (M7 hr)) (pv 2) (N4 A3) (C0 _))
  ·refine A5 ?_ ?_
   ·refine zst (i:=3) S ?_
    exact(D9 qd9 (C5 (B1 (B7 hr)) (pv 2) A8 (fun _ _=>rfl)) A8)
   refine A9 ?_
   exact(qk1 (D9 qz2 (C5 (B1 (B7 hr)) (pv 2) A8 (fun _ _=>rfl)) A8) (xs5 (pv 2) A8 (wf8 (B7 hr))))
  ·exact B8
 refine A5 ?_ ?_
 ·refine zst (i:=4) S ?_
  exact(D9 R5 A8 (D9 qd9 (C7 (yx3 rfl) rfl T.z_sum boot_sum (A0 (pv 2) A3)) A8))
 refine A5 ?_ ?_
 ·refine wv7 PassesOwn.never ?_ ?_
  ·exact(B5 ww9 (C7 E7 rfl T.z_len boot_len (A0 (pv 2) A3)) (pv 1) (C0 _))
  ·refine A5 ?_ ?_
   ·refine zst (i:=4) S ?_
    exact(D9 qd9 (D9 R5 (D9 R5 (D9 Z9 (pv 4) (pv 4)) (D9 Z9 A8 (pv 4))) (C7 E7 rfl T.z_len boot_len (A0 (pv 2) A3))) A8)
   refine A5 ?_ ?_
   ·refine zst (i:=4) S ?_
    exact(D9 qd9 (D9 R5 (D9 R5 (D9 Z9 (pv 4) (pv 4)) (D9 Z9 A8 (pv 4))) A8) A8)
   refine A9 ?_
   exact(S0 (qd7 PySem.F.plainAttrs_list PySem.F.slot_list_append PySem.F.type_list_append P4 (pv 2) (A0 (pv 4) A3)))
 refine A9 ?_
 exact(B6 (D9 R5 (N4 (A0 (pv 3) A3)) (zo0 (pv 2) (V4 Q0 A8))))
theorem C4(T:Txt K mg t):M0 P w K mg base CX0 1 t.yl.a t.yl.d ["_law_deck","_law_most"] (D0 K):=by
 refine T.yl.F.ok wi1 (by walk_at "n") (fun cdv A outer s H vs Q E hr h=>⟨qm3 K,?_,xv3 h⟩)
 have S:=wi1
 refine A5 ?_ ?_
 ·refine E5 ?_ ?_ ?_
  ·exact(B5 (L6 (M7 hr)) (C7 E7 rfl T.z_len boot_len (A0 (pv 0) A3)) A8 (C0 _))
  ·refine A9 ?_
   exact(B6 A8)
  ·exact B8
 refine A5 ?_ ?_
 ·refine zst (i:=2) S ?_
  exact(za5 PySem.F.plainAttrs_list PySem.F.slot_list_pop PySem.F.type_list_pop za6 (pv 0))
 refine A5 ?_ ?_
 ·refine E5 ?_ ?_ ?_
  ·exact(PW.pt (Y7 (B5 (L6 (M7 hr)) (C5 (B1 (B7 hr)) (pv 0) A8 (fun _ _=>rfl)) A8 (C0 _)) (T7 (B5 (O3 (M7 hr)) (D9 yb6 (pv 2) (pv 1)) A8 (C0 _)))))
  ·refine A9 ?_
   exact(S0 (qd7 PySem.F.plainAttrs_list PySem.F.slot_list_append PySem.F.type_list_append P4 (pv 0) (A0 (D9 yb6 (pv 2) (pv 1)) A3)))
  ·exact B8
 refine A9 ?_
 exact(B6 (D9 qd9 (pv 2) (pv 1)))
theorem qt9(T:Txt K mg t):M0 P w K mg base CX0 1 t.ym.a t.ym.d ["_law_code","_law_k"] (qc0 K):=by
 refine T.ym.F.ok wi2 (by walk_at "n") (fun cdv A outer s H vs Q E hr h=>⟨qm4 K,?_,xv4 h⟩)
 have S:=wi2
 refine A5 ?_ ?_
 ·refine zst (i:=2) S ?_
  exact E3
 refine A5 ?_ ?_
 ·refine zst (i:=3) S ?_
  exact(D9 qd9 (D9 qz2 (pv 0) A8) A8)
 refine A5 ?_ ?_
 ·refine E5 ?_ ?_ ?_
  ·exact(B5 (L6 (M7 hr)) (D9 qd9 (D9 qz2 (pv 0) A8) A8) A8 (C0 _))
  ·refine A9 ?_
   exact(B6 (D9 Z9 (C5 (B1 (B7 hr)) (pv 2) (D9 qd9 (D9 R5 (pv 3) (D9 qz2 (pv 1) A8)) A8) (fun _ _=>rfl)) (D9 R5 A8 (D9 qd9 (pv 1) A8))))
  ·exact B8
 refine A5 ?_ ?_
 ·refine zst (i:=4) S ?_
  exact(D9 R5 A8 (D9 qd9 (pv 0) A8))
 refine A5 ?_ ?_
 ·refine zst (i:=5) S ?_
  exact(D9 qd9 (D9 qz2 (pv 0) A8) (pv 4))
 refine A5 ?_ ?_
 ·refine zst (i:=6) S ?_
  exact E3
 refine A5 ?_ ?_
 ·refine Q9 PassesOwn.never rfl ?_ ?_ ?_
  ·exact(O6 rfl T.z_range (A0 (pv 4) A3))
  ·exact(C8 (i:=7) S.nd rfl (Or.inl rfl))
  ·refine A5 ?_ ?_
   ·refine zst (i:=8) S ?_
    exact(D9 Z9 (D9 qd9 (D9 qz2 (pv 0) A8) A8) (pv 7))
   refine A5 ?_ ?_
   ·refine E5 ?_ ?_ ?_
    ·exact(B5 (L6 (M7 hr)) (pv 7) (pv 5) (C0 _))
    ·refine A9 ?_
     refine zst (i:=8) S ?_
     exact(D9 R5 (pv 8) (pv 1))
    ·exact B8
   refine A9 ?_
   refine zst (i:=6) S ?_
   exact(D9 R5 (pv 6) (C5 (B1 (B7 hr)) (pv 2) (D9 qd9 (D9 R5 (pv 3) (pv 8)) A8) (fun _ _=>rfl)))
 refine A9 ?_
 exact(B6 (pv 6))
theorem wi9(T:Txt K mg t):M0 P w K mg base CX0 1 t.yr.a t.yr.d ["_law_tree_here"] (qc6 K):=by
 refine T.yr.F.ok wi6 (by walk_at "n") (fun cdv A outer s H vs Q E hr h=>⟨qm9 K,?_,xx0 h⟩)
 have S:=wi6
 refine A5 ?_ ?_
 ·refine zst (i:=1) S ?_
  exact(N4 A3)
 refine A5 ?_ ?_
 ·refine zst (i:=2) S ?_
  exact(N4 (A0 (C9 (A0 (C9 A3) (A0 (C9 A3) (A0 (pv 0) A3)))) A3))
 refine A5 ?_ ?_
 ·refine wv7 PassesOwn.never ?_ ?_
  ·exact(B5 (O3 (M7 hr)) (pv 2) (N4 A3) (C0 _))
  ·refine A5 ?_ ?_
   ·exact(qk1 (qd7 PySem.F.plainAttrs_list PySem.F.slot_list_pop PySem.F.type_list_pop za7 (pv 2) (A0 A8 A3)) (qk0 rfl (L8 (C8 (i:=3) S.nd rfl (Or.inr rfl)) (L8 (C8 (i:=4) S.nd rfl (Or.inl rfl)) (L8 (C8 (i:=5) S.nd rfl (Or.inr rfl)) qb3)))))
   refine A5 ?_ ?_
   ·exact(S0 (qd7 PySem.F.plainAttrs_list PySem.F.slot_list_append PySem.F.type_list_append P4 (pv 1) (A0 (C9 (A0 (pv 3) (A0 (pv 4) (A0 (pv 5) A3)))) A3)))
   refine A9 ?_
   refine E5 ?_ ?_ ?_
   ·exact(qd8 (Q8 (C7 I0 rfl T.z_isinstance boot_isinstance (A0 (pv 5) (A0 (S8 rfl T.z_str boot_str rfl) A3)))))
   ·refine A5 ?_ ?_
    ·refine O0 (i:=6) S.nd rfl (Or.inr rfl) ?_ rfl ?_
     ·exact(pv 4)
     ·walk_at "or"
    refine A5 ?_ ?_
    ·refine E5 ?_ ?_ ?_
     ·exact(B5 (O3 (M7 hr)) (pv 3) (C9 A3) (C0 _))
     ·refine A9 ?_
      refine O0 (i:=6) S.nd rfl (Or.inr rfl) ?_ rfl ?_
      ·exact(D9 L9 (pv 4) (C9 (A0 (C5 (B1 (B7 hr)) (pv 5) A8 (fun _ _=>rfl)) A3)))
      ·walk_at "or"
     ·exact B8
    refine A9 ?_
    refine O0 (i:=2) S.nd rfl (Or.inl rfl) ?_ rfl ?_
    ·refine D9 L9 ?_ ?_
     ·exact(V5 rfl (M2 (osc:=B4 qo0) (ON:=["_law_tree_here","_law_found","_law_todo","_law_place","_law_names","_law_part","_law_above"]) (N:=["_law_above","_law_place","_law_part","_law_k"]) (fr:=[some 6,some 3,some 5,none]) (by decide +kernel) rfl rfl) (O6 rfl T.z_range (A0 (C7 E7 rfl T.z_len boot_len (A0 (C5 (B1 (B7 hr)) (pv 5) A8 (fun _ _=>rfl)) A3)) A3)) (fun _ _ _ _ _ _=>(C8 (i:=3) (show List.Nodup (["_law_above","_law_place","_law_part","_law_k"]:List Str) by decide +kernel) rfl (Or.inl rfl))) Q3 (fun _ _ _ _ _ _=>Z8) (fun _ _ _ _ _ _=>(C9 (A0 (D9 L9 (pv 1) (C9 (A0 (pv 3) A3))) (A0 (pv 0) (A0 (C5 (B1 (B7 hr)) (C5 (B1 (B7 hr)) (pv 2) A8 (fun _ _=>rfl)) (pv 3) (fun _ _=>rfl)) A3))))))
     ·exact(pv 2)
    ·walk_at "or"
   ·exact B8
 refine A9 ?_
 exact(B6 (pv 1))
theorem T5(T:Txt K mg t):M0 P w K mg base CX0 1 t.yu.a t.yu.d ["_law_book_here","_law_name_here"] (S3 K):=by
 refine T.yu.F.ok wq3 (by walk_at "n") (fun cdv A outer s H vs Q E hr h=>⟨qs2 K,?_,ye7 h⟩)
 have S:=wq3
 refine A5 ?_ ?_
 ·refine Q9 PassesOwn.never rfl ?_ ?_ ?_
  ·exact(R0 (pv 0))
  ·exact(C8 (i:=2) S.nd rfl (Or.inl rfl))
  ·refine A9 ?_
   refine E5 ?_ ?_ ?_
   ·exact(B5 (L6 (M7 hr)) (C5 (B1 (B7 hr)) (pv 2) A8 (fun _ _=>rfl)) (pv 1) (C0 _))
   ·refine A9 ?_
    exact(B6 (pv 2))
   ·exact B8
 refine A9 ?_
 exact(B6 (C9 (A0 E3 (A0 E3 (A0 E3 (A0 (C9 A3) (A0 (C9 A3) A3)))))))
theorem yn9(T:Txt K mg t):M0 P w K mg base CX0 1 t.a_i_NoFit t.d_i_NoFit ["self","rule","place"] (qs3 K):=by
 refine T.F_i_NoFit.ok xg4 (by walk_at "n") (fun cdv A outer s H vs Q E hr h=>⟨wa1 K,?_,yn5 h⟩)
 have S:=xg4
 refine A5 ?_ ?_
 ·exact(S0 (Ab9 T.ba_TagError rfl (A0 (pv 0) (A0 (Ac6 hr.gd hr.units0 (pv 1) (pv 2)) A3))))
 refine A5 ?_ ?_
 ·exact(Ac0 (pv 0) (pv 1) rfl)
 refine A9 ?_
 exact(zq0 (pv 0) (pv 2) rfl)
theorem xg5(T:Txt K mg t):M0 P w K mg base CX0 2 t.zb.a t.zb.d ["book","name"] (qk5 K):=by
 refine T.zb.F.ok xf7 (by walk_at "n") (fun cdv A outer s H vs Q E hr h=>⟨wk5 K,?_,yl9 h⟩)
 have S:=xf7
 refine A5 ?_ ?_
 ·refine zst (i:=2) S ?_
  exact(zcl (wo8 T) hr T.za B9 (A0 (pv 0) (A0 (pv 1) A3)))
 refine A9 ?_
 exact(B6 (qo9 (B5 qv9 (pv 2) N9 (C0 _)) N9 (C5 (B1 (B7 hr)) (pv 2) (O9 rfl T.g_SORT.1 T.g_SORT.2) (fun _ _=>rfl))))
theorem xg6(T:Txt K mg t):M0 P w K mg base CX0 2 t.zd.a t.zd.d ["book","name"] (qk6 K):=by
 refine T.zd.F.ok xf9 (by walk_at "n") (fun cdv A outer s H vs Q E hr h=>⟨wk6 K,?_,ym0 h⟩)
 have S:=xf9
 refine A5 ?_ ?_
 ·refine zst (i:=2) S ?_
  exact(zcl (wo8 T) hr T.za B9 (A0 (pv 0) (A0 (pv 1) A3)))
 refine A5 ?_ ?_
 ·refine E5 ?_ ?_ ?_
  ·exact(PW.pt (wp1 (B5 qv9 (pv 2) N9 (C0 _)) (wj4 (B5 (O3 (M7 hr)) (C5 (B1 (B7 hr)) (pv 2) (O9 rfl T.g_SORT.1 T.g_SORT.2) (fun _ _=>rfl)) E3 (C0 _)))))
  ·refine A9 ?_
   exact(B6 N9)
  ·exact B8
 refine A9 ?_
 exact(B6 (C5 (B1 (B7 hr)) (pv 2) (O9 rfl T.g_HOST.1 T.g_HOST.2) (fun _ _=>rfl)))
theorem X5(T:Txt K mg t):M0 P w K mg base CX0 2 t.zh.a t.zh.d ["part"] (Q6 K):=by
 refine T.zh.F.ok wq0 (by walk_at "n") (fun cdv A outer s H vs Q E hr h=>⟨qr6 K,?_,yd3 h⟩)
 have S:=wq0
 refine A9 ?_
 exact(B6 (qo9 (Q8 (zcl (qt8 T) hr T.zf B9 (A0 (pv 0) A3))) (C9 A3) (C5 (B1 (B7 hr)) (pv 0) A8 (fun _ _=>rfl))))
theorem xo3(T:Txt K mg t):M0 P w K mg base CX0 2 t.yn.a t.yn.d ["_law_deck","_law_count"] (qf7 K):=by
 refine T.yn.F.ok wc3 (by walk_at "n") (fun cdv A outer s H vs Q E hr h=>⟨qi8 K,?_,xk7 h⟩)
 have S:=wc3
 refine A5 ?_ ?_
 ·refine O0 (i:=2) ?_ ?_ ?_ ?_ ?_ ?_
  ·exact S.nd
  ·rfl
  ·exact(Or.inr rfl)
  ·refine N4 ?_
   with_reducible refine wp4 ?_
   with_reducible refine wp4 ?_
   with_reducible refine wp4 ?_
   with_reducible refine wp4 ?_
   with_reducible refine wp4 ?_
   with_reducible refine wp4 ?_
   with_reducible refine wp4 ?_
   with_reducible refine wp4 ?_
   exact Ai7
  ·exact rfl
  ·walk_at "or"
 refine A5 ?_ ?_
 ·refine O0 (i:=3) S.nd rfl (Or.inr rfl) ?_ rfl ?_
  ·exact(V5 rfl (M2 (osc:=B4 qd5) (ON:=["_law_deck","_law_count","_law_kinds","_law_sorts_here","_law_hosts","_law_k","_law_free"]) (N:=["_law_kinds","_law_deck","_law_k"]) (fr:=[some 2,some 0,none]) (by decide +kernel) rfl rfl) (O6 rfl T.z_range (A0 (pv 1) A3)) (fun _ _ _ _ _ _=>(C8 (i:=2) (show List.Nodup (["_law_kinds","_law_deck","_law_k"]:List Str) by decide +kernel) rfl (Or.inl rfl))) Q3 (fun _ _ _ _ _ _=>Z8) (fun _ _ _ _ _ _=>(C5 (B1 (B7 hr)) (pv 0) (zcl (C4 T) hr T.yl B9 (A0 (pv 1) (A0 A8 A3))) (fun _ _=>rfl))))
  ·walk_at "or"
 refine A5 ?_ ?_
 ·refine O0 (i:=4) S.nd rfl (Or.inr rfl) ?_ rfl ?_
  ·exact zb5
  ·walk_at "or"
 refine A5 ?_ ?_
 ·refine Q9 PassesOwn.never rfl ?_ ?_ ?_
  ·exact(O6 rfl T.z_range (A0 (pv 1) A3))
  ·exact(C8 (i:=5) S.nd rfl (Or.inl rfl))
  ·refine A9 ?_
   refine E5 ?_ ?_ ?_
   ·exact(B5 (L6 (M7 hr)) (C5 (B1 (B7 hr)) (pv 3) (pv 5) (fun _ _=>rfl)) E3 (C0 _))
   ·refine A5 ?_ ?_
    ·exact(qz4 (i:=6) S.nd rfl rfl rfl (M2 (osc:=B4 qd5) (ON:=["_law_deck","_law_count","_law_kinds","_law_sorts_here","_law_hosts","_law_k","_law_free"]) (N:=["_law_sorts_here","_law_hosts","_law_j"]) (fr:=[some 3,some 4,none]) (by decide +kernel) rfl rfl) (yu3 rfl T.z_range (A0 (D9 R5 (pv 5) A8) (A0 (pv 1) A3))) (fun _ _ _ _ _ _=>(C8 (i:=2) (show List.Nodup (["_law_sorts_here","_law_hosts","_law_j"]:List Str) by decide +kernel) rfl (Or.inl rfl))) Q3 (fun _ _ _ _ _ _=>(ql9 (PW.pt (Y7 (B5 (qr0 (B7 hr)) (C5 (B1 (B7 hr)) (pv 0) (pv 2) (fun _ _=>rfl)) (C9 (A0 E3 (A0 E3 A3))) (by with_unfolding_all rfl)) (T7 (wk2 rfl (pv 2) (pv 1))))))) (fun _ _ _ _ _ _=>(pv 2)))
    refine A9 ?_
    refine E5 ?_ ?_ ?_
    ·exact(B5 (L6 (M7 hr)) (pv 6) (N4 A3) (C0 _))
    ·refine A9 ?_
     exact(qk1 (C5 (B1 (B7 hr)) (N4 (A0 E3 (A0 E3 A3))) (M8 X7 rfl T.z_int boot_int (A0 (Aa9 rfl (pv 5) (pv 4)) A3)) (fun _ _=>rfl)) (xs5 (pv 3) (pv 5) (wf8 (B7 hr))))
    ·refine A9 ?_
     exact(qk1 (C5 (B1 (B7 hr)) (pv 6) (zcl (C4 T) hr T.yl B9 (A0 (pv 0) (A0 (C7 E7 rfl T.z_len boot_len (A0 (pv 6) A3)) A3))) (fun _ _=>rfl)) (xs5 (pv 4) (pv 5) (wf8 (B7 hr))))
   ·exact B8
 refine A9 ?_
 exact(B6 (C9 (A0 (pv 3) (A0 (pv 4) A3))))
theorem wj0(T:Txt K mg t):M0 P w K mg base CX0 2 t.yo.a t.yo.d ["_law_deck","_law_names"] (qc7 K):=by
 refine T.yo.F.ok wi3 (by walk_at "n") (fun cdv A outer s H vs Q E hr h=>⟨qn0 K,?_,xx1 h⟩)
 have S:=wi3
 refine A5 ?_ ?_
 ·refine zst (i:=2) S ?_
  exact(N4 A3)
 refine A5 ?_ ?_
 ·refine Q9 PassesOwn.never rfl ?_ ?_ ?_
  ·exact(R0 (pv 1))
  ·exact(C8 (i:=3) S.nd rfl (Or.inl rfl))
  ·refine A9 ?_
   refine E5 ?_ ?_ ?_
   ·exact(B5 (L6 (M7 hr)) (zcl (C4 T) hr T.yl B9 (A0 (pv 0) (A0 A8 A3))) A8 (C0 _))
   ·refine A9 ?_
    exact(S0 (qd7 PySem.F.plainAttrs_list PySem.F.slot_list_append PySem.F.type_list_append P4 (pv 2) (A0 (pv 3) A3)))
   ·exact B8
 refine A9 ?_
 exact(B6 (M8 T4 rfl T.z_tuple boot_tuple (A0 (C7 xt8 rfl T.z_sorted boot_sorted (A0 (pv 2) A3)) A3)))
theorem Y3(T:Txt K mg t):M0 P w K mg base CX0 2 t.yq.a t.yq.d ["_law_deck"] (U4 K):=by
 refine T.yq.F.ok wi5 (by walk_at "n") (fun cdv A outer s H vs Q E hr h=>⟨qn2 K,?_,xx3 h⟩)
 have S:=wi5
 refine A5 ?_ ?_
 ·refine O0 (i:=1) S.nd rfl (Or.inr rfl) ?_ rfl ?_
  ·exact E3
  ·walk_at "or"
 refine A5 ?_ ?_
 ·refine E5 ?_ ?_ ?_
  ·exact(B5 (L6 (M7 hr)) (zcl (C4 T) hr T.yl B9 (A0 (pv 0) (A0 A8 A3))) A8 (C0 _))
  ·refine A5 ?_ ?_
   ·refine O0 (i:=1) S.nd rfl (Or.inr rfl) ?_ rfl ?_
    ·exact E3
    ·walk_at "or"
   refine A9 ?_
   refine O0 (i:=1) S.nd rfl (Or.inr rfl) ?_ rfl ?_
   ·exact(D9 R5 (pv 1) E3)
   ·walk_at "or"
  ·exact B8
 refine A9 ?_
 refine B6 ?_
 exact(qd7 PySem.F.plainAttrs_str PySem.F.slot_str_join PySem.F.type_str_join zm9 E3 (A0 (V5 rfl (M2 (osc:=B4 qn9) (ON:=["_law_deck","_law_signs"]) (N:=["_law_signs","_law_deck","_law_k"]) (fr:=[some 1,some 0,none]) (by decide +kernel) rfl rfl) (O6 rfl T.z_range (A0 (D9 R5 A8 (zcl (C4 T) hr T.yl B9 (A0 (pv 0) (A0 A8 A3)))) A3)) (fun _ _ _ _ _ _=>(C8 (i:=2) (show List.Nodup (["_law_signs","_law_deck","_law_k"]:List Str) by decide +kernel) rfl (Or.inl rfl))) Q3 (fun _ _ _ _ _ _=>Z8) (fun _ _ _ _ _ _=>(C5 (B1 (B7 hr)) (pv 0) (zcl (C4 T) hr T.yl B9 (A0 (pv 1) (A0 (C7 E7 rfl T.z_len boot_len (A0 (pv 0) A3)) A3))) (fun _ _=>rfl)))) A3))
theorem xz3(T:Txt K mg t):M0 P w K mg base CX0 2 t.yw.a t.yw.d ["_law_book_here","_law_names"] (qi6 K):=by
 refine T.yw.F.ok wi7 (by walk_at "n") (fun cdv A outer s H vs Q E hr h=>⟨qm8 K,?_,xw7 h⟩)
 have S:=wi7
 refine A5 ?_ ?_
 ·refine zst (i:=2) S ?_
  exact(M8 wd4 rfl T.z_list boot_list (A0 (pv 1) A3))
 refine A5 ?_ ?_
 ·refine Q9 PassesOwn.never rfl ?_ ?_ ?_
  ·exact(O6 rfl T.z_range (A0 (C7 E7 rfl T.z_len boot_len (A0 (pv 1) A3)) A3))
  ·exact(C8 (i:=3) S.nd rfl (Or.inl rfl))
  ·refine A9 ?_
   refine E5 ?_ ?_ ?_
   ·exact(B5 (qr0 (B7 hr)) (C5 (B1 (B7 hr)) (zcl (T5 T) hr T.yu B9 (A0 (pv 0) (A0 (C5 (B1 (B7 hr)) (pv 1) (pv 3) (fun _ _=>rfl)) A3))) A8 (fun _ _=>rfl)) (C9 (A0 E3 (A0 E3 A3))) (by with_unfolding_all rfl))
   ·refine A9 ?_
    refine zst (i:=2) S ?_
    exact(M8 wd4 rfl T.z_list boot_list (A0 (N5 Q4 (pv 1) (O5 (D9 L9 (pv 3) A8)) P0) A3))
   ·exact B8
 refine A9 ?_
 exact(B6 (pv 2))
theorem xo4(T:Txt K mg t):M0 P w K mg base CX0 2 t.xg.a t.xg.d ["_law_deck","_law_tree_here"] (qg1 K):=by
 refine T.xg.F.ok wc6 (by walk_at "n") (fun cdv A outer s H vs Q E hr h=>⟨qj2 K,?_,xo1 h⟩)
 have S:=wc6
 refine A5 ?_ ?_
 ·exact(qz4 (i:=2) S.nd rfl rfl rfl (M2 (osc:=B4 qj4) (ON:=["_law_deck","_law_tree_here","_law_some_here","_law_place","_law_names","_law_part"]) (N:=["_law_one"]) (fr:=[none]) (by decide +kernel) rfl rfl) (R0 (zcl (wi9 T) hr T.yr B9 (A0 (pv 1) A3))) (fun _ _ _ _ _ _=>(C8 (i:=0) (show List.Nodup (["_law_one"]:List Str) by decide +kernel) rfl (Or.inl rfl))) Q3 (fun _ _ _ _ _ _=>(ql9 (qd8 (Q8 (C7 I0 rfl T.z_isinstance boot_isinstance (A0 (C5 (B1 (B7 hr)) (pv 0) A8 (fun _ _=>rfl)) (A0 (S8 rfl T.z_str boot_str rfl) A3))))))) (fun _ _ _ _ _ _=>(pv 0)))
 refine A5 ?_ ?_
 ·exact(qk1 (C5 (B1 (B7 hr)) (pv 2) (zcl (C4 T) hr T.yl B9 (A0 (pv 0) (A0 (C7 E7 rfl T.z_len boot_len (A0 (pv 2) A3)) A3))) (fun _ _=>rfl)) (qk0 rfl (L8 (C8 (i:=3) S.nd rfl (Or.inl rfl)) (L8 (C8 (i:=4) S.nd rfl (Or.inl rfl)) (L8 (C8 (i:=5) S.nd rfl (Or.inl rfl)) qb3)))))
 refine A9 ?_
 exact(B6 (C9 (A0 (pv 3) (A0 (C5 (B1 (B7 hr)) (pv 5) A8 (fun _ _=>rfl)) A3))))
theorem xg7(T:Txt K mg t):M0 P w K mg base CX0 2 t.xl.a t.xl.d ["_law_deck","_law_tree_here","_law_many"] (qd3 K):=by
 refine T.xl.F.ok qz0 (by walk_at "n") (fun cdv A outer s H vs Q E hr h=>⟨qg3 K,?_,xf3 h⟩)
 have S:=qz0
 refine A5 ?_ ?_
 ·refine O0 (i:=3) S.nd rfl (Or.inl rfl) ?_ rfl ?_
  ·refine D9 xv0 ?_ ?_
   ·exact(C9 (A0 A8 A3))
   ·exact(C7 (yx1 rfl) rfl T.z_max boot_max (A0 A8 (A0 (D9 qh3 (pv 2) (zcl (C4 T) hr T.yl B9 (A0 (pv 0) (A0 A8 A3)))) A3)))
  ·walk_at "or"
 refine A5 ?_ ?_
 ·refine Q9 PassesOwn.never rfl ?_ ?_ ?_
  ·exact(R0 (pv 3))
  ·exact(C8 (i:=4) S.nd rfl (Or.inl rfl))
  ·refine A9 ?_
   refine zst (i:=1) S ?_
   exact(C5 (B1 (B7 hr)) (C5 (B1 (B7 hr)) (pv 1) A8 (fun _ _=>rfl)) (pv 4) (fun _ _=>rfl))
 refine A9 ?_
 exact(B6 (C9 (A0 (pv 3) (A0 (C5 (B1 (B7 hr)) (pv 1) A8 (fun _ _=>rfl)) A3))))
theorem yo0(T:Txt K mg t):M0 P w K mg base CX0 3 t.zc.a t.zc.d ["book","name"] (qr7 K):=by
 refine T.zc.F.ok xf8 (by walk_at "n") (fun cdv A outer s H vs Q E hr h=>⟨qz7 K t.c_WALL_SORTS,?_,ym4 T.q_WALL_SORTS h⟩)
 have S:=xf8
 refine A9 ?_
 exact(B6 (T8 (qr0 (B7 hr)) (zcl (xg5 T) hr T.zb B9 (A0 (pv 0) (A0 (pv 1) A3))) (O9 rfl T.g_WALL_SORTS rfl) (by with_unfolding_all rfl)))
theorem wo9(T:Txt K mg t):M0 P w K mg base CX0 3 t.zk.a t.zk.d ["tree","place"] (qj9 K):=by
 refine T.zk.F.ok wa4 (by walk_at "n") (fun cdv A outer s H vs Q E hr h=>⟨wg6 K,?_,yy9 h⟩)
 have S:=wa4
 refine A5 ?_ ?_
 ·refine zst (i:=2) S ?_
  exact(N4 (A0 (pv 0) A3))
 refine A5 ?_ ?_
 ·refine Q9 PassesOwn.never rfl ?_ ?_ ?_
  ·exact(R0 (pv 1))
  ·exact(C8 (i:=3) S.nd rfl (Or.inl rfl))
  ·refine A5 ?_ ?_
   ·refine zst (i:=4) S ?_
    exact(zcl (X5 T) hr T.zh B9 (A0 (C5 (B1 (B7 hr)) (pv 2) (V4 Q0 A8) (fun _ _=>rfl)) A3))
   refine A5 ?_ ?_
   ·refine E5 ?_ ?_ ?_
    ·exact(qd8 (ww0 yj2 ww9 A8 (pv 3) (C7 E7 rfl T.z_len boot_len (A0 (pv 4) A3))))
    ·refine A9 ?_
     exact yz6
    ·exact B8
   refine A9 ?_
   exact(S0 (qd7 PySem.F.plainAttrs_list PySem.F.slot_list_append PySem.F.type_list_append P4 (pv 2) (A0 (C5 (B1 (B7 hr)) (pv 4) (pv 3) (fun _ _=>rfl)) A3)))
 refine A9 ?_
 exact(B6 (pv 2))
theorem yo1(T:Txt K mg t):M0 P w K mg base (Fly P w) 3 t.zk.a t.zk.d ["tree","place"] (qs4 K t.k_NoPlace):=by
 refine T.zk.F.okX wa4 (by walk_at "n") (fun cdv A outer s H vs Q E hr h=>⟨wa2 K t.k_NoPlace E,?_,yn6 h⟩)
 have S:=wa4
 refine A5 ?_ ?_
 ·refine zst (i:=2) S ?_
  exact(N4 (A0 (pv 0) A3))
 refine A5 ?_ ?_
 ·refine Q9 Ab5 rfl ?_ ?_ ?_
  ·exact(R0 (pv 1))
  ·exact(C8 (i:=3) S.nd rfl (Or.inl rfl))
  ·refine A5 ?_ ?_
   ·refine zst (i:=4) S ?_
    exact(zcl (X5 T) hr T.zh B9 (A0 (C5 (B1 (B7 hr)) (pv 2) (V4 Q0 A8) (fun _ _=>rfl)) A3))
   refine A5 ?_ ?_
   ·refine E5 ?_ ?_ ?_
    ·exact(qd8 (ww0 yj2 ww9 A8 (pv 3) (C7 E7 rfl T.z_len boot_len (A0 (pv 4) A3))))
    ·refine A9 ?_
     exact(wy6 wk3 rfl T.x_NoPlace rfl (A0 E3 A3))
    ·exact B8
   refine A9 ?_
   exact(S0 (qd7 PySem.F.plainAttrs_list PySem.F.slot_list_append PySem.F.type_list_append P4 (pv 2) (A0 (C5 (B1 (B7 hr)) (pv 4) (pv 3) (fun _ _=>rfl)) A3)))
 refine A9 ?_
 exact(B6 (pv 2))
theorem xg8(T:Txt K mg t):M0 P w K mg base CX0 3 t.zn.a t.zn.d ["place","part"] (qb7 K):=by
 refine T.zn.F.ok qy7 (by walk_at "n") (fun cdv A outer s H vs Q E hr h=>⟨qf0 K,?_,wz6 h⟩)
 have S:=qy7
 refine A5 ?_ ?_
 ·refine O0 (i:=2) S.nd rfl (Or.inr rfl) ?_ rfl ?_
  ·exact(zcl (X5 T) hr T.zh B9 (A0 (pv 1) A3))
  ·walk_at "or"
 refine A9 ?_
 refine B6 ?_
 exact(V5 rfl (M2 (osc:=B4 qg5) (ON:=["place","part","parts"]) (N:=["place","parts","number"]) (fr:=[some 0,some 2,none]) (by decide +kernel) rfl rfl) (xq7 rfl T.z_range (A0 (D9 qh3 (C7 E7 rfl T.z_len boot_len (A0 (pv 2) A3)) A8) (A0 (V4 Q0 A8) (A0 (V4 Q0 A8) A3)))) (fun _ _ _ _ _ _=>(C8 (i:=2) (show List.Nodup (["place","parts","number"]:List Str) by decide +kernel) rfl (Or.inl rfl))) Q3 (fun _ _ _ _ _ _=>Z8) (fun _ _ _ _ _ _=>(C9 (A0 (D9 L9 (pv 0) (C9 (A0 (pv 2) A3))) (A0 (C5 (B1 (B7 hr)) (pv 1) (pv 2) (fun _ _=>rfl)) A3)))))
theorem xo5(T:Txt K mg t):M0 P w K mg base CX0 3 t.zw.a t.zw.d ["book","names","text","beside"] (qf3 K):=by
 refine T.zw.F.ok wb9 (by walk_at "n") (fun cdv A outer s H vs Q E hr h=>⟨qi3 K,?_,xj3 h⟩)
 have S:=wb9
 refine A5 ?_ ?_
 ·refine E5 ?_ ?_ ?_
  ·exact(B5 qj6 (zcl (xg6 T) hr T.zd B9 (A0 (pv 0) (A0 (zcl (qo2 T) hr T.zo B9 (A0 (pv 1) A3)) A3))) N9 (C0 _))
  ·refine A9 ?_
   exact(B6 E3)
  ·exact B8
 refine A5 ?_ ?_
 ·refine E5 ?_ ?_ ?_
  ·exact(B5 (L6 (M7 hr)) (pv 2) E3 (C0 _))
  ·refine A9 ?_
   exact(B6 E3)
  ·exact B8
 refine A9 ?_
 exact(B6 (qo9 (Q8 (pv 3)) E3 N9))
theorem xg9(T:Txt K mg t):M0 P w K mg base CX0 3 t.zy.a t.zy.d ["book","names","name"] (qc4 K):=by
 refine T.zy.F.ok qy8 (by walk_at "n") (fun cdv A outer s H vs Q E hr h=>⟨qf4 K,?_,xa2 h⟩)
 have S:=qy8
 refine A5 ?_ ?_
 ·refine zst (i:=3) S ?_
  exact(zcl (qo2 T) hr T.zo B9 (A0 (pv 1) A3))
 refine A5 ?_ ?_
 ·refine zst (i:=4) S ?_
  exact(zcl (xg6 T) hr T.zd B9 (A0 (pv 0) (A0 (pv 3) A3)))
 refine A5 ?_ ?_
 ·refine E5 ?_ ?_ ?_
  ·exact(PW.pt (Y7 (B5 qj6 (pv 4) N9 (C0 _)) (T7 (B5 (O3 (M7 hr)) (pv 4) (pv 2) (C0 _)))))
  ·refine A9 ?_
   exact(B6 E3)
  ·exact B8
 refine A5 ?_ ?_
 ·refine zst (i:=5) S ?_
  exact(zcl (yh0 T) hr T.ze B9 (A0 (pv 0) (A0 (pv 2) A3)))
 refine A5 ?_ ?_
 ·refine E5 ?_ ?_ ?_
  ·exact(PW.pt (Y7 (B5 qj6 (pv 5) N9 (C0 _)) (T7 (B5 (O3 (M7 hr)) (pv 5) (pv 3) (C0 _)))))
  ·refine A9 ?_
   exact(B6 E3)
  ·exact B8
 refine A9 ?_
 exact(B6 N9)
theorem xz4(T:Txt K mg t):M0 P w K mg base CX0 3 t.yp.a t.yp.d ["_law_deck","_law_code","_law_most"] (qi9 K):=by
 refine T.yp.F.ok wi4 (by walk_at "n") (fun cdv A outer s H vs Q E hr h=>⟨qn1 K,?_,xx2 h⟩)
 have S:=wi4
 refine A5 ?_ ?_
 ·refine zst (i:=3) S ?_
  exact(D9 R5 A8 (zcl (C4 T) hr T.yl B9 (A0 (pv 0) (A0 (pv 2) A3))))
 refine A5 ?_ ?_
 ·exact(qk1 (zcl (xo3 T) hr T.yn B9 (A0 (pv 0) (A0 (pv 3) A3))) (qk0 rfl (L8 (C8 (i:=4) S.nd rfl (Or.inr rfl)) (L8 (C8 (i:=5) S.nd rfl (Or.inr rfl)) qb3))))
 refine A5 ?_ ?_
 ·refine O0 (i:=6) S.nd rfl (Or.inr rfl) ?_ rfl ?_
  ·exact(V5 rfl (M2 (osc:=B4 X2) (ON:=["_law_deck","_law_code","_law_most","_law_count","_law_sorts_here","_law_hosts","_law_names","_law_soft","_law_may_shut","_law_book_here","_law_k","_law_shuts","_law_host","_law_row_here"]) (N:=["_law_code","_law_k"]) (fr:=[some 1,none]) (by decide +kernel) rfl rfl) (O6 rfl T.z_range (A0 (pv 3) A3)) (fun _ _ _ _ _ _=>(C8 (i:=1) (show List.Nodup (["_law_code","_law_k"]:List Str) by decide +kernel) rfl (Or.inl rfl))) Q3 (fun _ _ _ _ _ _=>Z8) (fun _ _ _ _ _ _=>(zcl (qt9 T) hr T.ym B9 (A0 (pv 0) (A0 (pv 1) A3)))))
  ·walk_at "or"
 refine A5 ?_ ?_
 ·exact(qz4 (i:=7) S.nd rfl rfl rfl (M2 (osc:=B4 X2) (ON:=["_law_deck","_law_code","_law_most","_law_count","_law_sorts_here","_law_hosts","_law_names","_law_soft","_law_may_shut","_law_book_here","_law_k","_law_shuts","_law_host","_law_row_here"]) (N:=["_law_sorts_here","_law_k"]) (fr:=[some 4,none]) (by decide +kernel) rfl rfl) (O6 rfl T.z_range (A0 (pv 3) A3)) (fun _ _ _ _ _ _=>(C8 (i:=1) (show List.Nodup (["_law_sorts_here","_law_k"]:List Str) by decide +kernel) rfl (Or.inl rfl))) Q3 (fun _ _ _ _ _ _=>(ql9 (B5 (qr0 (B7 hr)) (C5 (B1 (B7 hr)) (pv 0) (pv 1) (fun _ _=>rfl)) (C9 (A0 E3 (A0 E3 A3))) (by with_unfolding_all rfl)))) (fun _ _ _ _ _ _=>(pv 1)))
 refine A5 ?_ ?_
 ·exact(qz4 (i:=8) S.nd rfl rfl rfl (M2 (osc:=B4 X2) (ON:=["_law_deck","_law_code","_law_most","_law_count","_law_sorts_here","_law_hosts","_law_names","_law_soft","_law_may_shut","_law_book_here","_law_k","_law_shuts","_law_host","_law_row_here"]) (N:=["_law_names","_law_hosts","_law_k"]) (fr:=[some 6,some 5,none]) (by decide +kernel) rfl rfl) (R0 (pv 7)) (fun _ _ _ _ _ _=>(C8 (i:=2) (show List.Nodup (["_law_names","_law_hosts","_law_k"]:List Str) by decide +kernel) rfl (Or.inl rfl))) Q3 (fun _ _ _ _ _ _=>(ql9 (wk2 rfl (pv 2) (pv 1)))) (fun _ _ _ _ _ _=>(C5 (B1 (B7 hr)) (pv 0) (pv 2) (fun _ _=>rfl))))
 refine A5 ?_ ?_
 ·refine zst (i:=9) S ?_
  exact(N4 A3)
 refine A5 ?_ ?_
 ·refine Q9 PassesOwn.never rfl ?_ ?_ ?_
  ·exact(O6 rfl T.z_range (A0 (pv 3) A3))
  ·exact(C8 (i:=10) S.nd rfl (Or.inl rfl))
  ·refine A5 ?_ ?_
   ·refine zst (i:=11) S ?_
    exact(C9 A3)
   refine A5 ?_ ?_
   ·refine E5 ?_ ?_ ?_
    ·exact(wk2 rfl (pv 10) (pv 5))
    ·refine A9 ?_
     refine zst (i:=11) S ?_
     exact(zcl (wj0 T) hr T.yo B9 (A0 (pv 0) (A0 (pv 8) A3)))
    ·exact B8
   refine A5 ?_ ?_
   ·refine zst (i:=12) S ?_
    exact E3
   refine A5 ?_ ?_
   ·refine E5 ?_ ?_ ?_
    ·exact(B5 (qr0 (B7 hr)) (pv 10) (pv 5) (by with_unfolding_all rfl))
    ·refine A9 ?_
     refine zst (i:=12) S ?_
     exact(C5 (B1 (B7 hr)) (pv 6) (zm6 (B7 hr) (pv 5) (pv 10) (fun _ _=>rfl)) (fun _ _=>rfl))
    ·exact B8
   refine A5 ?_ ?_
   ·refine O0 (i:=13) S.nd rfl (Or.inl rfl) ?_ rfl ?_
    ·refine C9 ?_
     refine A0 ?_ ?_
     ·exact(C5 (B1 (B7 hr)) (pv 6) (pv 10) (fun _ _=>rfl))
     refine A0 ?_ ?_
     ·exact(C5 (B1 (B7 hr)) (pv 4) (pv 10) (fun _ _=>rfl))
     refine A0 ?_ ?_
     ·exact(pv 12)
     refine A0 ?_ ?_
     ·exact(pv 11)
     refine A0 ?_ ?_
     ·refine zcl (wj0 T) hr T.yo B9 ?_
      refine A0 ?_ ?_
      ·exact(pv 0)
      refine A0 ?_ ?_
      ·exact(V5 rfl (M2 (osc:=B4 X2) (ON:=["_law_deck","_law_code","_law_most","_law_count","_law_sorts_here","_law_hosts","_law_names","_law_soft","_law_may_shut","_law_book_here","_law_k","_law_shuts","_law_host","_law_row_here"]) (N:=["_law_names","_law_j"]) (fr:=[some 6,none]) (by decide +kernel) rfl rfl) (R0 (pv 7)) (fun _ _ _ _ _ _=>(C8 (i:=1) (show List.Nodup (["_law_names","_law_j"]:List Str) by decide +kernel) rfl (Or.inl rfl))) Q3 (fun _ _ _ _ _ _=>Z8) (fun _ _ _ _ _ _=>(C5 (B1 (B7 hr)) (pv 0) (pv 1) (fun _ _=>rfl))))
      exact A3
     exact A3
    ·walk_at "or"
   refine A9 ?_
   exact(S0 (qd7 PySem.F.plainAttrs_list PySem.F.slot_list_insert PySem.F.type_list_insert yw3 (pv 9) (A0 (zcl (C4 T) hr T.yl B9 (A0 (pv 0) (A0 (D9 R5 (C7 E7 rfl T.z_len boot_len (A0 (pv 9) A3)) A8) A3))) (A0 (pv 13) A3))))
 refine A9 ?_
 exact(B6 (M8 T4 rfl T.z_tuple boot_tuple (A0 (pv 9) A3)))
theorem qo7(T:Txt K mg t):M0 P w K mg base CX0 3 t.yx.a t.yx.d ["_law_book_here","_law_names","_law_part","_law_ahead"] (Z4 K):=by
 refine T.yx.F.ok wc4 (by walk_at "n") (fun cdv A outer s H vs Q E hr h=>⟨qi7 K,?_,xk0 h⟩)
 have S:=wc4
 refine A5 ?_ ?_
 ·refine zst (i:=4) S ?_
  exact E3
 refine A5 ?_ ?_
 ·refine E5 ?_ ?_ ?_
  ·exact(B5 (O3 (M7 hr)) (pv 1) (C9 A3) (C0 _))
  ·refine A9 ?_
   refine zst (i:=4) S ?_
   exact(C5 (B1 (B7 hr)) (pv 1) (V4 Q0 A8) (fun _ _=>rfl))
  ·exact B8
 refine A5 ?_ ?_
 ·refine zst (i:=5) S ?_
  exact(zcl (T5 T) hr T.yu B9 (A0 (pv 0) (A0 (pv 4) A3)))
 refine A5 ?_ ?_
 ·refine E5 ?_ ?_ ?_
  ·exact(Q8 (C7 I0 rfl T.z_isinstance boot_isinstance (A0 (pv 2) (A0 (S8 rfl T.z_str boot_str rfl) A3))))
  ·refine A5 ?_ ?_
   ·refine E5 ?_ ?_ ?_
    ·exact(B5 (L6 (M7 hr)) (C5 (B1 (B7 hr)) (pv 5) A8 (fun _ _=>rfl)) E3 (C0 _))
    ·refine A9 ?_
     exact(B6 E3)
    ·exact B8
   refine A5 ?_ ?_
   ·refine E5 ?_ ?_ ?_
    ·exact(B5 (L6 (M7 hr)) (pv 2) E3 (C0 _))
    ·refine A9 ?_
     exact(B6 E3)
    ·exact B8
   refine A5 ?_ ?_
   ·refine E5 ?_ ?_ ?_
    ·exact(Q8 (C7 I0 rfl T.z_isinstance boot_isinstance (A0 (pv 3) (A0 (S8 rfl T.z_str boot_str rfl) A3))))
    ·refine A9 ?_
     exact(B6 E3)
    ·exact B8
   refine A9 ?_
   exact(B6 N9)
  ·exact B8
 refine A5 ?_ ?_
 ·exact(qk1 (zcl (T5 T) hr T.yu B9 (A0 (pv 0) (A0 (C5 (B1 (B7 hr)) (pv 2) A8 (fun _ _=>rfl)) A3))) (qk0 rfl (L8 (C8 (i:=6) S.nd rfl (Or.inr rfl)) (L8 (C8 (i:=7) S.nd rfl (Or.inl rfl)) (L8 (C8 (i:=8) S.nd rfl (Or.inl rfl)) (L8 (C8 (i:=9) S.nd rfl (Or.inr rfl)) (L8 (C8 (i:=10) S.nd rfl (Or.inr rfl)) qb3)))))))
 refine A5 ?_ ?_
 ·refine E5 ?_ ?_ ?_
  ·exact(B5 (L6 (M7 hr)) (pv 7) E3 (C0 _))
  ·refine A9 ?_
   exact(B6 E3)
  ·exact B8
 refine A5 ?_ ?_
 ·refine E5 ?_ ?_ ?_
  ·exact(PW.pt (Y7 (B5 (L6 (M7 hr)) (pv 7) E3 (C0 _)) (T7 (B5 qh5 (C7 E7 rfl T.z_len boot_len (A0 (C5 (B1 (B7 hr)) (pv 2) A8 (fun _ _=>rfl)) A3)) A8 (C0 _)))))
  ·refine A9 ?_
   exact(B6 E3)
  ·exact B8
 refine A5 ?_ ?_
 ·refine E5 ?_ ?_ ?_
  ·exact(B5 zc3 (C7 E7 rfl T.z_len boot_len (A0 (pv 1) A3)) A8 (C0 _))
  ·refine A9 ?_
   exact(B6 E3)
  ·exact B8
 refine A5 ?_ ?_
 ·refine E5 ?_ ?_ ?_
  ·exact(PW.pt (Y7 (B5 (L6 (M7 hr)) (C5 (B1 (B7 hr)) (pv 5) A8 (fun _ _=>rfl)) E3 (C0 _)) (T7 (B5 (O3 (M7 hr)) (C5 (B1 (B7 hr)) (pv 5) A8 (fun _ _=>rfl)) (pv 6) (C0 _)))))
  ·refine A9 ?_
   exact(B6 E3)
  ·exact B8
 refine A5 ?_ ?_
 ·exact(qz4 (i:=11) S.nd rfl rfl rfl (M2 (osc:=B4 Y2) (ON:=["_law_book_here","_law_names","_law_part","_law_ahead","_law_above","_law_frame","_law_name_here","_law_sort","_law_host","_law_shuts","_law_bars","_law_frames","_law_near_here"]) (N:=["_law_name_here","_law_row_here"]) (fr:=[some 6,none]) (by decide +kernel) rfl rfl) (R0 (pv 0)) (fun _ _ _ _ _ _=>(C8 (i:=1) (show List.Nodup (["_law_name_here","_law_row_here"]:List Str) by decide +kernel) rfl (Or.inl rfl))) Q3 (fun _ _ _ _ _ _=>(ql9 (B5 (L6 (M7 hr)) (C5 (B1 (B7 hr)) (pv 1) A8 (fun _ _=>rfl)) (pv 0) (C0 _)))) (fun _ _ _ _ _ _=>(C5 (B1 (B7 hr)) (pv 1) A8 (fun _ _=>rfl))))
 refine A5 ?_ ?_
 ·refine E5 ?_ ?_ ?_
  ·exact(PW.pt (Y7 (B5 (O3 (M7 hr)) (pv 11) (N4 A3) (C0 _)) (T7 (B5 (O3 (M7 hr)) (pv 11) (N4 (A0 (pv 4) A3)) (C0 _)))))
  ·refine A9 ?_
   exact(B6 E3)
  ·exact B8
 refine A5 ?_ ?_
 ·refine zst (i:=12) S ?_
  exact(zcl (xz3 T) hr T.yw B9 (A0 (pv 0) (A0 (pv 1) A3)))
 refine A5 ?_ ?_
 ·refine E5 ?_ ?_ ?_
  ·exact(B5 (O3 (M7 hr)) (V5 rfl (M2 (osc:=B4 Y2) (ON:=["_law_book_here","_law_names","_law_part","_law_ahead","_law_above","_law_frame","_law_name_here","_law_sort","_law_host","_law_shuts","_law_bars","_law_frames","_law_near_here"]) (N:=["_law_shuts","_law_one"]) (fr:=[some 9,none]) (by decide +kernel) rfl rfl) (R0 (pv 12)) (fun _ _ _ _ _ _=>(C8 (i:=1) (show List.Nodup (["_law_shuts","_law_one"]:List Str) by decide +kernel) rfl (Or.inl rfl))) Q3 (fun _ _ _ _ _ _=>(ql9 (B5 (qr0 (B7 hr)) (pv 1) (pv 0) (by with_unfolding_all rfl)))) (fun _ _ _ _ _ _=>(pv 1))) (N4 A3) (C0 _))
  ·refine A9 ?_
   exact(B6 E3)
  ·exact B8
 refine A5 ?_ ?_
 ·refine E5 ?_ ?_ ?_
  ·exact(B5 (O3 (M7 hr)) (V5 rfl (M2 (osc:=B4 Y2) (ON:=["_law_book_here","_law_names","_law_part","_law_ahead","_law_above","_law_frame","_law_name_here","_law_sort","_law_host","_law_shuts","_law_bars","_law_frames","_law_near_here"]) (N:=["_law_bars","_law_one"]) (fr:=[some 10,none]) (by decide +kernel) rfl rfl) (R0 (pv 12)) (fun _ _ _ _ _ _=>(C8 (i:=1) (show List.Nodup (["_law_bars","_law_one"]:List Str) by decide +kernel) rfl (Or.inl rfl))) Q3 (fun _ _ _ _ _ _=>(ql9 (B5 (qr0 (B7 hr)) (pv 1) (pv 0) (by with_unfolding_all rfl)))) (fun _ _ _ _ _ _=>(pv 1))) (N4 A3) (C0 _))
  ·refine A9 ?_
   exact(B6 E3)
  ·exact B8
 refine A9 ?_
 exact(B6 N9)
theorem xh0(T:Txt K mg t):M0 P w K mg base CX0 4 t.zi.a t.zi.d ["tree","place"] (qk8 K):=by
 refine T.zi.F.ok qt7 (by walk_at "n") (fun cdv A outer s H vs Q E hr h=>⟨wa0 K,?_,yn1 h⟩)
 have S:=qt7
 refine A9 ?_
 exact(B6 (C5 (B1 (B7 hr)) (zcl (wo9 T) hr T.zk B9 (A0 (pv 0) (A0 (pv 1) A3))) (V4 Q0 A8) (fun _ _=>rfl)))
theorem yh1(T:Txt K mg t):M0 P w K mg base (Fly P w) 4 t.zi.a t.zi.d ["tree","place"] (qn3 K t.k_NoPlace):=by
 refine T.zi.F.okX qt7 (by walk_at "n") (fun cdv A outer s H vs Q E hr h=>⟨qs5 K t.k_NoPlace E,?_,yg0 h⟩)
 have S:=qt7
 refine A9 ?_
 exact(B6 (C5 (B1 (B7 hr)) (zcl (yo1 T) hr T.zk qb1 (A0 (pv 0) (A0 (pv 1) A3))) (V4 Q0 A8) (fun _ _=>rfl)))
theorem xh1(T:Txt K mg t):M0 P w K mg base CX0 4 t.zj.a t.zj.d ["tree","place"] (qc2 K):=by
 refine T.zj.F.ok qy6 (by walk_at "n") (fun cdv A outer s H vs Q E hr h=>⟨qf2 K,?_,wz8 h⟩)
 have S:=qy6
 refine A9 ?_
 refine B6 ?_
 exact(M8 T4 rfl T.z_tuple boot_tuple (A0 (V5 rfl (M2 (osc:=B4 qg4) (ON:=["tree","place"]) (N:=["above"]) (fr:=[none]) (by decide +kernel) rfl rfl) (R0 (N5 yj6 (zcl (wo9 T) hr T.zk B9 (A0 (pv 0) (A0 (pv 1) A3))) (O5 A8) (O5 (V4 Q0 A8)))) (fun _ _ _ _ _ _=>(C8 (i:=0) (show List.Nodup (["above"]:List Str) by decide +kernel) rfl (Or.inl rfl))) Q3 (fun _ _ _ _ _ _=>Z8) (fun _ _ _ _ _ _=>(zcl (qe8 T) hr T.zg B9 (A0 (pv 0) A3)))) A3))
theorem wu5(T:Txt K mg t):M0 P w K mg base CX0 4 t.zm.a t.zm.d ["tree"] (qa0 K):=by
 refine T.zm.F.ok qu4 (by walk_at "n") (fun cdv A outer s H vs Q E hr h=>⟨qb8 K,?_,wr3 h⟩)
 have S:=qu4
 refine A5 ?_ ?_
 ·refine zst (i:=1) S ?_
  exact(N4 A3)
 refine A5 ?_ ?_
 ·refine zst (i:=2) S ?_
  exact(N4 (A0 (C9 (A0 (C9 A3) (A0 (pv 0) A3))) A3))
 refine A5 ?_ ?_
 ·refine wv7 PassesOwn.never ?_ ?_
  ·exact(B5 qh5 (C7 E7 rfl T.z_len boot_len (A0 (pv 2) A3)) A8 (C0 _))
  ·refine A5 ?_ ?_
   ·refine zst (i:=3) S ?_
    exact(za5 PySem.F.plainAttrs_list PySem.F.slot_list_pop PySem.F.type_list_pop za6 (pv 2))
   refine A5 ?_ ?_
   ·exact(S0 (qd7 PySem.F.plainAttrs_list PySem.F.slot_list_append PySem.F.type_list_append P4 (pv 1) (A0 (pv 3) A3)))
   refine A9 ?_
   exact(S0 (qd7 PySem.F.plainAttrs_list PySem.F.slot_list_extend PySem.F.type_list_extend yv5 (pv 2) (A0 (zcl (xg8 T) hr T.zn B9 (A0 (C5 (B1 (B7 hr)) (pv 3) A8 (fun _ _=>rfl)) (A0 (C5 (B1 (B7 hr)) (pv 3) A8 (fun _ _=>rfl)) A3))) A3)))
 refine A9 ?_
 exact(B6 (pv 1))
theorem yo2(T:Txt K mg t):M0 P w K mg base CX0 4 t.zr.a t.zr.d ["book","names"] (qr8 K):=by
 refine T.zr.F.ok xg2 (by walk_at "n") (fun cdv A outer s H vs Q E hr h=>⟨qz8 K,?_,ym5 h⟩)
 have S:=xg2
 refine A5 ?_ ?_
 ·refine zst (i:=2) S ?_
  exact A8
 refine A5 ?_ ?_
 ·refine Q9 PassesOwn.never rfl ?_ ?_ ?_
  ·exact(ze1 rfl T.z_enumerate (A0 (pv 1) A3))
  ·exact(qk0 rfl (L8 (C8 (i:=3) S.nd rfl (Or.inl rfl)) (L8 (C8 (i:=4) S.nd rfl (Or.inl rfl)) qb3)))
  ·refine A9 ?_
   refine E5 ?_ ?_ ?_
   ·exact(Q8 (zcl (yo0 T) hr T.zc B9 (A0 (pv 0) (A0 (pv 4) A3))))
   ·refine A9 ?_
    refine zst (i:=2) S ?_
    exact(D9 L9 (pv 3) A8)
   ·exact B8
 refine A9 ?_
 exact(B6 (M8 T4 rfl T.z_tuple boot_tuple (A0 (N5 Q4 (pv 1) (O5 (pv 2)) P0) A3)))
theorem xo6(T:Txt K mg t):M0 P w K mg base CX0 4 t.yh.a t.yh.d ["tree","place","parts"] (Z6 K):=by
 refine T.yh.F.ok wc2 (by walk_at "n") (fun cdv A outer s H vs Q E hr h=>⟨qj0 K,?_,xn0 h⟩)
 have S:=wc2
 refine A5 ?_ ?_
 ·refine zst (i:=3) S ?_
  exact(zcl (wo9 T) hr T.zk B9 (A0 (pv 0) (A0 (pv 1) A3)))
 refine A5 ?_ ?_
 ·refine O0 (i:=4) S.nd rfl (Or.inl rfl) ?_ rfl ?_
  ·refine C9 ?_
   refine A0 ?_ ?_
   ·refine zcl (qe8 T) hr T.zg B9 ?_
    refine A0 ?_ ?_
    ·exact(C5 (B1 (B7 hr)) (pv 3) (V4 Q0 A8) (fun _ _=>rfl))
    exact A3
   refine A0 ?_ ?_
   ·exact(pv 2)
   exact A3
  ·walk_at "or"
 refine A5 ?_ ?_
 ·refine Q9 PassesOwn.never rfl ?_ ?_ ?_
  ·exact(xq7 rfl T.z_range (A0 (D9 qh3 (C7 E7 rfl T.z_len boot_len (A0 (pv 1) A3)) A8) (A0 (V4 Q0 A8) (A0 (V4 Q0 A8) A3))))
  ·exact(C8 (i:=5) S.nd rfl (Or.inl rfl))
  ·refine A5 ?_ ?_
   ·refine zst (i:=6) S ?_
    exact(C5 (B1 (B7 hr)) (pv 1) (pv 5) (fun _ _=>rfl))
   refine A5 ?_ ?_
   ·refine zst (i:=7) S ?_
    exact(zcl (X5 T) hr T.zh B9 (A0 (C5 (B1 (B7 hr)) (pv 3) (pv 5) (fun _ _=>rfl)) A3))
   refine A9 ?_
   refine O0 (i:=4) S.nd rfl (Or.inl rfl) ?_ rfl ?_
   ·refine C9 ?_
    refine A0 ?_ ?_
    ·exact(zcl (qe8 T) hr T.zg B9 (A0 (C5 (B1 (B7 hr)) (pv 3) (pv 5) (fun _ _=>rfl)) A3))
    refine A0 ?_ ?_
    ·exact(D9 L9 (D9 L9 (N5 Q4 (pv 7) P0 (O5 (pv 6))) (C9 (A0 (pv 4) A3))) (N5 Q4 (pv 7) (O5 (D9 L9 (pv 6) A8)) P0))
    exact A3
   ·walk_at "or"
 refine A9 ?_
 exact(B6 (pv 4))
theorem wc9 (T:Txt K mg t):∀ n:Nat,M0 P w K mg base CX0 (3+n) t.yt.a t.yt.d ["_law_deck","_law_book_here","_law_code","_law_deep"] (Z5 n K)
 | 0 => by
   have FR:M0 P w K mg base CX0 2 t.yt.a t.yt.d ["_law_deck","_law_book_here","_law_code","_law_deep"] (T0 K 0):=⟨fun _ _ _ _ h=>h.elim,fun _ _ _ _ _ _ _ _ _ _ _ _ _ h=>h.elim⟩
   refine T.yt.F.ok (k:=2) qj5 (by walk_at "n") (fun cdv A outer s H vs Q E hr h=>⟨qh1 K (T0 K 0),?_,wh2 0 h⟩)
   have S:=qj5
   refine A5 ?_ ?_
   ·refine O0 (i:=4) S.nd rfl (Or.inl rfl) ?_ rfl ?_
    ·refine D9 Z9 ?_ ?_
     ·refine zcl (qt9 T) hr T.ym B9 ?_
      refine A0 ?_ ?_
      ·exact(pv 2)
      refine A0 ?_ ?_
      ·exact(zcl (C4 T) hr T.yl B9 (A0 (pv 0) (A0 A8 A3)))
      exact A3
     ·exact(M8 X7 rfl T.z_int boot_int (A0 (T8 (O3 (M7 hr)) (zcl (C4 T) hr T.yl B9 (A0 (pv 0) (A0 A8 A3))) A8 (C0 _)) A3))
    ·walk_at "or"
   refine A5 ?_ ?_
   ·refine E5 ?_ ?_ ?_
    ·exact(B5 qh5 (zcl (C4 T) hr T.yl B9 (A0 (pv 0) (A0 A8 A3))) A8 (C0 _))
    ·refine A9 ?_
     refine O0 (i:=4) S.nd rfl (Or.inl rfl) ?_ rfl ?_
     ·refine C5 ?_ ?_ ?_ ?_
      ·exact B1 (B7 hr)
      ·refine C5 ?_ ?_ ?_ ?_
       ·exact B1 (B7 hr)
       ·exact(pv 1)
       ·refine zcl (C4 T) hr T.yl B9 ?_
        refine A0 ?_ ?_
        ·exact(pv 0)
        refine A0 ?_ ?_
        ·exact(C7 E7 rfl T.z_len boot_len (A0 (pv 1) A3))
        exact A3
       ·exact fun _ _=>rfl
      ·exact A8
      ·exact fun _ _=>rfl
     ·walk_at "or"
    ·exact B8
   refine A5 ?_ ?_
   ·refine zst (i:=5) S ?_
    exact(N4 A3)
   refine A5 ?_ ?_
   ·refine E5 ?_ ?_ ?_
    ·exact(B5 qh5 (pv 3) A8 (C0 _))
    ·refine A9 ?_
     refine Q9 PassesOwn.never rfl ?_ ?_ ?_
     ·exact(O6 rfl T.z_range (A0 (zcl (C4 T) hr T.yl B9 (A0 (pv 0) (A0 A8 A3))) A3))
     ·exact(C8 (i:=6) S.nd rfl (Or.inl rfl))
     ·refine A9 ?_
      refine E5 ?_ ?_ ?_
      ·exact(B5 (L6 (M7 hr)) (zcl (C4 T) hr T.yl B9 (A0 (pv 0) (A0 A8 A3))) A8 (C0 _))
      ·refine A9 ?_
       exact(S0 (qd7 PySem.F.plainAttrs_list PySem.F.slot_list_append PySem.F.type_list_append P4 (pv 5) (A0 (D9 Z9 (zcl (Y3 T) hr T.yq B9 (A0 (pv 0) A3)) (M8 X7 rfl T.z_int boot_int (A0 (T8 (O3 (M7 hr)) (zcl (C4 T) hr T.yl B9 (A0 (pv 0) (A0 A8 A3))) A8 (C0 _)) A3))) A3)))
      ·refine A9 ?_
       exact(S0 (qd7 PySem.F.plainAttrs_list PySem.F.slot_list_append PySem.F.type_list_append P4 (pv 5) (A0 (zcl FR hr T.yt B9 (A0 (pv 0) (A0 (pv 1) (A0 (pv 2) (A0 (D9 qh3 (pv 3) A8) A3))))) A3)))
    ·exact B8
   refine A9 ?_
   exact(B6 (C9 (A0 (pv 4) (A0 (M8 T4 rfl T.z_tuple boot_tuple (A0 (pv 5) A3)) A3))))
 | n + 1=>by
   have FR:M0 P w K mg base CX0 (3+n) t.yt.a t.yt.d ["_law_deck","_law_book_here","_law_code","_law_deep"] (T0 K (n+1)):=wc9 T n
   refine T.yt.F.ok (k:=(3+n)) qj5 (by walk_at "n") (fun cdv A outer s H vs Q E hr h=>⟨qh1 K (T0 K (n+1)),?_,wh2 (n+1) h⟩)
   have S:=qj5
   refine A5 ?_ ?_
   ·refine O0 (i:=4) S.nd rfl (Or.inl rfl) ?_ rfl ?_
    ·refine D9 Z9 ?_ ?_
     ·refine zcl (qt9 T) hr T.ym B9 ?_
      refine A0 ?_ ?_
      ·exact(pv 2)
      refine A0 ?_ ?_
      ·exact(zcl (C4 T) hr T.yl B9 (A0 (pv 0) (A0 A8 A3)))
      exact A3
     ·exact(M8 X7 rfl T.z_int boot_int (A0 (T8 (O3 (M7 hr)) (zcl (C4 T) hr T.yl B9 (A0 (pv 0) (A0 A8 A3))) A8 (C0 _)) A3))
    ·walk_at "or"
   refine A5 ?_ ?_
   ·refine E5 ?_ ?_ ?_
    ·exact(B5 qh5 (zcl (C4 T) hr T.yl B9 (A0 (pv 0) (A0 A8 A3))) A8 (C0 _))
    ·refine A9 ?_
     refine O0 (i:=4) S.nd rfl (Or.inl rfl) ?_ rfl ?_
     ·refine C5 ?_ ?_ ?_ ?_
      ·exact B1 (B7 hr)
      ·refine C5 ?_ ?_ ?_ ?_
       ·exact B1 (B7 hr)
       ·exact(pv 1)
       ·refine zcl (C4 T) hr T.yl B9 ?_
        refine A0 ?_ ?_
        ·exact(pv 0)
        refine A0 ?_ ?_
        ·exact(C7 E7 rfl T.z_len boot_len (A0 (pv 1) A3))
        exact A3
       ·exact fun _ _=>rfl
      ·exact A8
      ·exact fun _ _=>rfl
     ·walk_at "or"
    ·exact B8
   refine A5 ?_ ?_
   ·refine zst (i:=5) S ?_
    exact(N4 A3)
   refine A5 ?_ ?_
   ·refine E5 ?_ ?_ ?_
    ·exact(B5 qh5 (pv 3) A8 (C0 _))
    ·refine A9 ?_
     refine Q9 PassesOwn.never rfl ?_ ?_ ?_
     ·exact(O6 rfl T.z_range (A0 (zcl (C4 T) hr T.yl B9 (A0 (pv 0) (A0 A8 A3))) A3))
     ·exact(C8 (i:=6) S.nd rfl (Or.inl rfl))
     ·refine A9 ?_
      refine E5 ?_ ?_ ?_
      ·exact(B5 (L6 (M7 hr)) (zcl (C4 T) hr T.yl B9 (A0 (pv 0) (A0 A8 A3))) A8 (C0 _))
      ·refine A9 ?_
       exact(S0 (qd7 PySem.F.plainAttrs_list PySem.F.slot_list_append PySem.F.type_list_append P4 (pv 5) (A0 (D9 Z9 (zcl (Y3 T) hr T.yq B9 (A0 (pv 0) A3)) (M8 X7 rfl T.z_int boot_int (A0 (T8 (O3 (M7 hr)) (zcl (C4 T) hr T.yl B9 (A0 (pv 0) (A0 A8 A3))) A8 (C0 _)) A3))) A3)))
      ·refine A9 ?_
       exact(S0 (qd7 PySem.F.plainAttrs_list PySem.F.slot_list_append PySem.F.type_list_append P4 (pv 5) (A0 (zcl FR hr T.yt B9 (A0 (pv 0) (A0 (pv 1) (A0 (pv 2) (A0 (D9 qh3 (pv 3) A8) A3))))) A3)))
    ·exact B8
   refine A9 ?_
   exact(B6 (C9 (A0 (pv 4) (A0 (M8 T4 rfl T.z_tuple boot_tuple (A0 (pv 5) A3)) A3))))
theorem xz5(T:Txt K mg t):M0 P w K mg base CX0 4 t.yt.a t.yt.d ["_law_deck","_law_book_here","_law_code","_law_deep"] (wh1 K):=wc9 T 1
theorem xh2(T:Txt K mg t):M0 P w K mg base CX0 4 t.yy.a t.yy.d ["_law_book_here","_law_tree_here"] (qd1 K):=by
 refine T.yy.F.ok qy9 (by walk_at "n") (fun cdv A outer s H vs Q E hr h=>⟨qg0 K,?_,xe3 h⟩)
 have S:=qy9
 refine A5 ?_ ?_
 ·refine zst (i:=2) S ?_
  exact(N4 A3)
 refine A5 ?_ ?_
 ·refine zst (i:=3) S ?_
  exact(zcl (wi9 T) hr T.yr B9 (A0 (pv 1) A3))
 refine A5 ?_ ?_
 ·refine zst (i:=4) S ?_
  exact zb6
 refine A5 ?_ ?_
 ·refine Q9 PassesOwn.never rfl ?_ ?_ ?_
  ·exact(R0 (pv 3))
  ·exact(qk0 rfl (L8 (C8 (i:=5) S.nd rfl (Or.inl rfl)) (L8 (C8 (i:=6) S.nd rfl (Or.inl rfl)) (L8 (C8 (i:=7) S.nd rfl (Or.inl rfl)) qb3))))
  ·refine A5 ?_ ?_
   ·exact(qk1 (pv 7) (xs5 (pv 4) (pv 5) (wf8 (B7 hr))))
   refine A9 ?_
   refine E5 ?_ ?_ ?_
   ·exact(B5 (O3 (M7 hr)) (pv 5) (C9 A3) (C0 _))
   ·refine A5 ?_ ?_
    ·refine zst (i:=8) S ?_
     exact(zb7 (B7 hr) (pv 4) (D9 L9 (N5 Q4 (pv 5) P0 (O5 (V4 Q0 A8))) (C9 (A0 (D9 qh3 (C5 (B1 (B7 hr)) (pv 5) (V4 Q0 A8) (fun _ _=>rfl)) A8) A3))) m1)
    refine A9 ?_
    exact(S0 (qd7 PySem.F.plainAttrs_list PySem.F.slot_list_append PySem.F.type_list_append P4 (pv 2) (A0 (C9 (A0 (zcl (qo7 T) hr T.yx B9 (A0 (pv 0) (A0 (pv 6) (A0 (pv 7) (A0 (pv 8) A3))))) (A0 (pv 5) A3))) A3)))
   ·exact B8
 refine A9 ?_
 exact(B6 (pv 2))
theorem xz6(T:Txt K mg t):M0 P w K mg base CX0 5 t.zl.a t.zl.d ["tree"] (qi2 K):=by
 refine T.zl.F.ok wi0 (by walk_at "n") (fun cdv A outer s H vs Q E hr h=>⟨qm5 K,?_,xv6 h⟩)
 have S:=wi0
 refine A9 ?_
 refine B6 ?_
 exact(V5 rfl (M2 (osc:=B4 qn8) (ON:=["tree"]) (N:=["place","part"]) (fr:=[none,none]) (by decide +kernel) rfl rfl) (R0 (zcl (wu5 T) hr T.zm B9 (A0 (pv 0) A3))) (fun _ _ _ _ _ _=>(qk0 rfl (L8 (C8 (i:=0) (show List.Nodup (["place","part"]:List Str) by decide +kernel) rfl (Or.inl rfl)) (L8 (C8 (i:=1) (show List.Nodup (["place","part"]:List Str) by decide +kernel) rfl (Or.inl rfl)) qb3)))) (zy8 (yp4 rfl (yp4 rfl zy7))) (fun _ _ _ _ _ _=>Z8) (fun _ _ _ _ _ _=>(pv 0)))
theorem wu6(T:Txt K mg t):M0 P w K mg base CX0 5 t.zv.a t.zv.d ["tree","place"] (qa2 K):=by
 refine T.zv.F.ok qu5 (by walk_at "n") (fun cdv A outer s H vs Q E hr h=>⟨qc5 K,?_,ws1 h⟩)
 have S:=qu5
 refine A5 ?_ ?_
 ·refine zst (i:=2) S ?_
  exact(C5 (B1 (B7 hr)) (pv 1) (V4 Q0 A8) (fun _ _=>rfl))
 refine A9 ?_
 exact(B6 (wv5 (T8 qh5 (pv 2) A8 (C0 _)) (wv4 (zcl (qt8 T) hr T.zf B9 (A0 (zcl (xh0 T) hr T.zi B9 (A0 (pv 0) (A0 (D9 L9 (N5 Q4 (pv 1) P0 (O5 (V4 Q0 A8))) (C9 (A0 (D9 qh3 (pv 2) A8) A3))) A3))) A3)))))
theorem xo7(T:Txt K mg t):M0 P w K mg base CX0 5 t.zz.a t.zz.d ["book","names","name"] (qf5 K):=by
 refine T.zz.F.ok wc1 (by walk_at "n") (fun cdv A outer s H vs Q E hr h=>⟨qi4 K,?_,xj4 h⟩)
 have S:=wc1
 refine A5 ?_ ?_
 ·refine zst (i:=3) S ?_
  exact(zcl (wo8 T) hr T.za B9 (A0 (pv 0) (A0 (pv 2) A3)))
 refine A5 ?_ ?_
 ·refine zst (i:=4) S ?_
  exact(zcl (yo2 T) hr T.zr B9 (A0 (pv 0) (A0 (pv 1) A3)))
 refine A5 ?_ ?_
 ·refine E5 ?_ ?_ ?_
  ·exact(Q8 (zcl (qv0 T) hr T.ya B9 (A0 (pv 4) (A0 (C5 (B1 (B7 hr)) (pv 3) (O9 rfl T.g_SHUTS.1 T.g_SHUTS.2) (fun _ _=>rfl)) A3))))
  ·refine A9 ?_
   exact(B6 E3)
  ·exact B8
 refine A9 ?_
 exact(B6 (qo9 (Q8 (zcl (qv0 T) hr T.ya B9 (A0 (pv 4) (A0 (C5 (B1 (B7 hr)) (pv 3) (O9 rfl T.g_BARS.1 T.g_BARS.2) (fun _ _=>rfl)) A3)))) E3 N9))
theorem wp0(T:Txt K mg t):M0 P w K mg base (Fly P w) 5 t.yg.a t.yg.d ["tree","place","beyond"] (Y0 K t.k_NoPlace):=by
 refine T.yg.F.okX qu7 (by walk_at "n") (fun cdv A outer s H vs Q E hr h=>⟨qa3 K t.k_NoPlace E,?_,wm7 h⟩)
 have S:=qu7
 refine A5 ?_ ?_
 ·refine E5 ?_ ?_ ?_
  ·exact(B5 (L6 (M7 hr)) (C7 E7 rfl T.z_len boot_len (A0 (pv 1) A3)) A8 (C0 _))
  ·refine A9 ?_
   exact(wy6 wk3 rfl T.x_NoPlace rfl (A0 E3 A3))
  ·exact B8
 refine A5 ?_ ?_
 ·refine zst (i:=3) S ?_
  exact(zcl (yh1 T) hr T.zi qb1 (A0 (pv 0) (A0 (N5 Q4 (pv 1) P0 (O5 (V4 Q0 A8))) A3)))
 refine A5 ?_ ?_
 ·refine E5 ?_ ?_ ?_
  ·exact(PW.pt (wp1 (Q8 (zcl (qt8 T) hr T.zf B9 (A0 (pv 3) A3))) (wj4 (qd8 (ww0 yj2 ww9 A8 (C5 (B1 (B7 hr)) (pv 1) (V4 Q0 A8) (fun _ _=>rfl)) (D9 L9 (C7 E7 rfl T.z_len boot_len (A0 (zcl (X5 T) hr T.zh B9 (A0 (pv 3) A3)) A3)) (pv 2)))))))
  ·refine A9 ?_
   exact(wy6 wk3 rfl T.x_NoPlace rfl (A0 E3 A3))
  ·exact B8
 refine A9 ?_
 exact(B6 (zcl (X5 T) hr T.zh B9 (A0 (pv 3) A3)))
theorem wd0(T:Txt K mg t):M0 P w K mg base CX0 5 t.xc.a t.xc.d ["_law_book_here","_law_tree_here"] (Z7 K):=by
 refine T.xc.F.ok wc5 (by walk_at "n") (fun cdv A outer s H vs Q E hr h=>⟨qj1 K,?_,xo0 h⟩)
 have S:=wc5
 refine A5 ?_ ?_
 ·refine Q9 PassesOwn.never rfl ?_ ?_ ?_
  ·exact(R0 (zcl (xh2 T) hr T.yy B9 (A0 (pv 0) (A0 (pv 1) A3))))
  ·exact(qk0 rfl (L8 (C8 (i:=2) S.nd rfl (Or.inl rfl)) (L8 (C8 (i:=3) S.nd rfl (Or.inl rfl)) qb3)))
  ·refine A9 ?_
   refine E5 ?_ ?_ ?_
   ·exact(B5 qj6 (pv 2) N9 (C0 _))
   ·refine A9 ?_
    exact(B6 (C9 (A0 (pv 2) (A0 (pv 3) A3))))
   ·exact B8
 refine A9 ?_
 exact(B6 N9)
theorem xo8(T:Txt K mg t):M0 P w K mg base CX0 6 t.zx.a t.zx.d ["book","names","tree"] (qf6 K):=by
 refine T.zx.F.ok wc0 (by walk_at "n") (fun cdv A outer s H vs Q E hr h=>⟨qi5 K,?_,xj5 h⟩)
 have S:=wc0
 refine A5 ?_ ?_
 ·refine O0 (i:=3) S.nd rfl (Or.inl rfl) ?_ rfl ?_
  ·refine zcl (xg5 T) hr T.zb B9 ?_
   refine A0 ?_ ?_
   ·exact(pv 0)
   refine A0 ?_ ?_
   ·exact(zcl (qe8 T) hr T.zg B9 (A0 (pv 2) A3))
   exact A3
  ·walk_at "or"
 refine A5 ?_ ?_
 ·refine E5 ?_ ?_ ?_
  ·exact(B5 qv9 (pv 3) N9 (C0 _))
  ·refine A9 ?_
   exact(B6 E3)
  ·exact B8
 refine A5 ?_ ?_
 ·refine E5 ?_ ?_ ?_
  ·exact(PW.pt (Y7 (B5 (L6 (M7 hr)) (pv 3) E3 (C0 _)) (T7 (B5 qh5 (C7 E7 rfl T.z_len boot_len (A0 (zcl (X5 T) hr T.zh B9 (A0 (pv 2) A3)) A3)) A8 (C0 _)))))
  ·refine A9 ?_
   exact(B6 E3)
  ·exact B8
 refine A5 ?_ ?_
 ·refine E5 ?_ ?_ ?_
  ·exact(B5 qh5 (C7 E7 rfl T.z_len boot_len (A0 (pv 1) A3)) (O9 rfl T.g_MOST_ABOVE.1 T.g_MOST_ABOVE.2) (C0 _))
  ·refine A9 ?_
   exact(B6 E3)
  ·exact B8
 refine A9 ?_
 refine B6 ?_
 exact(Ab2 (zcl (xg9 T) hr T.zy B9 (A0 (pv 0) (A0 (pv 1) (A0 (zcl (qe8 T) hr T.zg B9 (A0 (pv 2) A3)) A3)))) (wv4 (zcl (xo7 T) hr T.zz B9 (A0 (pv 0) (A0 (pv 1) (A0 (zcl (qe8 T) hr T.zg B9 (A0 (pv 2) A3)) A3))))))
theorem yh2(T:Txt K mg t):M0 P w K mg base CX0 7 t.zu.a t.zu.d ["book","tree","place"] (qm6 K):=by
 refine T.zu.F.ok wq2 (by walk_at "n") (fun cdv A outer s H vs Q E hr h=>⟨qs0 K,?_,ye2 h⟩)
 have S:=wq2
 refine A5 ?_ ?_
 ·refine zst (i:=3) S ?_
  exact(zcl (xh0 T) hr T.zi B9 (A0 (pv 1) (A0 (pv 2) A3)))
 refine A5 ?_ ?_
 ·refine zst (i:=4) S ?_
  exact(zcl (xh1 T) hr T.zj B9 (A0 (pv 1) (A0 (pv 2) A3)))
 refine A5 ?_ ?_
 ·refine E5 ?_ ?_ ?_
  ·exact(Q8 (zcl (qt8 T) hr T.zf B9 (A0 (pv 3) A3)))
  ·refine A9 ?_
   exact(B6 (zcl (xo5 T) hr T.zw B9 (A0 (pv 0) (A0 (pv 4) (A0 (pv 3) (A0 (zcl (wu6 T) hr T.zv B9 (A0 (pv 1) (A0 (pv 2) A3))) A3))))))
  ·exact B8
 refine A9 ?_
 exact(B6 (zcl (xo8 T) hr T.zx B9 (A0 (pv 0) (A0 (pv 4) (A0 (pv 3) A3)))))
theorem yh3(T:Txt K mg t):M0 P w K mg base CX0 8 t.zt.a t.zt.d ["book","tree"] (qm7 K):=by
 refine T.zt.F.ok wq1 (by walk_at "n") (fun cdv A outer s H vs Q E hr h=>⟨qs1 K,?_,ye6 h⟩)
 have S:=wq1
 refine A5 ?_ ?_
 ·refine Q9 PassesOwn.never rfl ?_ ?_ ?_
  ·exact(R0 (zcl (xz6 T) hr T.zl B9 (A0 (pv 1) A3)))
  ·exact(C8 (i:=2) S.nd rfl (Or.inl rfl))
  ·refine A5 ?_ ?_
   ·refine zst (i:=3) S ?_
    exact(qo9 (B5 (L6 (M7 hr)) (pv 2) (C9 A3) (C0 _)) N9 (zcl (yh2 T) hr T.zu B9 (A0 (pv 0) (A0 (pv 1) (A0 (pv 2) A3)))))
   refine A9 ?_
   refine E5 ?_ ?_ ?_
   ·exact(B5 qj6 (pv 3) N9 (C0 _))
   ·refine A9 ?_
    exact(B6 (C9 (A0 (pv 3) (A0 (pv 2) A3))))
   ·exact B8
 refine A9 ?_
 exact(B6 N9)
theorem yh4(T:Txt K mg t):M0 P w K mg base (Fly P w) 9 t.yj.a t.yj.d ["book","tree"] (qh2 K t.k_NoFit):=by
 refine T.yj.F.okX xg3 (by walk_at "n") (fun cdv A outer s H vs Q E hr h=>⟨qs6 K t.k_NoFit E,?_,yg2 T.se_NoFit_rule T.se_NoFit_place h⟩)
 have S:=xg3
 refine A5 ?_ ?_
 ·refine zst (i:=2) S ?_
  exact(zcl (yh3 T) hr T.zt B9 (A0 (pv 0) (A0 (pv 1) A3)))
 refine A5 ?_ ?_
 ·refine E5 ?_ ?_ ?_
  ·exact(B5 qj6 (pv 2) N9 (C0 _))
  ·refine A9 ?_
   exact(yy2 T.m_i_NoFit (yn9 T) (hr.mono (by walk_at "le")) T.b_i_NoFit yk8 rfl rfl (A0 (C5 (B1 (B7 hr)) (pv 2) A8 (fun _ _=>rfl)) (A0 (C5 (B1 (B7 hr)) (pv 2) A8 (fun _ _=>rfl)) A3)))
  ·exact B8
 refine A9 ?_
 exact(B6 (pv 1))
theorem yo3(T:Txt K mg t):M0 P w K mg base (Fly P w) 10 t.yc.a t.yc.d ["book","tree","place","bit"] (qs7 K t.k_NoPlace t.k_NoFit):=by
 refine T.yc.F.okX xs3 (by walk_at "n") (fun cdv A outer s H vs Q E hr h=>⟨wa3 K t.k_NoPlace t.k_NoFit E,?_,yn7 T.se_NoFit_rule T.se_NoFit_place h⟩)
 have S:=xs3
 refine A5 ?_ ?_
 ·refine zst (i:=4) S ?_
  exact(zcl (wp0 T) hr T.yg qb1 (A0 (pv 1) (A0 (pv 2) (A0 A8 A3))))
 refine A5 ?_ ?_
 ·refine zst (i:=5) S ?_
  exact(C5 (B1 (B7 hr)) (pv 2) (V4 Q0 A8) (fun _ _=>rfl))
 refine A9 ?_
 refine B6 ?_
 refine zcl (yh4 T) hr T.yj qb1 ?_
 refine A0 ?_ ?_
 ·exact(pv 0)
 refine A0 ?_ ?_
 ·refine zcl (xo6 T) hr T.yh B9 ?_
  refine A0 ?_ ?_
  ·exact(pv 1)
  refine A0 ?_ ?_
  ·exact(N5 Q4 (pv 2) P0 (O5 (V4 Q0 A8)))
  refine A0 ?_ ?_
  ·exact(D9 L9 (D9 L9 (N5 Q4 (pv 4) P0 (O5 (pv 5))) (C9 (A0 (pv 3) A3))) (N5 Q4 (pv 4) (O5 (pv 5)) P0))
  exact A3
 exact A3
theorem xo9(T:Txt K mg t):M0 P w K mg base (Fly P w) 10 t.yd.a t.yd.d ["book","tree","place"] (wb8 K t.k_NoPlace t.k_NoFit):=⟨fun _ _ _ _ h=>h.elim,fun _ _ _ _ _ _ _ _ _ _ _ _ _ h=>h.elim⟩
theorem xh3(T:Txt K mg t):M0 P w K mg base (Fly P w) 10 t.ye.a t.ye.d ["book","tree","place","stop","name"] (qx9 K t.k_NoPlace t.k_NoFit):=⟨fun _ _ _ _ h=>h.elim,fun _ _ _ _ _ _ _ _ _ _ _ _ _ h=>h.elim⟩
theorem yo4(T:Txt K mg t):M0 P w K mg base (Fly P w) 10 t.yf.a t.yf.d ["book","tree","place"] (xe1 K t.k_NoPlace t.k_NoFit):=⟨fun _ _ _ _ h=>h.elim,fun _ _ _ _ _ _ _ _ _ _ _ _ _ h=>h.elim⟩
theorem qz1 (T:Txt K mg t):∀ n:Nat,M0 P w K mg base CX0 (4+n) t.yz.a t.yz.d ["_law_deck","_law_book_here","_law_names","_law_deep"] (W9 n K)
 | 0 => by
   have FR:M0 P w K mg base CX0 3 t.yz.a t.yz.d ["_law_deck","_law_book_here","_law_names","_law_deep"] (R8 K 0):=⟨fun _ _ _ _ h=>h.elim,fun _ _ _ _ _ _ _ _ _ _ _ _ _ h=>h.elim⟩
   refine T.yz.F.ok (k:=3) qg6 (by walk_at "n") (fun cdv A outer s H vs Q E hr h=>⟨qc9 K (R8 K 0),?_,wb7 0 h⟩)
   have S:=qg6
   refine A5 ?_ ?_
   ·refine zst (i:=4) S ?_
    exact(N4 A3)
   refine A5 ?_ ?_
   ·refine zst (i:=5) S ?_
    exact(C9 (A0 E3 (A0 E3 (A0 E3 (A0 (C9 A3) (A0 (C9 A3) A3))))))
   refine A5 ?_ ?_
   ·refine E5 ?_ ?_ ?_
    ·exact(B5 (O3 (M7 hr)) (pv 2) (C9 A3) (C0 _))
    ·refine A9 ?_
     refine zst (i:=5) S ?_
     exact(zcl (T5 T) hr T.yu B9 (A0 (pv 1) (A0 (C5 (B1 (B7 hr)) (pv 2) (V4 Q0 A8) (fun _ _=>rfl)) A3)))
    ·exact B8
   refine A5 ?_ ?_
   ·refine Q9 PassesOwn.never rfl ?_ ?_ ?_
    ·exact(O6 rfl T.z_range (A0 (D9 L9 (zcl (C4 T) hr T.yl B9 (A0 (pv 0) (A0 A8 A3))) (M8 X7 rfl T.z_int boot_int (A0 (T8 (L6 (M7 hr)) (pv 2) (C9 A3) (C0 _)) A3))) A3))
    ·exact(C8 (i:=6) S.nd rfl (Or.inl rfl))
    ·refine A5 ?_ ?_
     ·refine O0 (i:=7) S.nd rfl (Or.inl rfl) ?_ rfl ?_
      ·refine C5 ?_ ?_ ?_ ?_
       ·exact B1 (B7 hr)
       ·exact(pv 1)
       ·refine zcl (C4 T) hr T.yl B9 ?_
        refine A0 ?_ ?_
        ·exact(pv 0)
        refine A0 ?_ ?_
        ·exact(C7 E7 rfl T.z_len boot_len (A0 (pv 1) A3))
        exact A3
       ·exact fun _ _=>rfl
      ·walk_at "or"
     refine A5 ?_ ?_
     ·refine E5 ?_ ?_ ?_
      ·exact(B5 (L6 (M7 hr)) (C5 (B1 (B7 hr)) (pv 5) A8 (fun _ _=>rfl)) E3 (C0 _))
      ·refine A9 ?_
       refine zst (i:=7) S ?_
       exact(zcl (T5 T) hr T.yu B9 (A0 (pv 1) (A0 (C5 (B1 (B7 hr)) (pv 5) A8 (fun _ _=>rfl)) A3)))
      ·exact B8
     refine A5 ?_ ?_
     ·refine E5 ?_ ?_ ?_
      ·exact(PW.pt (Y7 (B5 (O3 (M7 hr)) (C5 (B1 (B7 hr)) (pv 5) A8 (fun _ _=>rfl)) E3 (C0 _)) (T7 (B5 (L6 (M7 hr)) (zcl (C4 T) hr T.yl B9 (A0 (pv 0) (A0 A8 A3))) A8 (C0 _)))))
      ·refine A9 ?_
       refine zst (i:=8) S ?_
       exact(zcl (Y3 T) hr T.yq B9 (A0 (pv 0) A3))
      ·refine A5 ?_ ?_
       ·refine zst (i:=9) S ?_
        exact(C9 A3)
       refine A5 ?_ ?_
       ·refine E5 ?_ ?_ ?_
        ·exact(PW.pt (Y7 (B5 (O3 (M7 hr)) (C5 (B1 (B7 hr)) (pv 7) A8 (fun _ _=>rfl)) E3 (C0 _)) (T7 (B5 qh5 (pv 3) A8 (C0 _)))))
        ·refine A9 ?_
         refine zst (i:=9) S ?_
         exact(zcl FR hr T.yz B9 (A0 (pv 0) (A0 (pv 1) (A0 (D9 L9 (pv 2) (C9 (A0 (C5 (B1 (B7 hr)) (pv 7) A8 (fun _ _=>rfl)) A3))) (A0 (D9 qh3 (pv 3) A8) A3)))))
        ·exact B8
       refine A9 ?_
       refine zst (i:=8) S ?_
       exact(C9 (A0 (C5 (B1 (B7 hr)) (pv 7) A8 (fun _ _=>rfl)) (A0 (pv 9) A3)))
     refine A9 ?_
     refine E5 ?_ ?_ ?_
     ·exact(B5 qv9 (zcl (qo7 T) hr T.yx B9 (A0 (pv 1) (A0 (pv 2) (A0 (pv 8) (A0 (C5 (B1 (B7 hr)) (D9 L9 (pv 4) (N4 (A0 N9 A3))) (D9 qh3 (C7 E7 rfl T.z_len boot_len (A0 (pv 4) A3)) A8) (fun _ _=>rfl)) A3))))) N9 (C0 _))
     ·refine A9 ?_
      exact(S0 (qd7 PySem.F.plainAttrs_list PySem.F.slot_list_append PySem.F.type_list_append P4 (pv 4) (A0 (pv 8) A3)))
     ·exact B8
   refine A9 ?_
   exact(B6 (M8 T4 rfl T.z_tuple boot_tuple (A0 (pv 4) A3)))
 | n + 1 => by
   have FR:M0 P w K mg base CX0 (4+n) t.yz.a t.yz.d ["_law_deck","_law_book_here","_law_names","_law_deep"] (R8 K (n+1)):=qz1 T n
   refine T.yz.F.ok (k:=(4+n)) qg6 (by walk_at "n") (fun cdv A outer s H vs Q E hr h=>⟨qc9 K (R8 K (n+1)),?_,wb7 (n+1) h⟩)
   have S:=qg6
   refine A5 ?_ ?_
   ·refine zst (i:=4) S ?_
    exact(N4 A3)
   refine A5 ?_ ?_
   ·refine zst (i:=5) S ?_
    exact(C9 (A0 E3 (A0 E3 (A0 E3 (A0 (C9 A3) (A0 (C9 A3) A3))))))
   refine A5 ?_ ?_
   ·refine E5 ?_ ?_ ?_
    ·exact(B5 (O3 (M7 hr)) (pv 2) (C9 A3) (C0 _))
    ·refine A9 ?_
     refine zst (i:=5) S ?_
     exact(zcl (T5 T) hr T.yu B9 (A0 (pv 1) (A0 (C5 (B1 (B7 hr)) (pv 2) (V4 Q0 A8) (fun _ _=>rfl)) A3)))
    ·exact B8
   refine A5 ?_ ?_
   ·refine Q9 PassesOwn.never rfl ?_ ?_ ?_
    ·exact(O6 rfl T.z_range (A0 (D9 L9 (zcl (C4 T) hr T.yl B9 (A0 (pv 0) (A0 A8 A3))) (M8 X7 rfl T.z_int boot_int (A0 (T8 (L6 (M7 hr)) (pv 2) (C9 A3) (C0 _)) A3))) A3))
    ·exact(C8 (i:=6) S.nd rfl (Or.inl rfl))
    ·refine A5 ?_ ?_
     ·refine O0 (i:=7) S.nd rfl (Or.inl rfl) ?_ rfl ?_
      ·refine C5 ?_ ?_ ?_ ?_
       ·exact B1 (B7 hr)
       ·exact(pv 1)
       ·refine zcl (C4 T) hr T.yl B9 ?_
        refine A0 ?_ ?_
        ·exact(pv 0)
        refine A0 ?_ ?_
        ·exact(C7 E7 rfl T.z_len boot_len (A0 (pv 1) A3))
        exact A3
       ·exact fun _ _=>rfl
      ·walk_at "or"
     refine A5 ?_ ?_
     ·refine E5 ?_ ?_ ?_
      ·exact(B5 (L6 (M7 hr)) (C5 (B1 (B7 hr)) (pv 5) A8 (fun _ _=>rfl)) E3 (C0 _))
      ·refine A9 ?_
       refine zst (i:=7) S ?_
       exact(zcl (T5 T) hr T.yu B9 (A0 (pv 1) (A0 (C5 (B1 (B7 hr)) (pv 5) A8 (fun _ _=>rfl)) A3)))
      ·exact B8
     refine A5 ?_ ?_
     ·refine E5 ?_ ?_ ?_
      ·exact(PW.pt (Y7 (B5 (O3 (M7 hr)) (C5 (B1 (B7 hr)) (pv 5) A8 (fun _ _=>rfl)) E3 (C0 _)) (T7 (B5 (L6 (M7 hr)) (zcl (C4 T) hr T.yl B9 (A0 (pv 0) (A0 A8 A3))) A8 (C0 _)))))
      ·refine A9 ?_
       refine zst (i:=8) S ?_
       exact(zcl (Y3 T) hr T.yq B9 (A0 (pv 0) A3))
      ·refine A5 ?_ ?_
       ·refine zst (i:=9) S ?_
        exact(C9 A3)
       refine A5 ?_ ?_
       ·refine E5 ?_ ?_ ?_
        ·exact(PW.pt (Y7 (B5 (O3 (M7 hr)) (C5 (B1 (B7 hr)) (pv 7) A8 (fun _ _=>rfl)) E3 (C0 _)) (T7 (B5 qh5 (pv 3) A8 (C0 _)))))
        ·refine A9 ?_
         refine zst (i:=9) S ?_
         exact(zcl FR hr T.yz B9 (A0 (pv 0) (A0 (pv 1) (A0 (D9 L9 (pv 2) (C9 (A0 (C5 (B1 (B7 hr)) (pv 7) A8 (fun _ _=>rfl)) A3))) (A0 (D9 qh3 (pv 3) A8) A3)))))
        ·exact B8
       refine A9 ?_
       refine zst (i:=8) S ?_
       exact(C9 (A0 (C5 (B1 (B7 hr)) (pv 7) A8 (fun _ _=>rfl)) (A0 (pv 9) A3)))
     refine A9 ?_
     refine E5 ?_ ?_ ?_
     ·exact(B5 qv9 (zcl (qo7 T) hr T.yx B9 (A0 (pv 1) (A0 (pv 2) (A0 (pv 8) (A0 (C5 (B1 (B7 hr)) (D9 L9 (pv 4) (N4 (A0 N9 A3))) (D9 qh3 (C7 E7 rfl T.z_len boot_len (A0 (pv 4) A3)) A8) (fun _ _=>rfl)) A3))))) N9 (C0 _))
     ·refine A9 ?_
      exact(S0 (qd7 PySem.F.plainAttrs_list PySem.F.slot_list_append PySem.F.type_list_append P4 (pv 4) (A0 (pv 8) A3)))
     ·exact B8
   refine A9 ?_
   exact(B6 (M8 T4 rfl T.z_tuple boot_tuple (A0 (pv 4) A3)))
theorem qo8(T:Txt K mg t):M0 P w K mg base CX0 10 t.yz.a t.yz.d ["_law_deck","_law_book_here","_law_names","_law_deep"] (qf8 K):=qz1 T 6
theorem xh4(T:Txt K mg t):M0 P w K mg base (Fly P w) 11 t.xh.a t.xh.d ["_law_way","_law_book_here","_law_tree_here","_law_place","_law_thing","_law_stop"] (qd0 K t.k_NoPlace t.k_NoFit):=by
 refine T.xh.F.okX wc7 (by walk_at "n") (fun cdv A outer s H vs Q E hr h=>⟨qf9 K t.k_NoPlace t.k_NoFit E,?_,xe2 T.se_NoFit_rule T.se_NoFit_place h⟩)
 have S:=wc7
 refine A5 ?_ ?_
 ·refine E5 ?_ ?_ ?_
  ·exact(B5 (L6 (M7 hr)) (pv 0) A8 (C0 _))
  ·refine A9 ?_
   exact(B6 (zcl (yo3 T) hr T.yc qb1 (A0 (pv 1) (A0 (pv 2) (A0 (pv 3) (A0 (pv 4) A3))))))
  ·exact B8
 refine A5 ?_ ?_
 ·refine E5 ?_ ?_ ?_
  ·exact(B5 (L6 (M7 hr)) (pv 0) A8 (C0 _))
  ·refine A9 ?_
   exact(B6 (zcl (xo9 T) hr T.yd qb1 (A0 (pv 1) (A0 (pv 2) (A0 (pv 3) A3)))))
  ·exact B8
 refine A5 ?_ ?_
 ·refine E5 ?_ ?_ ?_
  ·exact(B5 (L6 (M7 hr)) (pv 0) A8 (C0 _))
  ·refine A9 ?_
   exact(B6 (zcl (xh3 T) hr T.ye qb1 (A0 (pv 1) (A0 (pv 2) (A0 (pv 3) (A0 (pv 5) (A0 (pv 4) A3)))))))
  ·exact B8
 refine A9 ?_
 exact(B6 (zcl (yo4 T) hr T.yf qb1 (A0 (pv 1) (A0 (pv 2) (A0 (pv 3) A3)))))
theorem wu7 (T:Txt K mg t):M0 P w K mg base CX0 11 t.xk.a t.xk.d ["_law_deck","_law_book_here"] (qa4 K):=by
 refine T.xk.F.ok qu9 (by walk_at "n") (fun cdv A outer s H vs Q E hr h=>⟨qd2 K,?_,wu1 h⟩)
 have S:=qu9
 refine A5 ?_ ?_
 ·refine O0 (i:=2) S.nd rfl (Or.inr rfl) ?_ rfl ?_
  ·exact(V5 rfl (M2 (osc:=B4 X4) (ON:=["_law_deck","_law_book_here","_law_hosts","_law_plain","_law_names","_law_k","_law_parts","_law_name_here"]) (N:=["_law_row_here"]) (fr:=[none]) (by decide +kernel) rfl rfl) (R0 (pv 1)) (fun _ _ _ _ _ _=>(C8 (i:=0) (show List.Nodup (["_law_row_here"]:List Str) by decide +kernel) rfl (Or.inl rfl))) Q3 (fun _ _ _ _ _ _=>Z8) (fun _ _ _ _ _ _=>(C5 (B1 (B7 hr)) (pv 0) A8 (fun _ _=>rfl))))
  ·walk_at "or"
 refine A5 ?_ ?_
 ·exact(qz4 (i:=3) S.nd rfl rfl rfl (M2 (osc:=B4 X4) (ON:=["_law_deck","_law_book_here","_law_hosts","_law_plain","_law_names","_law_k","_law_parts","_law_name_here"]) (N:=["_law_hosts","_law_row_here"]) (fr:=[some 2,none]) (by decide +kernel) rfl rfl) (R0 (pv 1)) (fun _ _ _ _ _ _=>(C8 (i:=1) (show List.Nodup (["_law_hosts","_law_row_here"]:List Str) by decide +kernel) rfl (Or.inl rfl))) Q3 (fun _ _ _ _ _ _=>(ql9 (PW.pt (Y7 (B5 (qr0 (B7 hr)) (C5 (B1 (B7 hr)) (pv 1) A8 (fun _ _=>rfl)) (C9 (A0 E3 (A0 E3 A3))) (by with_unfolding_all rfl)) (Y7 (B5 (L6 (M7 hr)) (N5 Q4 (pv 1) (O5 A8) P0) (C9 (A0 (C9 A3) (A0 (C9 A3) A3))) (C0 _)) (T7 (B5 (wk1 (B7 hr)) (C5 (B1 (B7 hr)) (pv 1) A8 (fun _ _=>rfl)) (pv 0) (by with_unfolding_all rfl)))))))) (fun _ _ _ _ _ _=>(C5 (B1 (B7 hr)) (pv 1) A8 (fun _ _=>rfl))))
 refine A5 ?_ ?_
 ·refine zst (i:=4) S ?_
  exact(C9 A3)
 refine A5 ?_ ?_
 ·refine E5 ?_ ?_ ?_
  ·exact(B5 (O3 (M7 hr)) (pv 3) (N4 A3) (C0 _))
  ·refine A9 ?_
   refine Q9 PassesOwn.never rfl ?_ ?_ ?_
   ·exact(O6 rfl T.z_range (A0 (D9 L9 A8 (zcl (C4 T) hr T.yl B9 (A0 (pv 0) (A0 A8 A3)))) A3))
   ·exact(C8 (i:=5) S.nd rfl (Or.inl rfl))
   ·refine A9 ?_
    refine O0 (i:=4) S.nd rfl (Or.inl rfl) ?_ rfl ?_
    ·refine D9 L9 ?_ ?_
     ·exact(pv 4)
     ·refine C9 ?_
      refine A0 ?_ ?_
      ·refine C5 ?_ ?_ ?_ ?_
       ·exact B1 (B7 hr)
       ·exact(pv 3)
       ·refine zcl (C4 T) hr T.yl B9 ?_
        refine A0 ?_ ?_
        ·exact(pv 0)
        refine A0 ?_ ?_
        ·exact(C7 E7 rfl T.z_len boot_len (A0 (pv 3) A3))
        exact A3
       ·exact fun _ _=>rfl
      exact A3
    ·walk_at "or"
  ·exact B8
 refine A5 ?_ ?_
 ·refine zst (i:=6) S ?_
  exact(zcl (qo8 T) hr T.yz B9 (A0 (pv 0) (A0 (pv 1) (A0 (pv 4) (A0 A8 A3)))))
 refine A5 ?_ ?_
 ·refine Q9 PassesOwn.never rfl ?_ ?_ ?_
  ·exact(zp4 rfl T.z_reversed (A0 (pv 4) A3))
  ·exact(C8 (i:=7) S.nd rfl (Or.inl rfl))
  ·refine A9 ?_
   refine zst (i:=6) S ?_
   exact(C9 (A0 (C9 (A0 (pv 7) (A0 (pv 6) A3))) A3))
 refine A9 ?_
 exact(B6 (C9 (A0 (C9 (A0 E3 (A0 (pv 6) A3))) (A0 (C7 E7 rfl T.z_len boot_len (A0 (pv 4) A3)) A3))))
theorem yh5(T:Txt K mg t):M0 P w K mg base CX0 11 t.xm.a t.xm.d ["_law_deck","_law_book_here","_law_code"] (qn7 K):=by
 refine T.xm.F.ok wq4 (by walk_at "n") (fun cdv A outer s H vs Q E hr h=>⟨qs8 K,?_,yg7 h⟩)
 have S:=wq4
 refine A5 ?_ ?_
 ·refine zst (i:=3) S ?_
  exact(zcl (C4 T) hr T.yl B9 (A0 (pv 0) (A0 A8 A3)))
 refine A5 ?_ ?_
 ·refine O0 (i:=4) S.nd rfl (Or.inl rfl) ?_ rfl ?_
  ·refine C5 ?_ ?_ ?_ ?_
   ·exact B1 (B7 hr)
   ·refine C5 ?_ ?_ ?_ ?_
    ·exact B1 (B7 hr)
    ·exact(pv 1)
    ·refine zcl (C4 T) hr T.yl B9 ?_
     refine A0 ?_ ?_
     ·exact(pv 0)
     refine A0 ?_ ?_
     ·exact(C7 E7 rfl T.z_len boot_len (A0 (pv 1) A3))
     exact A3
    ·exact fun _ _=>rfl
   ·exact A8
   ·exact fun _ _=>rfl
  ·walk_at "or"
 refine A5 ?_ ?_
 ·refine E5 ?_ ?_ ?_
  ·exact(B5 (L6 (M7 hr)) (pv 3) A8 (C0 _))
  ·refine A9 ?_
   exact(B6 (D9 xv0 (zcl (Y3 T) hr T.yq B9 (A0 (pv 0) A3)) (zcl (C4 T) hr T.yl B9 (A0 (pv 0) (A0 A8 A3)))))
  ·exact B8
 refine A5 ?_ ?_
 ·refine E5 ?_ ?_ ?_
  ·exact(B5 (L6 (M7 hr)) (pv 3) A8 (C0 _))
  ·refine A5 ?_ ?_
   ·refine zst (i:=5) S ?_
    exact(zcl (qo8 T) hr T.yz B9 (A0 (pv 0) (A0 (pv 1) (A0 (C9 (A0 (pv 4) A3)) (A0 A8 A3)))))
   refine A9 ?_
   exact(B6 (C9 (A0 (pv 4) (A0 (D9 xv0 (pv 5) (M8 X7 rfl T.z_int boot_int (A0 (T8 (O3 (M7 hr)) (C5 (B1 (B7 hr)) (zcl (T5 T) hr T.yu B9 (A0 (pv 1) (A0 (pv 4) A3))) A8 (fun _ _=>rfl)) E3 (C0 _)) A3))) A3))))
  ·exact B8
 refine A5 ?_ ?_
 ·refine E5 ?_ ?_ ?_
  ·exact(B5 (L6 (M7 hr)) (pv 3) A8 (C0 _))
  ·refine A9 ?_
   exact(B6 (C9 (A0 (pv 4) (A0 (C9 A3) A3))))
  ·exact B8
 refine A5 ?_ ?_
 ·refine E5 ?_ ?_ ?_
  ·exact(B5 (L6 (M7 hr)) (pv 3) A8 (C0 _))
  ·refine A9 ?_
   exact(B6 (zcl (xz5 T) hr T.yt B9 (A0 (pv 0) (A0 (pv 1) (A0 (pv 2) (A0 A8 A3))))))
  ·exact B8
 refine A9 ?_
 exact(B6 (zcl (Y3 T) hr T.yq B9 (A0 (pv 0) A3)))
theorem wj1(T:Txt K mg t):M0 P w K mg base CX0 12 t.xi.a t.xi.d ["_law_way","_law_book_here","_law_tree_here","_law_place","_law_thing","_law_stop"] (Y1 K):=by
 refine T.xi.F.ok wi8 (by walk_at "n") (fun cdv A outer s H vs Q E hr h=>⟨qn4 K t.k_NoPlace t.k_NoFit t.k_NotEnded t.k_Ended t.k_NoSpot t.k_NoBook t.k_NoText,?_,xy1 T.ei_NoFit_rule T.ei_NoFit_place T.er h⟩)
 have S:=wi8
 refine A5 ?_ ?_
 ·refine zst (i:=6) S ?_
  exact N9
 refine A5 ?_ ?_
 ·refine zst (i:=7) S ?_
  exact N9
 refine A5 ?_ ?_
 ·exact(zp9 (Cs:=[t.k_NoPlace,t.k_NoFit]) (i:=8) (j:=7) (zp1 (xh4 T) (hr.mono (by walk_at "le")) rfl T.xh.m T.xh.F.kp T.xh.b .nil (fun _=>(A0 (pv 0) (A0 (pv 1) (A0 (pv 2) (A0 (pv 3) (A0 (pv 4) (A0 (pv 5) A3)))))))) rfl T.n_TagError (all_cons T.y_NoPlace_TagError (all_cons T.y_NoFit_TagError zp8)) S.nd rfl rfl rfl rfl (fun _ _=>(A9 (O0 (i:=6) S.nd rfl (Or.inl rfl) (pv 8)))))
 refine A5 ?_ ?_
 ·refine E5 ?_ ?_ ?_
  ·exact(B5 qv9 (pv 6) N9 (C0 _))
  ·refine A9 ?_
   exact(B6 (N4 (A0 (pv 7) A3)))
  ·exact B8
 refine A5 ?_ ?_
 ·refine E5 ?_ ?_ ?_
  ·exact(PW.pt (wp1 (qd8 (Q8 (C7 O7 rfl T.z_isinstance boot_isinstance (A0 (pv 6) (A0 (S8 rfl T.z_ValueError wq6 rfl) A3))))) (wj4 (Q8 (C7 O7 rfl T.z_isinstance boot_isinstance (A0 (pv 6) (A0 (C9 (A0 (O9 rfl T.n_NoText rfl) (A0 (O9 rfl T.n_NoBook rfl) (A0 (O9 rfl T.n_NoSpot rfl) (A0 (O9 rfl T.n_Ended rfl) (A0 (O9 rfl T.n_NotEnded rfl) A3)))))) A3)))))))
  ·refine A9 ?_
   exact(B6 (N4 A3))
  ·exact B8
 refine A5 ?_ ?_
 ·refine E5 ?_ ?_ ?_
  ·exact(Q8 (C7 O7 rfl T.z_isinstance boot_isinstance (A0 (pv 6) (A0 (O9 rfl T.n_NoPlace rfl) A3))))
  ·refine A9 ?_
   exact(B6 (D9 Z9 (N4 (A0 E3 A3)) (D9 qh3 A8 (M8 X7 rfl T.z_int boot_int (A0 (C7 O7 rfl T.z_isinstance boot_isinstance (A0 (pv 6) (A0 (O9 rfl T.n_NoFit rfl) A3))) A3)))))
  ·exact B8
 refine A5 ?_ ?_
 ·refine E5 ?_ ?_ ?_
  ·exact(PW.pt (wp1 (qd8 (Q8 (C7 O7 rfl T.z_isinstance boot_isinstance (A0 (xu6 (pv 6) rfl) (A0 (S8 rfl T.z_str boot_str rfl) A3))))) (wj4 (qd8 (Q8 (C7 O7 rfl T.z_isinstance boot_isinstance (A0 (xu6 (pv 6) rfl) (A0 (S8 rfl T.z_tuple boot_tuple rfl) A3))))))))
  ·refine A9 ?_
   exact(B6 (N4 A3))
  ·exact B8
 refine A9 ?_
 exact(B6 (N4 (A0 (C7 O7 rfl T.z_isinstance boot_isinstance (A0 (pv 6) (A0 (O9 rfl T.n_NoFit rfl) A3))) (A0 (xu6 (pv 6) rfl) (A0 (xu6 (pv 6) rfl) A3)))))
theorem ql5(T:Txt K mg t):∀ n:Nat,M0 P w K mg base CX0 (1+n) t.xb.a t.xb.d ["_law_tree_here","_law_place","_law_parts"] (R3 n K)
 | 0 => by
   have FR:M0 P w K mg base CX0 0 t.xb.a t.xb.d ["_law_tree_here","_law_place","_law_parts"] (P9 K 0):=⟨fun _ _ _ _ h=>h.elim,fun _ _ _ _ _ _ _ _ _ _ _ _ _ h=>h.elim⟩
   refine T.xb.F.ok (k:=0) V8 (by walk_at "n") (fun cdv A outer s H vs Q E hr h=>⟨T1 K (P9 K 0),?_,qn6 0 h⟩)
   have S:=V8
   refine A5 ?_ ?_
   ·refine E5 ?_ ?_ ?_
    ·exact(B5 (L6 (M7 hr)) (pv 1) (C9 A3) (C0 _))
    ·refine A9 ?_
     exact(B6 (C9 (A0 (C5 (B1 (B7 hr)) (pv 0) A8 (fun _ _=>rfl)) (A0 (pv 2) A3))))
    ·exact B8
   refine A5 ?_ ?_
   ·refine zst (i:=3) S ?_
    exact(C5 (B1 (B7 hr)) (pv 1) A8 (fun _ _=>rfl))
   refine A5 ?_ ?_
   ·refine zst (i:=4) S ?_
    exact(zcl FR hr T.xb B9 (A0 (C5 (B1 (B7 hr)) (C5 (B1 (B7 hr)) (pv 0) A8 (fun _ _=>rfl)) (pv 3) (fun _ _=>rfl)) (A0 (N5 Q4 (pv 1) (O5 A8) P0) (A0 (pv 2) A3))))
   refine A9 ?_
   refine B6 ?_
   refine C9 ?_
   refine A0 ?_ ?_
   ·exact(C5 (B1 (B7 hr)) (pv 0) A8 (fun _ _=>rfl))
   refine A0 ?_ ?_
   ·refine D9 L9 ?_ ?_
    ·exact(D9 L9 (N5 Q4 (C5 (B1 (B7 hr)) (pv 0) A8 (fun _ _=>rfl)) P0 (O5 (pv 3))) (C9 (A0 (pv 4) A3)))
    ·exact(N5 Q4 (C5 (B1 (B7 hr)) (pv 0) A8 (fun _ _=>rfl)) (O5 (D9 L9 (pv 3) A8)) P0)
   exact A3
 | n + 1=>by
   have FR:M0 P w K mg base CX0 (1+n) t.xb.a t.xb.d ["_law_tree_here","_law_place","_law_parts"] (P9 K (n+1)):=ql5 T n
   refine T.xb.F.ok (k:=(1+n)) V8 (by walk_at "n") (fun cdv A outer s H vs Q E hr h=>⟨T1 K (P9 K (n+1)),?_,qn6 (n+1) h⟩)
   have S:=V8
   refine A5 ?_ ?_
   ·refine E5 ?_ ?_ ?_
    ·exact(B5 (L6 (M7 hr)) (pv 1) (C9 A3) (C0 _))
    ·refine A9 ?_
     exact(B6 (C9 (A0 (C5 (B1 (B7 hr)) (pv 0) A8 (fun _ _=>rfl)) (A0 (pv 2) A3))))
    ·exact B8
   refine A5 ?_ ?_
   ·refine zst (i:=3) S ?_
    exact(C5 (B1 (B7 hr)) (pv 1) A8 (fun _ _=>rfl))
   refine A5 ?_ ?_
   ·refine zst (i:=4) S ?_
    exact(zcl FR hr T.xb B9 (A0 (C5 (B1 (B7 hr)) (C5 (B1 (B7 hr)) (pv 0) A8 (fun _ _=>rfl)) (pv 3) (fun _ _=>rfl)) (A0 (N5 Q4 (pv 1) (O5 A8) P0) (A0 (pv 2) A3))))
   refine A9 ?_
   refine B6 ?_
   refine C9 ?_
   refine A0 ?_ ?_
   ·exact(C5 (B1 (B7 hr)) (pv 0) A8 (fun _ _=>rfl))
   refine A0 ?_ ?_
   ·refine D9 L9 ?_ ?_
    ·exact(D9 L9 (N5 Q4 (C5 (B1 (B7 hr)) (pv 0) A8 (fun _ _=>rfl)) P0 (O5 (pv 3))) (C9 (A0 (pv 4) A3)))
    ·exact(N5 Q4 (C5 (B1 (B7 hr)) (pv 0) A8 (fun _ _=>rfl)) (O5 (D9 L9 (pv 3) A8)) P0)
   exact A3
theorem wj2(T:Txt K mg t):M0 P w K mg base CX0 41 t.xb.a t.xb.d ["_law_tree_here","_law_place","_law_parts"] (qn5 K):=ql5 T 40
theorem qq3(T:Txt K mg t):∀ n:Nat,M0 P w K mg base CX0 (1+n) t.xf.a t.xf.d ["_law_found"] (T2 n K)
 | 0 => by
   have FR:M0 P w K mg base CX0 0 t.xf.a t.xf.d ["_law_found"] (S4 K 0):=⟨fun _ _ _ _ h=>h.elim,fun _ _ _ _ _ _ _ _ _ _ _ _ _ h=>h.elim⟩
   refine T.xf.F.ok (k:=0) qa5 (by walk_at "n") (fun cdv A outer s H vs Q E hr h=>⟨X0 K (S4 K 0),?_,qu3 0 h⟩)
   have S:=qa5
   refine A5 ?_ ?_
   ·refine E5 ?_ ?_ ?_
    ·exact(Q8 (C7 I0 rfl T.z_isinstance boot_isinstance (A0 (pv 0) (A0 (S8 rfl T.z_str boot_str rfl) A3))))
    ·refine A9 ?_
     exact(B6 wb2)
    ·exact B8
   refine A5 ?_ ?_
   ·refine E5 ?_ ?_ ?_
    ·exact(PW.pt (wp1 (qd8 (Q8 (C7 I0 rfl T.z_isinstance boot_isinstance (A0 (pv 0) (A0 (S8 rfl T.z_tuple boot_tuple rfl) A3))))) (wp1 (B5 (O3 (M7 hr)) (C7 E7 rfl T.z_len boot_len (A0 (pv 0) A3)) A8 (C0 _)) (wj4 (qd8 (Q8 (C7 I0 rfl T.z_isinstance boot_isinstance (A0 (C5 (B1 (B7 hr)) (pv 0) A8 (fun _ _=>rfl)) (A0 (S8 rfl T.z_str boot_str rfl) A3)))))))))
    ·refine A9 ?_
     exact(B6 wb2)
    ·exact B8
   refine A9 ?_
   refine B6 ?_
   exact(wv5 (C7 I0 rfl T.z_isinstance boot_isinstance (A0 (C5 (B1 (B7 hr)) (pv 0) A8 (fun _ _=>rfl)) (A0 (S8 rfl T.z_tuple boot_tuple rfl) A3))) (wv4 (T8 (wk1 (B7 hr)) wb2 (V5 rfl (M2 (osc:=B4 X3) (ON:=["_law_found"]) (N:=["_law_part"]) (fr:=[none]) (by decide +kernel) rfl rfl) (R0 (C5 (B1 (B7 hr)) (pv 0) A8 (fun _ _=>rfl))) (fun _ _ _ _ _ _=>(C8 (i:=0) (show List.Nodup (["_law_part"]:List Str) by decide +kernel) rfl (Or.inl rfl))) Q3 (fun _ _ _ _ _ _=>Z8) (fun _ _ _ _ _ _=>(zcl FR hr T.xf B9 (A0 (pv 0) A3)))) (by with_unfolding_all rfl))))
 | n + 1=>by
   have FR:M0 P w K mg base CX0 (1+n) t.xf.a t.xf.d ["_law_found"] (S4 K (n+1)):=qq3 T n
   refine T.xf.F.ok (k:=(1+n)) qa5 (by walk_at "n") (fun cdv A outer s H vs Q E hr h=>⟨X0 K (S4 K (n+1)),?_,qu3 (n+1) h⟩)
   have S:=qa5
   refine A5 ?_ ?_
   ·refine E5 ?_ ?_ ?_
    ·exact(Q8 (C7 I0 rfl T.z_isinstance boot_isinstance (A0 (pv 0) (A0 (S8 rfl T.z_str boot_str rfl) A3))))
    ·refine A9 ?_
     exact(B6 wb2)
    ·exact B8
   refine A5 ?_ ?_
   ·refine E5 ?_ ?_ ?_
    ·exact(PW.pt (wp1 (qd8 (Q8 (C7 I0 rfl T.z_isinstance boot_isinstance (A0 (pv 0) (A0 (S8 rfl T.z_tuple boot_tuple rfl) A3))))) (wp1 (B5 (O3 (M7 hr)) (C7 E7 rfl T.z_len boot_len (A0 (pv 0) A3)) A8 (C0 _)) (wj4 (qd8 (Q8 (C7 I0 rfl T.z_isinstance boot_isinstance (A0 (C5 (B1 (B7 hr)) (pv 0) A8 (fun _ _=>rfl)) (A0 (S8 rfl T.z_str boot_str rfl) A3)))))))))
    ·refine A9 ?_
     exact(B6 wb2)
    ·exact B8
   refine A9 ?_
   refine B6 ?_
   exact(wv5 (C7 I0 rfl T.z_isinstance boot_isinstance (A0 (C5 (B1 (B7 hr)) (pv 0) A8 (fun _ _=>rfl)) (A0 (S8 rfl T.z_tuple boot_tuple rfl) A3))) (wv4 (T8 (wk1 (B7 hr)) wb2 (V5 rfl (M2 (osc:=B4 X3) (ON:=["_law_found"]) (N:=["_law_part"]) (fr:=[none]) (by decide +kernel) rfl rfl) (R0 (C5 (B1 (B7 hr)) (pv 0) A8 (fun _ _=>rfl))) (fun _ _ _ _ _ _=>(C8 (i:=0) (show List.Nodup (["_law_part"]:List Str) by decide +kernel) rfl (Or.inl rfl))) Q3 (fun _ _ _ _ _ _=>Z8) (fun _ _ _ _ _ _=>(zcl FR hr T.xf B9 (A0 (pv 0) A3)))) (by with_unfolding_all rfl))))
theorem wu8(T:Txt K mg t):M0 P w K mg base CX0 46 t.xf.a t.xf.d ["_law_found"] (qu2 K):=qq3 T 45
theorem xp0(T:Txt K mg t):M0 P w K mg base CX0 47 t.xj.a t.xj.d ["_law_told_here","_law_book_here","_law_made"] (qg2 K):=by
 refine T.xj.F.ok wc8 (by walk_at "n") (fun cdv A outer s H vs Q E hr h=>⟨qj3 K,?_,xo2 h⟩)
 have S:=wc8
 refine A5 ?_ ?_
 ·refine zst (i:=3) S ?_
  exact(zcl (wd0 T) hr T.xc B9 (A0 (pv 1) (A0 (pv 2) A3)))
 refine A5 ?_ ?_
 ·refine E5 ?_ ?_ ?_
  ·exact(B5 qv9 (pv 3) N9 (C0 _))
  ·refine A9 ?_
   refine B6 ?_
   exact(wv5 (T8 (L6 (M7 hr)) (C7 E7 rfl T.z_len boot_len (A0 (pv 0) A3)) A8 (C0 _)) (wv5 (zcl (wu8 T) hr T.xf B9 (A0 (C5 (B1 (B7 hr)) (pv 0) A8 (fun _ _=>rfl)) A3)) (wv4 (T8 (L6 (M7 hr)) (C5 (B1 (B7 hr)) (pv 0) A8 (fun _ _=>rfl)) (pv 2) (C0 _)))))
  ·exact B8
 refine A9 ?_
 refine B6 ?_
 refine T8 (L6 (M7 hr)) ?_ ?_ (C0 _)
 ·exact(pv 0)
 ·refine N4 ?_
  refine A0 ?_ ?_
  ·exact wb2
  refine A0 ?_ ?_
  ·exact(C5 (B1 (B7 hr)) (pv 3) A8 (fun _ _=>rfl))
  refine A0 ?_ ?_
  ·exact(C5 (B1 (B7 hr)) (pv 3) A8 (fun _ _=>rfl))
  exact A3
theorem Ae8(T:Txt K mg t):M0 P w K mg base CX0 48 t.xn.a t.xn.d ["_law_script"] (wn8 K):=by
 refine T.xn.F.ok zk9 (by walk_at "n") (fun cdv A outer s H vs Q E hr h=>⟨yt7 K,?_,Ae7 h⟩)
 have S:=zk9
 refine A5 ?_ ?_
 ·refine zst (i:=1) S ?_
  exact(zcl (wu4 T) hr T.yk B9 (A0 (pv 0) (A0 A8 A3)))
 refine A5 ?_ ?_
 ·refine zst (i:=2) S ?_
  exact(zcl (C4 T) hr T.yl B9 (A0 (pv 1) (A0 (D9 zw8 A8 A8) A3)))
 refine A5 ?_ ?_
 ·refine zst (i:=3) S ?_
  exact(zcl (xz4 T) hr T.yp B9 (A0 (pv 1) (A0 (pv 2) (A0 A8 A3))))
 refine A5 ?_ ?_
 ·refine zst (i:=4) S ?_
  exact(V4 Q0 A8)
 refine A5 ?_ ?_
 ·refine O0 (i:=5) S.nd rfl (Or.inl rfl) ?_ rfl ?_
  ·refine C9 ?_
   refine A0 ?_ ?_
   ·exact E3
   refine A0 ?_ ?_
   ·refine zcl (qo8 T) hr T.yz B9 ?_
    refine A0 ?_ ?_
    ·exact(pv 1)
    refine A0 ?_ ?_
    ·exact(pv 3)
    refine A0 ?_ ?_
    ·exact(C9 A3)
    refine A0 ?_ ?_
    ·exact A8
    exact A3
   exact A3
  ·walk_at "or"
 refine A5 ?_ ?_
 ·refine E5 ?_ ?_ ?_
  ·exact(B5 (L6 (M7 hr)) (zcl (C4 T) hr T.yl B9 (A0 (pv 1) (A0 A8 A3))) A8 (C0 _))
  ·refine A9 ?_
   exact(qk1 (zcl (wu7 T) hr T.xk B9 (A0 (pv 1) (A0 (pv 3) A3))) (qk0 rfl (L8 (C8 (i:=5) S.nd rfl (Or.inl rfl)) (L8 (C8 (i:=4) S.nd rfl (Or.inl rfl)) qb3))))
  ·exact B8
 refine A5 ?_ ?_
 ·refine Q9 PassesOwn.never rfl ?_ ?_ ?_
  ·exact(O6 rfl T.z_range (A0 A8 A3))
  ·exact(C8 (i:=6) S.nd rfl (Or.inl rfl))
  ·refine A5 ?_ ?_
   ·exact(qk1 (zcl (xo4 T) hr T.xg B9 (A0 (pv 1) (A0 (pv 5) A3))) (qk0 rfl (L8 (C8 (i:=7) S.nd rfl (Or.inl rfl)) (L8 (C8 (i:=8) S.nd rfl (Or.inl rfl)) qb3))))
   refine A5 ?_ ?_
   ·refine E5 ?_ ?_ ?_
    ·exact(B5 zc3 (pv 4) A8 (C0 _))
    ·refine A9 ?_
     exact(qk1 (zcl (xg7 T) hr T.xl B9 (A0 (pv 1) (A0 (pv 5) (A0 (pv 4) A3)))) (qk0 rfl (L8 (C8 (i:=7) S.nd rfl (Or.inl rfl)) (L8 (C8 (i:=8) S.nd rfl (Or.inl rfl)) qb3))))
    ·exact B8
   refine A5 ?_ ?_
   ·refine zst (i:=9) S ?_
    exact(zcl (C4 T) hr T.yl B9 (A0 (pv 1) (A0 (D9 L9 (C7 E7 rfl T.z_len boot_len (A0 (pv 8) A3)) A8) A3)))
   refine A5 ?_ ?_
   ·refine zst (i:=10) S ?_
    exact(zcl (yh5 T) hr T.xm B9 (A0 (pv 1) (A0 (pv 3) (A0 (pv 2) A3))))
   refine A5 ?_ ?_
   ·refine O0 (i:=11) S.nd rfl (Or.inl rfl) ?_ rfl ?_
    ·refine zcl (wj2 T) hr T.xb B9 ?_
     refine A0 ?_ ?_
     ·exact(pv 5)
     refine A0 ?_ ?_
     ·exact(pv 7)
     refine A0 ?_ ?_
     ·exact(D9 L9 (D9 L9 (N5 Q4 (pv 8) P0 (O5 (pv 9))) (C9 (A0 (pv 10) A3))) (N5 Q4 (pv 8) (O5 (pv 9)) P0))
     exact A3
    ·walk_at "or"
   refine A5 ?_ ?_
   ·refine O0 (i:=12) S.nd rfl (Or.inl rfl) ?_ rfl ?_
    ·refine zcl (wj1 T) hr T.xi B9 ?_
     refine A0 ?_ ?_
     ·exact A8
     refine A0 ?_ ?_
     ·exact(pv 3)
     refine A0 ?_ ?_
     ·exact(pv 5)
     refine A0 ?_ ?_
     ·exact(D9 L9 (pv 7) (C9 (A0 (pv 9) A3)))
     refine A0 ?_ ?_
     ·exact(pv 10)
     refine A0 ?_ ?_
     ·exact A8
     exact A3
    ·walk_at "or"
   refine A5 ?_ ?_
   ·refine E5 ?_ ?_ ?_
    ·exact(qd8 (Q8 (zcl (xp0 T) hr T.xj B9 (A0 (pv 12) (A0 (pv 3) (A0 (pv 11) A3))))))
    ·refine A9 ?_
     exact(B6 wb2)
    ·exact B8
   refine A5 ?_ ?_
   ·refine E5 ?_ ?_ ?_
    ·exact(B5 (O3 (M7 hr)) (pv 12) (zcl (wj1 T) hr T.xi B9 (A0 A8 (A0 (pv 3) (A0 (pv 5) (A0 (D9 L9 (pv 7) (C9 (A0 (pv 9) A3))) (A0 (pv 10) (A0 A8 A3))))))) (C0 _))
    ·refine A9 ?_
     exact(B6 wb2)
    ·exact B8
   refine A9 ?_
   refine E5 ?_ ?_ ?_
   ·exact(PW.pt (Y7 (B5 qv9 (zcl (wd0 T) hr T.xc B9 (A0 (pv 3) (A0 (pv 11) A3))) N9 (C0 _)) (T7 (B5 ww9 (pv 4) A8 (C0 _)))))
   ·refine A9 ?_
    refine zst (i:=5) S ?_
    exact(pv 11)
   ·exact B8
 refine A9 ?_
 exact(B6 wb2)
end
theorem ln1(h:us.length=1):∃ x0,us=[x0]:=by
 rcases us with _|⟨x0,_|⟨y,us⟩⟩
 ·cases h
 ·exact⟨x0,rfl⟩
 ·cases h
theorem ln2(h:us.length=2):∃ x0 x1,us=[x0,x1]:=by
 rcases us with _|⟨x0,_|⟨x1,_|⟨y,us⟩⟩⟩
 ·cases h
 ·cases h
 ·exact⟨x0,x1,rfl⟩
 ·cases h
theorem ln3(h:us.length=3):∃ x0 x1 x2,us=[x0,x1,x2]:=by
 rcases us with _|⟨x0,_|⟨x1,_|⟨x2,_|⟨y,us⟩⟩⟩⟩
 ·cases h
 ·cases h
 ·cases h
 ·exact⟨x0,x1,x2,rfl⟩
 ·cases h
theorem ln4(h:us.length=4):∃ x0 x1 x2 x3,us=[x0,x1,x2,x3]:=by
 rcases us with _|⟨x0,_|⟨x1,_|⟨x2,_|⟨x3,_|⟨y,us⟩⟩⟩⟩⟩
 ·cases h
 ·cases h
 ·cases h
 ·cases h
 ·exact⟨x0,x1,x2,x3,rfl⟩
 ·cases h
theorem ln5(h:us.length=5):∃ x0 x1 x2 x3 x4,us=[x0,x1,x2,x3,x4]:=by
 rcases us with _|⟨x0,_|⟨x1,_|⟨x2,_|⟨x3,_|⟨x4,_|⟨y,us⟩⟩⟩⟩⟩⟩
 ·cases h
 ·cases h
 ·cases h
 ·cases h
 ·cases h
 ·exact⟨x0,x1,x2,x3,x4,rfl⟩
 ·cases h
theorem ln6(h:us.length=6):∃ x0 x1 x2 x3 x4 x5,us=[x0,x1,x2,x3,x4,x5]:=by
 rcases us with _|⟨x0,_|⟨x1,_|⟨x2,_|⟨x3,_|⟨x4,_|⟨x5,_|⟨y,us⟩⟩⟩⟩⟩⟩⟩
 ·cases h
 ·cases h
 ·cases h
 ·cases h
 ·cases h
 ·cases h
 ·exact⟨x0,x1,x2,x3,x4,x5,rfl⟩
 ·cases h
theorem all_mk{l:PySem.W.OpenLaw}{fa f0 f1 f2 f3 f4 f5 f6 f7 f8 f9 f10 f11 f12 f13 f14 f15 f16 f17 f18 f19 f20 f21 f22 f23 f24 f25 f26 f27 f28 f29 f30 f31 f32 f33 f34 f35 f36 f37 f38 f39 f40 f41 f42 f43 f44 f45 f46 f47 f48 f49 f50 f51 f52 f53 f54 f55 f56 f57:Addr}(X:K.In h)(G:h.Ns mainGlobals mg)(hfa:mg "law"=some (.ref fa)){d0 d1 d2 d3 d4 d5 d6 d7 d8 d9 d10 d11 d12 d13 d14 d15 d16 d17 d18 d19 d20 d21 d22 d23 d24 d25 d26 d27 d28 d29 d30 d31 d32 d33 d34 d35 d36 d37 d38 d39 d40 d41 d42 d43 d44 d45 d46 d47 d48 d49 d50 d51 d52 d53 d54 d55 d56 d57:FuncData}{k_NAME k_SORT k_HOST k_SHUTS k_BARS k_ROOT_NAME k_MOST_ABOVE:Tok}{c_WALL_SORTS:Addr}{d_WALL_SORTS:Option Addr}{n_WALL_SORTS:Nat}{sl_WALL_SORTS:Array (Option Value)}{k_WALL_SORTS_0 k_WALL_SORTS_1:Tok}(eEnded:PySem.W.nsIn K mainGlobals "Ended"=some (some (.ref k_Ended)))(eNoBook:PySem.W.nsIn K mainGlobals "NoBook"=some (some (.ref k_NoBook)))(eNoFit:PySem.W.nsIn K mainGlobals "NoFit"=some (some (.ref k_NoFit)))(eNoPlace:PySem.W.nsIn K mainGlobals "NoPlace"=some (some (.ref k_NoPlace)))(eNoSpot:PySem.W.nsIn K mainGlobals "NoSpot"=some (some (.ref k_NoSpot)))(eNoText:PySem.W.nsIn K mainGlobals "NoText"=some (some (.ref k_NoText)))(eNotEnded:PySem.W.nsIn K mainGlobals "NotEnded"=some (some (.ref k_NotEnded)))(eTagError:PySem.W.nsIn K mainGlobals "TagError"=some (some (.ref k_TagError)))(a0:PySem.W.nsIn K mainGlobals "row_of"=some (some (.ref f0)))(F0:Fun K "row_of" "row_of" xf4 f0 d0)(a1:PySem.W.nsIn K mainGlobals "sort_of"=some (some (.ref f1)))(F1:Fun K "sort_of" "sort_of" wn9 f1 d1)(a2:PySem.W.nsIn K mainGlobals "is_wall"=some (some (.ref f2)))(F2:Fun K "is_wall" "is_wall" wo0 f2 d2)(a3:PySem.W.nsIn K mainGlobals "host_of"=some (some (.ref f3)))(F3:Fun K "host_of" "host_of" wo1 f3 d3)(a4:PySem.W.nsIn K mainGlobals "frame_of"=some (some (.ref f4)))(F4:Fun K "frame_of" "frame_of" we2 f4 d4)(a5:PySem.W.nsIn K mainGlobals "is_text"=some (some (.ref f5)))(F5:Fun K "is_text" "is_text" wo2 f5 d5)(a6:PySem.W.nsIn K mainGlobals "name_of"=some (some (.ref f6)))(F6:Fun K "name_of" "name_of" wo3 f6 d6)(a7:PySem.W.nsIn K mainGlobals "parts_of"=some (some (.ref f7)))(F7:Fun K "parts_of" "parts_of" we3 f7 d7)(a8:PySem.W.nsIn K mainGlobals "part_at"=some (some (.ref f8)))(F8:Fun K "part_at" "part_at" wo4 f8 d8)(a9:PySem.W.nsIn K mainGlobals "names_above"=some (some (.ref f9)))(F9:Fun K "names_above" "names_above" qg4 f9 d9)(a10:PySem.W.nsIn K mainGlobals "way_to"=some (some (.ref f10)))(F10:Fun K "way_to" "way_to" xf5 f10 d10)(a11:PySem.W.nsIn K mainGlobals "places_in"=some (some (.ref f11)))(F11:Fun K "places_in" "places_in" qn8 f11 d11)(a12:PySem.W.nsIn K mainGlobals "placed_parts"=some (some (.ref f12)))(F12:Fun K "placed_parts" "placed_parts" ql1 f12 d12)(a13:PySem.W.nsIn K mainGlobals "steps_below"=some (some (.ref f13)))(F13:Fun K "steps_below" "steps_below" qg5 f13 d13)(a14:PySem.W.nsIn K mainGlobals "straight_above"=some (some (.ref f14)))(F14:Fun K "straight_above" "straight_above" qe6 f14 d14)(a15:PySem.W.nsIn K mainGlobals "near_of"=some (some (.ref f15)))(F15:Fun K "near_of" "near_of" wo5 f15 d15)(a16:PySem.W.nsIn K mainGlobals "fault_of"=some (some (.ref f16)))(F16:Fun K "fault_of" "fault_of" we4 f16 d16)(a17:PySem.W.nsIn K mainGlobals "fault_at"=some (some (.ref f17)))(F17:Fun K "fault_at" "fault_at" we5 f17 d17)(a18:PySem.W.nsIn K mainGlobals "follows_text"=some (some (.ref f18)))(F18:Fun K "follows_text" "follows_text" ql2 f18 d18)(a19:PySem.W.nsIn K mainGlobals "text_fault"=some (some (.ref f19)))(F19:Fun K "text_fault" "text_fault" qs9 f19 d19)(a20:PySem.W.nsIn K mainGlobals "tree_fault"=some (some (.ref f20)))(F20:Fun K "tree_fault" "tree_fault" qt0 f20 d20)(a21:PySem.W.nsIn K mainGlobals "frame_fault"=some (some (.ref f21)))(F21:Fun K "frame_fault" "frame_fault" qo4 f21 d21)(a22:PySem.W.nsIn K mainGlobals "near_fault"=some (some (.ref f22)))(F22:Fun K "near_fault" "near_fault" qt1 f22 d22)(a23:PySem.W.nsIn K mainGlobals "share_a_name"=some (some (.ref f23)))(F23:Fun K "share_a_name" "share_a_name" qd4 f23 d23)(a24:PySem.W.nsIn K mainGlobals "set_in"=some (some (.ref f24)))(F24:Fun K "set_in" "set_in" xf6 f24 d24)(a25:PySem.W.nsIn K mainGlobals "taken_out"=some (some (.ref f25)))(F25:Fun K "taken_out" "taken_out" wp8 f25 d25)(a26:PySem.W.nsIn K mainGlobals "put_around"=some (some (.ref f26)))(F26:Fun K "put_around" "put_around" wh9 f26 d26)(a27:PySem.W.nsIn K mainGlobals "lifted"=some (some (.ref f27)))(F27:Fun K "lifted" "lifted" yg8 f27 d27)(a28:PySem.W.nsIn K mainGlobals "parts_around"=some (some (.ref f28)))(F28:Fun K "parts_around" "parts_around" ql3 f28 d28)(a29:PySem.W.nsIn K mainGlobals "with_parts"=some (some (.ref f29)))(F29:Fun K "with_parts" "with_parts" qt2 f29 d29)(a30:PySem.W.nsIn K mainGlobals "joined"=some (some (.ref f30)))(F30:Fun K "joined" "joined" yg9 f30 d30)(a31:PySem.W.nsIn K mainGlobals "fitting"=some (some (.ref f31)))(F31:Fun K "fitting" "fitting" wo6 f31 d31)(a32:PySem.W.nsIn K mainGlobals "_law_numbers"=some (some (.ref f32)))(F32:Fun K "_law_numbers" "_law_numbers" ql4 f32 d32)(a33:PySem.W.nsIn K mainGlobals "_law_draw"=some (some (.ref f33)))(F33:Fun K "_law_draw" "_law_draw" qy0 f33 d33)(a34:PySem.W.nsIn K mainGlobals "_law_name"=some (some (.ref f34)))(F34:Fun K "_law_name" "_law_name" qy1 f34 d34)(a35:PySem.W.nsIn K mainGlobals "_law_sorts"=some (some (.ref f35)))(F35:Fun K "_law_sorts" "_law_sorts" qd5 f35 d35)(a36:PySem.W.nsIn K mainGlobals "_law_some"=some (some (.ref f36)))(F36:Fun K "_law_some" "_law_some" qy2 f36 d36)(a37:PySem.W.nsIn K mainGlobals "_law_book"=some (some (.ref f37)))(F37:Fun K "_law_book" "_law_book" X2 f37 d37)(a38:PySem.W.nsIn K mainGlobals "_law_text"=some (some (.ref f38)))(F38:Fun K "_law_text" "_law_text" qn9 f38 d38)(a39:PySem.W.nsIn K mainGlobals "_law_walk"=some (some (.ref f39)))(F39:Fun K "_law_walk" "_law_walk" qo0 f39 d39)(a40:PySem.W.nsIn K mainGlobals "_law_tree"=some (some (.ref f40)))(F40:Fun K "_law_tree" "_law_tree" qy3 f40 d40)(a41:PySem.W.nsIn K mainGlobals "_law_row"=some (some (.ref f41)))(F41:Fun K "_law_row" "_law_row" we6 f41 d41)(a42:PySem.W.nsIn K mainGlobals "_law_near"=some (some (.ref f42)))(F42:Fun K "_law_near" "_law_near" qy4 f42 d42)(a43:PySem.W.nsIn K mainGlobals "_law_fault"=some (some (.ref f43)))(F43:Fun K "_law_fault" "_law_fault" Y2 f43 d43)(a44:PySem.W.nsIn K mainGlobals "_law_faults"=some (some (.ref f44)))(F44:Fun K "_law_faults" "_law_faults" qo5 f44 d44)(a45:PySem.W.nsIn K mainGlobals "_law_grown"=some (some (.ref f45)))(F45:Fun K "_law_grown" "_law_grown" qt3 f45 d45)(a46:PySem.W.nsIn K mainGlobals "_law_put_parts"=some (some (.ref f46)))(F46:Fun K "_law_put_parts" "_law_put_parts" qe7 f46 d46)(a47:PySem.W.nsIn K mainGlobals "_law_first"=some (some (.ref f47)))(F47:Fun K "_law_first" "_law_first" qt4 f47 d47)(a48:PySem.W.nsIn K mainGlobals "_law_is_part"=some (some (.ref f48)))(F48:Fun K "_law_is_part" "_law_is_part" X3 f48 d48)(a49:PySem.W.nsIn K mainGlobals "_law_elder"=some (some (.ref f49)))(F49:Fun K "_law_elder" "_law_elder" qj4 f49 d49)(a50:PySem.W.nsIn K mainGlobals "_law_asked"=some (some (.ref f50)))(F50:Fun K "_law_asked" "_law_asked" qt5 f50 d50)(a51:PySem.W.nsIn K mainGlobals "_law_told"=some (some (.ref f51)))(F51:Fun K "_law_told" "_law_told" qy5 f51 d51)(a52:PySem.W.nsIn K mainGlobals "_law_right"=some (some (.ref f52)))(F52:Fun K "_law_right" "_law_right" qt6 f52 d52)(a53:PySem.W.nsIn K mainGlobals "_law_chained"=some (some (.ref f53)))(F53:Fun K "_law_chained" "_law_chained" X4 f53 d53)(a54:PySem.W.nsIn K mainGlobals "_law_at_end"=some (some (.ref f54)))(F54:Fun K "_law_at_end" "_law_at_end" qo6 f54 d54)(a55:PySem.W.nsIn K mainGlobals "_law_bit"=some (some (.ref f55)))(F55:Fun K "_law_bit" "_law_bit" we7 f55 d55)(a56:PySem.W.nsIn K mainGlobals "law"=some (some (.ref f56)))(F56:Fun K "law" "law" xs1 f56 d56)(a57:PySem.W.findIn K (.ref k_NoFit) "__init__"=some (some (.ref f57)))(F57:Fun K "__init__" "NoFit.__init__" wo7 f57 d57)(uNAME:PySem.W.nsIn K mainGlobals "NAME"=some (some (.int 0 k_NAME)))(uSORT:PySem.W.nsIn K mainGlobals "SORT"=some (some (.int 1 k_SORT)))(uHOST:PySem.W.nsIn K mainGlobals "HOST"=some (some (.int 2 k_HOST)))(uSHUTS:PySem.W.nsIn K mainGlobals "SHUTS"=some (some (.int 3 k_SHUTS)))(uBARS:PySem.W.nsIn K mainGlobals "BARS"=some (some (.int 4 k_BARS)))(uROOT_NAME:PySem.W.nsIn K mainGlobals "ROOT_NAME"=some (some (.str "" k_ROOT_NAME)))(uMOST_ABOVE:PySem.W.nsIn K mainGlobals "MOST_ABOVE"=some (some (.int 19 k_MOST_ABOVE)))(uWALL_SORTS:PySem.W.nsIn K mainGlobals "WALL_SORTS"=some (some (.ref c_WALL_SORTS)))(wWALL_SORTS:K.lookup c_WALL_SORTS=some ⟨.type "tuple",d_WALL_SORTS,.seq #[.str "room" k_WALL_SORTS_0,.str "frame" k_WALL_SORTS_1] n_WALL_SORTS,sl_WALL_SORTS⟩)(xNoPlace:PySem.W.excIn K k_NoPlace bmV "ValueError.__new__"=true)(qNoFit:wz2 K k_NoFit=true)(tfNoFit:PySem.W.typeIn K (.ref f57)=some (.type "function"))(kpNoFit:PySem.W.keepIn K (.ref k_NoFit)=true)(bxNoFit:PySem.W.subIn K (.ref k_NoFit) (.type "BaseException")=some true)(obNoFit:PySem.W.subIn K (.ref k_NoFit) (.type "object")=some true)(icNoFit:PySem.W.isClsIn K k_NoFit=true)(itNoFit:PySem.W.typeIn K (.ref k_NoFit)=some (.type "type"))(gaNoFit:PySem.W.findIn K (.ref k_NoFit) "__getattribute__"=some (some (.builtin "BaseException.__getattribute__")))(gnNoFit:PySem.W.findIn K (.ref k_NoFit) "__getattr__"=some none)(clNoFit:PySem.W.findIn K (.ref k_NoFit) "__class__"=some (some (.builtin "object.__class__")))(saNoFit:PySem.W.findIn K (.ref k_NoFit) "__setattr__"=some (some (.builtin "object.__setattr__")))(hy_ruleNoFit:PySem.W.findIn K (.ref k_NoFit) "rule"=some none)(hy_placeNoFit:PySem.W.findIn K (.ref k_NoFit) "place"=some none)(bgTagError:PySem.W.specialIn K (.ref k_TagError) "__getattribute__"=some (some (.builtin "type.__getattribute__")))(brTagError:PySem.W.readsIn K k_TagError (.type "type")=true)(beTagError:PySem.W.findCls K (.ref k_TagError) (.type "type") "__init__"=some (.val (.builtin "ValueError.__init__")))(rga_NoFit:PySem.W.findIn K (.ref k_NoFit) "__getattribute__"=some (some (.builtin "BaseException.__getattribute__")))(rgn_NoFit:PySem.W.findIn K (.ref k_NoFit) "__getattr__"=some none)(rcl_NoFit:PySem.W.findIn K (.ref k_NoFit) "__class__"=some (some (.builtin "object.__class__")))(rbx_NoFit:PySem.W.subIn K (.ref k_NoFit) (.type "BaseException")=some true)(rob_NoFit:PySem.W.subIn K (.ref k_NoFit) (.type "object")=some true)(rve_NoFit:PySem.W.subIn K (.ref k_NoFit) (.type "ValueError")=some true)(rs_NoFit_Ended:PySem.W.subIn K (.ref k_NoFit) (.ref k_Ended)=some false)(rs_NoFit_NoBook:PySem.W.subIn K (.ref k_NoFit) (.ref k_NoBook)=some false)(rs_NoFit_NoFit:PySem.W.subIn K (.ref k_NoFit) (.ref k_NoFit)=some true)(rs_NoFit_NoPlace:PySem.W.subIn K (.ref k_NoFit) (.ref k_NoPlace)=some false)(rs_NoFit_NoSpot:PySem.W.subIn K (.ref k_NoFit) (.ref k_NoSpot)=some false)(rs_NoFit_NoText:PySem.W.subIn K (.ref k_NoFit) (.ref k_NoText)=some false)(rs_NoFit_NotEnded:PySem.W.subIn K (.ref k_NoFit) (.ref k_NotEnded)=some false)(rga_NoPlace:PySem.W.findIn K (.ref k_NoPlace) "__getattribute__"=some (some (.builtin "BaseException.__getattribute__")))(rgn_NoPlace:PySem.W.findIn K (.ref k_NoPlace) "__getattr__"=some none)(rcl_NoPlace:PySem.W.findIn K (.ref k_NoPlace) "__class__"=some (some (.builtin "object.__class__")))(rbx_NoPlace:PySem.W.subIn K (.ref k_NoPlace) (.type "BaseException")=some true)(rob_NoPlace:PySem.W.subIn K (.ref k_NoPlace) (.type "object")=some true)(rve_NoPlace:PySem.W.subIn K (.ref k_NoPlace) (.type "ValueError")=some true)(rs_NoPlace_Ended:PySem.W.subIn K (.ref k_NoPlace) (.ref k_Ended)=some false)(rs_NoPlace_NoBook:PySem.W.subIn K (.ref k_NoPlace) (.ref k_NoBook)=some false)(rs_NoPlace_NoFit:PySem.W.subIn K (.ref k_NoPlace) (.ref k_NoFit)=some false)(rs_NoPlace_NoPlace:PySem.W.subIn K (.ref k_NoPlace) (.ref k_NoPlace)=some true)(rs_NoPlace_NoSpot:PySem.W.subIn K (.ref k_NoPlace) (.ref k_NoSpot)=some false)(rs_NoPlace_NoText:PySem.W.subIn K (.ref k_NoPlace) (.ref k_NoText)=some false)(rs_NoPlace_NotEnded:PySem.W.subIn K (.ref k_NoPlace) (.ref k_NotEnded)=some false)(ric_Ended:PySem.W.isClsIn K k_Ended=true)(rit_Ended:PySem.W.typeIn K (.ref k_Ended)=some (.type "type"))(ric_NoBook:PySem.W.isClsIn K k_NoBook=true)(rit_NoBook:PySem.W.typeIn K (.ref k_NoBook)=some (.type "type"))(ric_NoFit:PySem.W.isClsIn K k_NoFit=true)(rit_NoFit:PySem.W.typeIn K (.ref k_NoFit)=some (.type "type"))(ric_NoPlace:PySem.W.isClsIn K k_NoPlace=true)(rit_NoPlace:PySem.W.typeIn K (.ref k_NoPlace)=some (.type "type"))(ric_NoSpot:PySem.W.isClsIn K k_NoSpot=true)(rit_NoSpot:PySem.W.typeIn K (.ref k_NoSpot)=some (.type "type"))(ric_NoText:PySem.W.isClsIn K k_NoText=true)(rit_NoText:PySem.W.typeIn K (.ref k_NoText)=some (.type "type"))(ric_NotEnded:PySem.W.isClsIn K k_NotEnded=true)(rit_NotEnded:PySem.W.typeIn K (.ref k_NotEnded)=some (.type "type"))(yNoFit_TagError:PySem.W.exmOne K (.ref k_NoFit) (.ref k_TagError)=some true)(yNoPlace_TagError:PySem.W.exmOne K (.ref k_NoPlace) (.ref k_TagError)=some true)(zValueError:PySem.W.nsIn K mainGlobals "ValueError"=some none)(zany:PySem.W.nsIn K mainGlobals "any"=some none)(zenumerate:PySem.W.nsIn K mainGlobals "enumerate"=some none)(zint:PySem.W.nsIn K mainGlobals "int"=some none)(zisinstance:PySem.W.nsIn K mainGlobals "isinstance"=some none)(zlen:PySem.W.nsIn K mainGlobals "len"=some none)(zlist:PySem.W.nsIn K mainGlobals "list"=some none)(zmax:PySem.W.nsIn K mainGlobals "max"=some none)(zrange:PySem.W.nsIn K mainGlobals "range"=some none)(zreversed:PySem.W.nsIn K mainGlobals "reversed"=some none)(zsorted:PySem.W.nsIn K mainGlobals "sorted"=some none)(zstr:PySem.W.nsIn K mainGlobals "str"=some none)(zsum:PySem.W.nsIn K mainGlobals "sum"=some none)(ztuple:PySem.W.nsIn K mainGlobals "tuple"=some none) :
 ∃ fd:FuncData,(∀ (s:Shared) (v:Value),BindsTo s fd ⟨[v],[]⟩ [("_law_script",v)])/\∀ base:Heap,K.In base->base.Ns mainGlobals mg->M0 l.prog w K mg base CX0 48 fa fd ["_law_script"] (wn8 K):=by
 have e:=hfa.symm.trans (PySem.W.mg_of X G a56)
 have e:f56=fa:=by cases e;rfl
 subst e
 obtain⟨_,_,kV,dc,pm,an,cd,ct,_,rfl,_,_⟩:=id F56.ex
 have b0:=F0.binds (ps:=["rows","name"]) fun _ _ _ _ _ _ us hl=>by obtain⟨_,_,rfl⟩:=ln2 hl;rfl
 have b1:=F1.binds (ps:=["book","name"]) fun _ _ _ _ _ _ us hl=>by obtain⟨_,_,rfl⟩:=ln2 hl;rfl
 have b2:=F2.binds (ps:=["book","name"]) fun _ _ _ _ _ _ us hl=>by obtain⟨_,_,rfl⟩:=ln2 hl;rfl
 have b3:=F3.binds (ps:=["book","name"]) fun _ _ _ _ _ _ us hl=>by obtain⟨_,_,rfl⟩:=ln2 hl;rfl
 have b4:=F4.binds (ps:=["book","name"]) fun _ _ _ _ _ _ us hl=>by obtain⟨_,_,rfl⟩:=ln2 hl;rfl
 have b5:=F5.binds (ps:=["part"]) fun _ _ _ _ _ _ us hl=>by obtain⟨_,rfl⟩:=ln1 hl;rfl
 have b6:=F6.binds (ps:=["tree"]) fun _ _ _ _ _ _ us hl=>by obtain⟨_,rfl⟩:=ln1 hl;rfl
 have b7:=F7.binds (ps:=["part"]) fun _ _ _ _ _ _ us hl=>by obtain⟨_,rfl⟩:=ln1 hl;rfl
 have b8:=F8.binds (ps:=["tree","place"]) fun _ _ _ _ _ _ us hl=>by obtain⟨_,_,rfl⟩:=ln2 hl;rfl
 have b9:=F9.binds (ps:=["tree","place"]) fun _ _ _ _ _ _ us hl=>by obtain⟨_,_,rfl⟩:=ln2 hl;rfl
 have b10:=F10.binds (ps:=["tree","place"]) fun _ _ _ _ _ _ us hl=>by obtain⟨_,_,rfl⟩:=ln2 hl;rfl
 have b11:=F11.binds (ps:=["tree"]) fun _ _ _ _ _ _ us hl=>by obtain⟨_,rfl⟩:=ln1 hl;rfl
 have b12:=F12.binds (ps:=["tree"]) fun _ _ _ _ _ _ us hl=>by obtain⟨_,rfl⟩:=ln1 hl;rfl
 have b13:=F13.binds (ps:=["place","part"]) fun _ _ _ _ _ _ us hl=>by obtain⟨_,_,rfl⟩:=ln2 hl;rfl
 have b14:=F14.binds (ps:=["names"]) fun _ _ _ _ _ _ us hl=>by obtain⟨_,rfl⟩:=ln1 hl;rfl
 have b15:=F15.binds (ps:=["book","names"]) fun _ _ _ _ _ _ us hl=>by obtain⟨_,_,rfl⟩:=ln2 hl;rfl
 have b16:=F16.binds (ps:=["book","tree"]) fun _ _ _ _ _ _ us hl=>by obtain⟨_,_,rfl⟩:=ln2 hl;rfl
 have b17:=F17.binds (ps:=["book","tree","place"]) fun _ _ _ _ _ _ us hl=>by obtain⟨_,_,_,rfl⟩:=ln3 hl;rfl
 have b18:=F18.binds (ps:=["tree","place"]) fun _ _ _ _ _ _ us hl=>by obtain⟨_,_,rfl⟩:=ln2 hl;rfl
 have b19:=F19.binds (ps:=["book","names","text","beside"]) fun _ _ _ _ _ _ us hl=>by obtain⟨_,_,_,_,rfl⟩:=ln4 hl;rfl
 have b20:=F20.binds (ps:=["book","names","tree"]) fun _ _ _ _ _ _ us hl=>by obtain⟨_,_,_,rfl⟩:=ln3 hl;rfl
 have b21:=F21.binds (ps:=["book","names","name"]) fun _ _ _ _ _ _ us hl=>by obtain⟨_,_,_,rfl⟩:=ln3 hl;rfl
 have b22:=F22.binds (ps:=["book","names","name"]) fun _ _ _ _ _ _ us hl=>by obtain⟨_,_,_,rfl⟩:=ln3 hl;rfl
 have b23:=F23.binds (ps:=["names","others"]) fun _ _ _ _ _ _ us hl=>by obtain⟨_,_,rfl⟩:=ln2 hl;rfl
 have b24:=F24.binds (ps:=["book","tree","place","bit"]) fun _ _ _ _ _ _ us hl=>by obtain⟨_,_,_,_,rfl⟩:=ln4 hl;rfl
 have b25:=F25.binds (ps:=["book","tree","place"]) fun _ _ _ _ _ _ us hl=>by obtain⟨_,_,_,rfl⟩:=ln3 hl;rfl
 have b26:=F26.binds (ps:=["book","tree","place","stop","name"]) fun _ _ _ _ _ _ us hl=>by obtain⟨_,_,_,_,_,rfl⟩:=ln5 hl;rfl
 have b27:=F27.binds (ps:=["book","tree","place"]) fun _ _ _ _ _ _ us hl=>by obtain⟨_,_,_,rfl⟩:=ln3 hl;rfl
 have b28:=F28.binds (ps:=["tree","place","beyond"]) fun _ _ _ _ _ _ us hl=>by obtain⟨_,_,_,rfl⟩:=ln3 hl;rfl
 have b29:=F29.binds (ps:=["tree","place","parts"]) fun _ _ _ _ _ _ us hl=>by obtain⟨_,_,_,rfl⟩:=ln3 hl;rfl
 have b30:=F30.binds (ps:=["parts"]) fun _ _ _ _ _ _ us hl=>by obtain⟨_,rfl⟩:=ln1 hl;rfl
 have b31:=F31.binds (ps:=["book","tree"]) fun _ _ _ _ _ _ us hl=>by obtain⟨_,_,rfl⟩:=ln2 hl;rfl
 have b32:=F32.binds (ps:=["_law_script","_law_most"]) fun _ _ _ _ _ _ us hl=>by obtain⟨_,_,rfl⟩:=ln2 hl;rfl
 have b33:=F33.binds (ps:=["_law_deck","_law_most"]) fun _ _ _ _ _ _ us hl=>by obtain⟨_,_,rfl⟩:=ln2 hl;rfl
 have b34:=F34.binds (ps:=["_law_code","_law_k"]) fun _ _ _ _ _ _ us hl=>by obtain⟨_,_,rfl⟩:=ln2 hl;rfl
 have b35:=F35.binds (ps:=["_law_deck","_law_count"]) fun _ _ _ _ _ _ us hl=>by obtain⟨_,_,rfl⟩:=ln2 hl;rfl
 have b36:=F36.binds (ps:=["_law_deck","_law_names"]) fun _ _ _ _ _ _ us hl=>by obtain⟨_,_,rfl⟩:=ln2 hl;rfl
 have b37:=F37.binds (ps:=["_law_deck","_law_code","_law_most"]) fun _ _ _ _ _ _ us hl=>by obtain⟨_,_,_,rfl⟩:=ln3 hl;rfl
 have b38:=F38.binds (ps:=["_law_deck"]) fun _ _ _ _ _ _ us hl=>by obtain⟨_,rfl⟩:=ln1 hl;rfl
 have b39:=F39.binds (ps:=["_law_tree_here"]) fun _ _ _ _ _ _ us hl=>by obtain⟨_,rfl⟩:=ln1 hl;rfl
 have b40:=F40.binds (ps:=["_law_deck","_law_book_here","_law_code","_law_deep"]) fun _ _ _ _ _ _ us hl=>by obtain⟨_,_,_,_,rfl⟩:=ln4 hl;rfl
 have b41:=F41.binds (ps:=["_law_book_here","_law_name_here"]) fun _ _ _ _ _ _ us hl=>by obtain⟨_,_,rfl⟩:=ln2 hl;rfl
 have b42:=F42.binds (ps:=["_law_book_here","_law_names"]) fun _ _ _ _ _ _ us hl=>by obtain⟨_,_,rfl⟩:=ln2 hl;rfl
 have b43:=F43.binds (ps:=["_law_book_here","_law_names","_law_part","_law_ahead"]) fun _ _ _ _ _ _ us hl=>by obtain⟨_,_,_,_,rfl⟩:=ln4 hl;rfl
 have b44:=F44.binds (ps:=["_law_book_here","_law_tree_here"]) fun _ _ _ _ _ _ us hl=>by obtain⟨_,_,rfl⟩:=ln2 hl;rfl
 have b45:=F45.binds (ps:=["_law_deck","_law_book_here","_law_names","_law_deep"]) fun _ _ _ _ _ _ us hl=>by obtain⟨_,_,_,_,rfl⟩:=ln4 hl;rfl
 have b46:=F46.binds (ps:=["_law_tree_here","_law_place","_law_parts"]) fun _ _ _ _ _ _ us hl=>by obtain⟨_,_,_,rfl⟩:=ln3 hl;rfl
 have b47:=F47.binds (ps:=["_law_book_here","_law_tree_here"]) fun _ _ _ _ _ _ us hl=>by obtain⟨_,_,rfl⟩:=ln2 hl;rfl
 have b48:=F48.binds (ps:=["_law_found"]) fun _ _ _ _ _ _ us hl=>by obtain⟨_,rfl⟩:=ln1 hl;rfl
 have b49:=F49.binds (ps:=["_law_deck","_law_tree_here"]) fun _ _ _ _ _ _ us hl=>by obtain⟨_,_,rfl⟩:=ln2 hl;rfl
 have b50:=F50.binds (ps:=["_law_way","_law_book_here","_law_tree_here","_law_place","_law_thing","_law_stop"]) fun _ _ _ _ _ _ us hl=>by obtain⟨_,_,_,_,_,_,rfl⟩:=ln6 hl;rfl
 have b51:=F51.binds (ps:=["_law_way","_law_book_here","_law_tree_here","_law_place","_law_thing","_law_stop"]) fun _ _ _ _ _ _ us hl=>by obtain⟨_,_,_,_,_,_,rfl⟩:=ln6 hl;rfl
 have b52:=F52.binds (ps:=["_law_told_here","_law_book_here","_law_made"]) fun _ _ _ _ _ _ us hl=>by obtain⟨_,_,_,rfl⟩:=ln3 hl;rfl
 have b53:=F53.binds (ps:=["_law_deck","_law_book_here"]) fun _ _ _ _ _ _ us hl=>by obtain⟨_,_,rfl⟩:=ln2 hl;rfl
 have b54:=F54.binds (ps:=["_law_deck","_law_tree_here","_law_many"]) fun _ _ _ _ _ _ us hl=>by obtain⟨_,_,_,rfl⟩:=ln3 hl;rfl
 have b55:=F55.binds (ps:=["_law_deck","_law_book_here","_law_code"]) fun _ _ _ _ _ _ us hl=>by obtain⟨_,_,_,rfl⟩:=ln3 hl;rfl
 have b56:=F56.binds (ps:=["_law_script"]) fun _ _ _ _ _ _ us hl=>by obtain⟨_,rfl⟩:=ln1 hl;rfl
 have b57:=F57.binds (ps:=["self","rule","place"]) fun _ _ _ _ _ _ us hl=>by obtain⟨_,_,_,rfl⟩:=ln3 hl;rfl
 let t:Adr:={za:=⟨f0,d0⟩,zb:=⟨f1,d1⟩,zc:=⟨f2,d2⟩,zd:=⟨f3,d3⟩,ze:=⟨f4,d4⟩,zf:=⟨f5,d5⟩,zg:=⟨f6,d6⟩,zh:=⟨f7,d7⟩,zi:=⟨f8,d8⟩,zj:=⟨f9,d9⟩,zk:=⟨f10,d10⟩,zl:=⟨f11,d11⟩,zm:=⟨f12,d12⟩,zn:=⟨f13,d13⟩,zo:=⟨f14,d14⟩,zr:=⟨f15,d15⟩,zt:=⟨f16,d16⟩,zu:=⟨f17,d17⟩,zv:=⟨f18,d18⟩,zw:=⟨f19,d19⟩,zx:=⟨f20,d20⟩,zy:=⟨f21,d21⟩,zz:=⟨f22,d22⟩,ya:=⟨f23,d23⟩,yc:=⟨f24,d24⟩,yd:=⟨f25,d25⟩,ye:=⟨f26,d26⟩,yf:=⟨f27,d27⟩,yg:=⟨f28,d28⟩,yh:=⟨f29,d29⟩,yi:=⟨f30,d30⟩,yj:=⟨f31,d31⟩,yk:=⟨f32,d32⟩,yl:=⟨f33,d33⟩,ym:=⟨f34,d34⟩,yn:=⟨f35,d35⟩,yo:=⟨f36,d36⟩,yp:=⟨f37,d37⟩,yq:=⟨f38,d38⟩,yr:=⟨f39,d39⟩,yt:=⟨f40,d40⟩,yu:=⟨f41,d41⟩,yw:=⟨f42,d42⟩,yx:=⟨f43,d43⟩,yy:=⟨f44,d44⟩,yz:=⟨f45,d45⟩,xb:=⟨f46,d46⟩,xc:=⟨f47,d47⟩,xf:=⟨f48,d48⟩,xg:=⟨f49,d49⟩,xh:=⟨f50,d50⟩,xi:=⟨f51,d51⟩,xj:=⟨f52,d52⟩,xk:=⟨f53,d53⟩,xl:=⟨f54,d54⟩,xm:=⟨f55,d55⟩,xn:=⟨f56,PySem.W.fnOf "law" "law" (wf4 xs1) (qq7 xs1) (B4 xs1) .none kV dc pm an cd ct⟩,a_i_NoFit:=f57,d_i_NoFit:=d57,v_NAME:=.int 0 k_NAME,v_SORT:=.int 1 k_SORT,v_HOST:=.int 2 k_HOST,v_SHUTS:=.int 3 k_SHUTS,v_BARS:=.int 4 k_BARS,v_ROOT_NAME:=.str "" k_ROOT_NAME,v_MOST_ABOVE:=.int 19 k_MOST_ABOVE,c_WALL_SORTS:=c_WALL_SORTS,k_Ended:=k_Ended,k_NoBook:=k_NoBook,k_NoFit:=k_NoFit,k_NoPlace:=k_NoPlace,k_NoSpot:=k_NoSpot,k_NoText:=k_NoText,k_NotEnded:=k_NotEnded,k_TagError:=k_TagError}
 have T:Txt K mg t:=⟨⟨F0,b0,PySem.W.mg_of X G a0⟩,⟨F1,b1,PySem.W.mg_of X G a1⟩,⟨F2,b2,PySem.W.mg_of X G a2⟩,⟨F3,b3,PySem.W.mg_of X G a3⟩,⟨F4,b4,PySem.W.mg_of X G a4⟩,⟨F5,b5,PySem.W.mg_of X G a5⟩,⟨F6,b6,PySem.W.mg_of X G a6⟩,⟨F7,b7,PySem.W.mg_of X G a7⟩,⟨F8,b8,PySem.W.mg_of X G a8⟩,⟨F9,b9,PySem.W.mg_of X G a9⟩,⟨F10,b10,PySem.W.mg_of X G a10⟩,⟨F11,b11,PySem.W.mg_of X G a11⟩,⟨F12,b12,PySem.W.mg_of X G a12⟩,⟨F13,b13,PySem.W.mg_of X G a13⟩,⟨F14,b14,PySem.W.mg_of X G a14⟩,⟨F15,b15,PySem.W.mg_of X G a15⟩,⟨F16,b16,PySem.W.mg_of X G a16⟩,⟨F17,b17,PySem.W.mg_of X G a17⟩,⟨F18,b18,PySem.W.mg_of X G a18⟩,⟨F19,b19,PySem.W.mg_of X G a19⟩,⟨F20,b20,PySem.W.mg_of X G a20⟩,⟨F21,b21,PySem.W.mg_of X G a21⟩,⟨F22,b22,PySem.W.mg_of X G a22⟩,⟨F23,b23,PySem.W.mg_of X G a23⟩,⟨F24,b24,PySem.W.mg_of X G a24⟩,⟨F25,b25,PySem.W.mg_of X G a25⟩,⟨F26,b26,PySem.W.mg_of X G a26⟩,⟨F27,b27,PySem.W.mg_of X G a27⟩,⟨F28,b28,PySem.W.mg_of X G a28⟩,⟨F29,b29,PySem.W.mg_of X G a29⟩,⟨F30,b30,PySem.W.mg_of X G a30⟩,⟨F31,b31,PySem.W.mg_of X G a31⟩,⟨F32,b32,PySem.W.mg_of X G a32⟩,⟨F33,b33,PySem.W.mg_of X G a33⟩,⟨F34,b34,PySem.W.mg_of X G a34⟩,⟨F35,b35,PySem.W.mg_of X G a35⟩,⟨F36,b36,PySem.W.mg_of X G a36⟩,⟨F37,b37,PySem.W.mg_of X G a37⟩,⟨F38,b38,PySem.W.mg_of X G a38⟩,⟨F39,b39,PySem.W.mg_of X G a39⟩,⟨F40,b40,PySem.W.mg_of X G a40⟩,⟨F41,b41,PySem.W.mg_of X G a41⟩,⟨F42,b42,PySem.W.mg_of X G a42⟩,⟨F43,b43,PySem.W.mg_of X G a43⟩,⟨F44,b44,PySem.W.mg_of X G a44⟩,⟨F45,b45,PySem.W.mg_of X G a45⟩,⟨F46,b46,PySem.W.mg_of X G a46⟩,⟨F47,b47,PySem.W.mg_of X G a47⟩,⟨F48,b48,PySem.W.mg_of X G a48⟩,⟨F49,b49,PySem.W.mg_of X G a49⟩,⟨F50,b50,PySem.W.mg_of X G a50⟩,⟨F51,b51,PySem.W.mg_of X G a51⟩,⟨F52,b52,PySem.W.mg_of X G a52⟩,⟨F53,b53,PySem.W.mg_of X G a53⟩,⟨F54,b54,PySem.W.mg_of X G a54⟩,⟨F55,b55,PySem.W.mg_of X G a55⟩,⟨F56,b56,PySem.W.mg_of X G a56⟩,F57,b57,⟨PySem.W.mg_of X G eNoFit,qNoFit,a57,tfNoFit,kpNoFit,bxNoFit,⟨icNoFit,itNoFit⟩⟩,PySem.W.mg_of X G uWALL_SORTS,fun _=>.inr ⟨_,_,_,wWALL_SORTS,rfl,rfl,by rw[sizeLine_eq];show 2<=_;decide,(.cons ⟨_,rfl⟩ (.cons ⟨_,rfl⟩ .nil))⟩,⟨PySem.W.mg_of X G uNAME,⟨_,rfl⟩⟩,⟨PySem.W.mg_of X G uSORT,⟨_,rfl⟩⟩,⟨PySem.W.mg_of X G uHOST,⟨_,rfl⟩⟩,⟨PySem.W.mg_of X G uSHUTS,⟨_,rfl⟩⟩,⟨PySem.W.mg_of X G uBARS,⟨_,rfl⟩⟩,⟨PySem.W.mg_of X G uROOT_NAME,⟨_,rfl⟩⟩,⟨PySem.W.mg_of X G uMOST_ABOVE,⟨_,rfl⟩⟩,PySem.W.mg_none_of X G zValueError,PySem.W.mg_none_of X G zany,PySem.W.mg_none_of X G zenumerate,PySem.W.mg_none_of X G zint,PySem.W.mg_none_of X G zisinstance,PySem.W.mg_none_of X G zlen,PySem.W.mg_none_of X G zlist,PySem.W.mg_none_of X G zmax,PySem.W.mg_none_of X G zrange,PySem.W.mg_none_of X G zreversed,PySem.W.mg_none_of X G zsorted,PySem.W.mg_none_of X G zstr,PySem.W.mg_none_of X G zsum,PySem.W.mg_none_of X G ztuple,PySem.W.mg_of X G eEnded,PySem.W.mg_of X G eNoBook,PySem.W.mg_of X G eNoFit,PySem.W.mg_of X G eNoPlace,PySem.W.mg_of X G eNoSpot,PySem.W.mg_of X G eNoText,PySem.W.mg_of X G eNotEnded,PySem.W.mg_of X G eTagError,⟨PySem.W.mg_of X G eNoPlace,xNoPlace⟩,⟨rga_NoFit,rgn_NoFit,rcl_NoFit,rbx_NoFit,rob_NoFit,rve_NoFit,rs_NoFit_Ended,rs_NoFit_NoBook,rs_NoFit_NoFit,rs_NoFit_NoPlace,rs_NoFit_NoSpot,rs_NoFit_NoText,rs_NoFit_NotEnded,rga_NoPlace,rgn_NoPlace,rcl_NoPlace,rbx_NoPlace,rob_NoPlace,rve_NoPlace,rs_NoPlace_Ended,rs_NoPlace_NoBook,rs_NoPlace_NoFit,rs_NoPlace_NoPlace,rs_NoPlace_NoSpot,rs_NoPlace_NoText,rs_NoPlace_NotEnded,ric_Ended,rit_Ended,ric_NoBook,rit_NoBook,ric_NoFit,rit_NoFit,ric_NoPlace,rit_NoPlace,ric_NoSpot,rit_NoSpot,ric_NoText,rit_NoText,ric_NotEnded,rit_NotEnded⟩,yNoFit_TagError,yNoPlace_TagError,⟨qNoFit,saNoFit,hy_ruleNoFit⟩,⟨⟨gaNoFit,gnNoFit,clNoFit,bxNoFit,obNoFit⟩,qNoFit,hy_ruleNoFit⟩,⟨qNoFit,saNoFit,hy_placeNoFit⟩,⟨⟨gaNoFit,gnNoFit,clNoFit,bxNoFit,obNoFit⟩,qNoFit,hy_placeNoFit⟩,⟨PySem.W.mg_of X G eTagError,bgTagError,brTagError,beTagError⟩⟩
 exact⟨_,fun s v=>.of_eq rfl,fun base _ _=>Ae8 T⟩
theorem walk{l:PySem.W.OpenLaw}{q:Program}{loose:List Str}{XP:(Str->Option Value)->Heap->Prop}{as:List Addr}{t:Nat}{d:DefRec}{K:Params->Fg}(hn:l.most=some 63)(hdf:d.params.defaults=[])(hk:∀ P,as=(K P).map (·.1))(h0:0<t) (F:∀ (w:World) (mg:Str->Option Value) (fa:Addr) (h:Heap),(K w.params).In h->h.Ns mainGlobals mg->mg d.name=some (.ref fa) ->
  ∃ fd:FuncData,(∀ (s:Shared) (u:Value),BindsTo s fd ⟨[u],[]⟩ [("_law_script",u)])/\∀ base:Heap,(K w.params).In base->base.Ns mainGlobals mg->M0 l.prog w (K w.params) mg base CX0 48 fa fd ["_law_script"] (wn8 (K w.params))) :
 PySem.W.WalkX q loose XP (PySem.W.X.obsZ as) (PySem.W.X.valZ K z t) l.row.toRowW d [] (fun f vs=>PySem.call f vs) :=
 L2.zm7 (n:=63) (k:=48) (x := "_law_script") (CX:=fun _=>CX0) (sp:=fun w=>wn8 (K w.params)) hn (by decide) hdf ⟨rfl,by decide,by decide,rfl⟩ hk h0 F (fun _ _ a ns hl _ hS=>⟨a,ns,rfl,hS,hl,fun _=>rfl⟩) fun _ _ _ _ _ z=>z
end
end My
open PySem PySem.W PyProof.Rows
local macro_rules | `(tactic| x_go) => `(tactic| (refine' L2.zy6 ?l ?c ?k; (case l => k_is); (case c => k_is); (case k => k_is)))
set_option maxRecDepth 100000 in
set_option maxHeartbeats 0 in
theorem PySem.Challenge.cw_tagmend_k70_set_in_holds : PySem.Challenge.rw_tagmend_k70_set_in.Holds := by
 w_on;o_law;z_head;(case hw=>w_witness2)
 k_fill
 refine My.walk (l:=PySem.Challenge.rw_tagmend_k70_set_in) rfl rfl (fun _=>rfl) (by decide) ?F
 case F =>
  intro w mg fa h KX G hmg
  refine' My.all_mk KX G hmg ?eEnded ?eNoBook ?eNoFit ?eNoPlace ?eNoSpot ?eNoText ?eNotEnded ?eTagError ?a0 ?F0 ?a1 ?F1 ?a2 ?F2 ?a3 ?F3 ?a4 ?F4 ?a5 ?F5 ?a6 ?F6 ?a7 ?F7 ?a8 ?F8 ?a9 ?F9 ?a10 ?F10 ?a11 ?F11 ?a12 ?F12 ?a13 ?F13 ?a14 ?F14 ?a15 ?F15 ?a16 ?F16 ?a17 ?F17 ?a18 ?F18 ?a19 ?F19 ?a20 ?F20 ?a21 ?F21 ?a22 ?F22 ?a23 ?F23 ?a24 ?F24 ?a25 ?F25 ?a26 ?F26 ?a27 ?F27 ?a28 ?F28 ?a29 ?F29 ?a30 ?F30 ?a31 ?F31 ?a32 ?F32 ?a33 ?F33 ?a34 ?F34 ?a35 ?F35 ?a36 ?F36 ?a37 ?F37 ?a38 ?F38 ?a39 ?F39 ?a40 ?F40 ?a41 ?F41 ?a42 ?F42 ?a43 ?F43 ?a44 ?F44 ?a45 ?F45 ?a46 ?F46 ?a47 ?F47 ?a48 ?F48 ?a49 ?F49 ?a50 ?F50 ?a51 ?F51 ?a52 ?F52 ?a53 ?F53 ?a54 ?F54 ?a55 ?F55 ?a56 ?F56 ?a57 ?F57 ?uWALL_SORTS ?wWALL_SORTS ?uNAME ?uSORT ?uHOST ?uSHUTS ?uBARS ?uROOT_NAME ?uMOST_ABOVE ?xNoPlace ?qNoFit ?tfNoFit ?kpNoFit ?bxNoFit ?obNoFit ?icNoFit ?itNoFit ?gaNoFit ?gnNoFit ?clNoFit ?saNoFit ?hy_ruleNoFit ?hy_placeNoFit ?bgTagError ?brTagError ?beTagError ?rga_NoFit ?rgn_NoFit ?rcl_NoFit ?rbx_NoFit ?rob_NoFit ?rve_NoFit ?rs_NoFit_Ended ?rs_NoFit_NoBook ?rs_NoFit_NoFit ?rs_NoFit_NoPlace ?rs_NoFit_NoSpot ?rs_NoFit_NoText ?rs_NoFit_NotEnded ?rga_NoPlace ?rgn_NoPlace ?rcl_NoPlace ?rbx_NoPlace ?rob_NoPlace ?rve_NoPlace ?rs_NoPlace_Ended ?rs_NoPlace_NoBook ?rs_NoPlace_NoFit ?rs_NoPlace_NoPlace ?rs_NoPlace_NoSpot ?rs_NoPlace_NoText ?rs_NoPlace_NotEnded ?ric_Ended ?rit_Ended ?ric_NoBook ?rit_NoBook ?ric_NoFit ?rit_NoFit ?ric_NoPlace ?rit_NoPlace ?ric_NoSpot ?rit_NoSpot ?ric_NoText ?rit_NoText ?ric_NotEnded ?rit_NotEnded ?yNoFit_TagError ?yNoPlace_TagError ?zValueError ?zany ?zenumerate ?zint ?zisinstance ?zlen ?zlist ?zmax ?zrange ?zreversed ?zsorted ?zstr ?zsum ?ztuple
  (case eEnded=>k_is);(case eNoBook=>k_is);(case eNoFit=>k_is);(case eNoPlace=>k_is)
  (case eNoSpot=>k_is);(case eNoText=>k_is);(case eNotEnded=>k_is);(case eTagError=>k_is)
  (case a0=>k_is);(case F0=>x_go);(case a1=>k_is);(case F1=>x_go)
  (case a2=>k_is);(case F2=>x_go);(case a3=>k_is);(case F3=>x_go)
  (case a4=>k_is);(case F4=>x_go);(case a5=>k_is);(case F5=>x_go)
  (case a6=>k_is);(case F6=>x_go);(case a7=>k_is);(case F7=>x_go)
  (case a8=>k_is);(case F8=>x_go);(case a9=>k_is);(case F9=>x_go)
  (case a10=>k_is);(case F10=>x_go);(case a11=>k_is);(case F11=>x_go)
  (case a12=>k_is);(case F12=>x_go);(case a13=>k_is);(case F13=>x_go)
  (case a14=>k_is);(case F14=>x_go);(case a15=>k_is);(case F15=>x_go)
  (case a16=>k_is);(case F16=>x_go);(case a17=>k_is);(case F17=>x_go)
  (case a18=>k_is);(case F18=>x_go);(case a19=>k_is);(case F19=>x_go)
  (case a20=>k_is);(case F20=>x_go);(case a21=>k_is);(case F21=>x_go)
  (case a22=>k_is);(case F22=>x_go);(case a23=>k_is);(case F23=>x_go)
  (case a24=>k_is);(case F24=>x_go);(case a25=>k_is);(case F25=>x_go)
  (case a26=>k_is);(case F26=>x_go);(case a27=>k_is);(case F27=>x_go)
  (case a28=>k_is);(case F28=>x_go);(case a29=>k_is);(case F29=>x_go)
  (case a30=>k_is);(case F30=>x_go);(case a31=>k_is);(case F31=>x_go)
  (case a32=>k_is);(case F32=>x_go);(case a33=>k_is);(case F33=>x_go)
  (case a34=>k_is);(case F34=>x_go);(case a35=>k_is);(case F35=>x_go)
  (case a36=>k_is);(case F36=>x_go);(case a37=>k_is);(case F37=>x_go)
  (case a38=>k_is);(case F38=>x_go);(case a39=>k_is);(case F39=>x_go)
  (case a40=>k_is);(case F40=>x_go);(case a41=>k_is);(case F41=>x_go)
  (case a42=>k_is);(case F42=>x_go);(case a43=>k_is);(case F43=>x_go)
  (case a44=>k_is);(case F44=>x_go);(case a45=>k_is);(case F45=>x_go)
  (case a46=>k_is);(case F46=>x_go);(case a47=>k_is);(case F47=>x_go)
  (case a48=>k_is);(case F48=>x_go);(case a49=>k_is);(case F49=>x_go)
  (case a50=>k_is);(case F50=>x_go);(case a51=>k_is);(case F51=>x_go)
  (case a52=>k_is);(case F52=>x_go);(case a53=>k_is);(case F53=>x_go)
  (case a54=>k_is);(case F54=>x_go);(case a55=>k_is);(case F55=>x_go)
  (case a56=>k_is);(case F56=>x_go);(case a57=>k_is);(case F57=>x_go)
  (case uWALL_SORTS=>k_is);(case wWALL_SORTS=>k_is);(case uNAME=>k_is);(case uSORT=>k_is)
  (case uHOST=>k_is);(case uSHUTS=>k_is);(case uBARS=>k_is);(case uROOT_NAME=>k_is)
  (case uMOST_ABOVE=>k_is);(case xNoPlace=>k_exc);(case qNoFit=>kernel_rfl);(case tfNoFit=>k_is)
  (case kpNoFit=>k_is);(case bxNoFit=>k_is);(case obNoFit=>k_is);(case icNoFit=>k_is)
  (case itNoFit=>k_is);(case gaNoFit=>k_is);(case gnNoFit=>k_is);(case clNoFit=>k_is)
  (case saNoFit=>k_is);(case hy_ruleNoFit=>k_is);(case hy_placeNoFit=>k_is);(case bgTagError=>k_is)
  (case brTagError=>k_is);(case beTagError=>k_is);(case rga_NoFit=>k_is);(case rgn_NoFit=>k_is)
  (case rcl_NoFit=>k_is);(case rbx_NoFit=>k_is);(case rob_NoFit=>k_is);(case rve_NoFit=>k_is)
  (case rs_NoFit_Ended=>k_is);(case rs_NoFit_NoBook=>k_is);(case rs_NoFit_NoFit=>k_is);(case rs_NoFit_NoPlace=>k_is)
  (case rs_NoFit_NoSpot=>k_is);(case rs_NoFit_NoText=>k_is);(case rs_NoFit_NotEnded=>k_is);(case rga_NoPlace=>k_is)
  (case rgn_NoPlace=>k_is);(case rcl_NoPlace=>k_is);(case rbx_NoPlace=>k_is);(case rob_NoPlace=>k_is)
  (case rve_NoPlace=>k_is);(case rs_NoPlace_Ended=>k_is);(case rs_NoPlace_NoBook=>k_is);(case rs_NoPlace_NoFit=>k_is)
  (case rs_NoPlace_NoPlace=>k_is);(case rs_NoPlace_NoSpot=>k_is);(case rs_NoPlace_NoText=>k_is);(case rs_NoPlace_NotEnded=>k_is)
  (case ric_Ended=>k_is);(case rit_Ended=>k_is);(case ric_NoBook=>k_is);(case rit_NoBook=>k_is)
  (case ric_NoFit=>k_is);(case rit_NoFit=>k_is);(case ric_NoPlace=>k_is);(case rit_NoPlace=>k_is)
  (case ric_NoSpot=>k_is);(case rit_NoSpot=>k_is);(case ric_NoText=>k_is);(case rit_NoText=>k_is)
  (case ric_NotEnded=>k_is);(case rit_NotEnded=>k_is);(case yNoFit_TagError=>kts_exm);(case yNoPlace_TagError=>kts_exm)
  (case zValueError=>k_is);(case zany=>k_is);(case zenumerate=>k_is);(case zint=>k_is)
  (case zisinstance=>k_is);(case zlen=>k_is);(case zlist=>k_is);(case zmax=>k_is)
  (case zrange=>k_is);(case zreversed=>k_is);(case zsorted=>k_is);(case zstr=>k_is)
  (case zsum=>k_is);(case ztuple=>k_is)
end
