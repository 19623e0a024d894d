import PyProof.Rows.All
import Wide.All
import OpenK.AllK
import Wide.FinOn
import Lean
import PyProof.EqAt
import PyProof.EqKinds
import PyProof.TupleCall
import PyProof.NeData
import PyProof.Rows.StrJoin2
import PyProof.Rows.SortStr
import PyProof.Rows.SortWalk
import KE.KRevIter
import PyProof.Rows.RuleN_isinstance
import PyProof.StrReplace2
import PyProof.StrWalks
import PyProof.Draws
import PyProof.EnumMake
import PyProof.Rows.StrNews2
import PyProof.StrLawsTight
import PyProof.StrLawsReplace
import PyProof.ConsumeWalk
import PyProof.StrLawsFrom
import PyProof.DictValues
import PyProof.Rows.SumAny
import PyProof.SeqI3
import PyProof.NoPylong
import PyProof.Rows.FStrParts
import PyProof.ListRange
import PyProof.ListStr
import PyProof.DictWalks
import PyProof.DictItemsLoops
import PyProof.FactsAll.dict_itemiterator_1
import PyProof.Rows.RegStrFacts
import KE.KDictList
import KE.KDictOf
import PyProof.AttrMissSeq
import PyProof.TupleIter
import PyProof.StrLawsFirst
import PyProof.StrLawsIn
import PySem.Challenge.RW_tagmend_k04_texts_without_the_form
set_option Elab.async false
set_option hygiene false
set_option linter.all false
set_option compiler.extract_closed false
set_option genSizeOf false
set_option bootstrap.genMatcherCode false
local macro_rules | `(tactic| omega) => `(tactic| lia)
local macro_rules | `(tactic| walk_at "tk") => `(tactic| first | exact Nat.succ_pos _ | assumption | exact L2.Inv.tk ‹_› | omega)
local macro_rules | `(tactic| z_go) => `(tactic| first | exact Nat.le_of_ble_eq_true rfl | simp)
theorem zAu (a : True := by rfl) (b : True := by decide) (c : 0 < 1 := by walk_at "tk") (d : True := by intro _; rfl) (e : True := by first | exact .inl rfl | exact .inr rfl | assumption) : True := a
def zAr : Lean.Syntax := zAu._auto_1
def zAd : Lean.Syntax := zAu._auto_2
def zAt : Lean.Syntax := zAu._auto_3
def zAi : Lean.Syntax := zAu._auto_4
def zAf : Lean.Syntax := zAu._auto_5
theorem PySem.W.Fast.tw152220692759703633 : True := ⟨⟩
theorem PySem.W.Fast.tw5333102058988613759 : True := ⟨⟩
theorem PySem.W.Fast.tw5466835455126716686 : True := ⟨⟩
theorem PySem.W.Fast.tw17061778514964134245 : True := ⟨⟩
theorem PySem.W.Fast.tw15675002750511313641 : True := ⟨⟩
theorem PySem.W.Fast.tw10097464861782711004 : True := ⟨⟩
theorem PySem.W.Fast.tw6794417398766041178 : True := ⟨⟩
theorem PySem.W.Fast.tw13055231358268005831 : True := ⟨⟩
theorem PySem.W.Fast.tw10358127111345233897 : True := ⟨⟩
theorem PySem.W.Fast.tw6519275267380356347 : True := ⟨⟩
theorem PySem.W.Fast.tw2440199453299008422 : True := ⟨⟩
theorem PySem.W.Fast.tw15025995812646451508 : True := ⟨⟩
theorem PySem.W.Fast.tw7397020042414330719 : True := ⟨⟩
theorem PySem.W.Fast.tw9201414727408034875 : True := ⟨⟩
theorem PySem.W.Fast.tw1194914113792613114 : True := ⟨⟩
theorem PySem.W.Fast.tw6510347459660937391 : True := ⟨⟩
theorem PySem.W.Fast.tw931115193940231238 : True := ⟨⟩
noncomputable section
abbrev Fg := PySem.W.Frag
set_option maxRecDepth 100000
namespace L2
open PySem PySem.Spec PyProof.Rows
noncomputable abbrev Key := Sum Int Str
noncomputable def we6 : Key -> Value -> Bool
 | .inl k, v => Value.isInt k v
 | .inr x, v => Value.isStrOf x v
noncomputable def za1 (w : World) : Key -> Int
 | .inl k => hashInt k
 | .inr x => hashStr w x
theorem N3 : ∀ {k : Key} {v : Value}, we6 k v = true -> (∃ i t, k = Sum.inl i /\ v = Value.int i t) \/ (∃ x t, k = Sum.inr x /\ v = Value.str x t)
 | .inl i, v, h => by
   obtain ⟨t, e⟩ := Value.isInt_shape (k := i) (v := v) h
   exact .inl ⟨i, t, rfl, e⟩
 | .inr x, v, h => by
   obtain ⟨t, e⟩ := Value.isStrOf_shape (x := x) (v := v) h
   exact .inr ⟨x, t, rfl, e⟩
theorem xp4 (i : Int) (t : Tok) : we6 (.inl i) (.int i t) = true := by simp [we6, Value.isInt]
theorem xp5 (x : Str) (t : Tok) : we6 (.inr x) (.str x t) = true := by simp [we6, Value.isStrOf]
theorem ym8 (a b : Int) : decide ((Sum.inl a : Key) = Sum.inl b) = (a == b) := by
 by_cases e : a = b
 ·subst e; simp
 ·have h : ¬ (Sum.inl a : Key) = Sum.inl b := fun q => e (Sum.inl.inj q)
  rw [decide_eq_false h]
  exact (beq_eq_false_iff_ne.mpr e).symm
theorem ym9 (a b : Str) : decide ((Sum.inr a : Key) = Sum.inr b) = decide (a = b) := by
 by_cases e : a = b
 ·subst e; simp
 ·have h : ¬ (Sum.inr a : Key) = Sum.inr b := fun q => e (Sum.inr.inj q)
  rw [decide_eq_false h, decide_eq_false e]
theorem yn0 (a : Int) (b : Str) : decide ((Sum.inl a : Key) = Sum.inr b) = false := decide_eq_false (fun q => nomatch q)
theorem yn1 (a : Str) (b : Int) : decide ((Sum.inr a : Key) = Sum.inl b) = false := decide_eq_false (fun q => nomatch q)
noncomputable def O1 (prog : Program) (w : World) : PySem.KeyKind prog w Key where
 is := we6
 hash := za1 w
 inj := fun v a b ha hb => by
  rcases N3 ha with ⟨i, t, rfl, rfl⟩ | ⟨x, t, rfl, rfl⟩
  ·rcases N3 hb with ⟨j, u, rfl, e⟩ | ⟨y, u, rfl, e⟩
   ·injection e with e1 _; rw [e1]
   ·exact nomatch e
  ·rcases N3 hb with ⟨j, u, rfl, e⟩ | ⟨y, u, rfl, e⟩
   ·exact nomatch e
   ·injection e with e1 _; rw [e1]
 byValue := fun k v h => by
  rcases N3 h with ⟨i, t, rfl, rfl⟩ | ⟨x, t, rfl, rfl⟩ <;> rfl
 pyHash := fun hv h => by
  rcases N3 hv with ⟨i, t, rfl, rfl⟩ | ⟨x, t, rfl, rfl⟩
  ·exact wpAny_pyHash_int h
  ·exact wpAny_pyHash_str h
 eqBool := fun hu hv h => by
  rcases N3 hu with ⟨i, t, rfl, rfl⟩ | ⟨x, t, rfl, rfl⟩
  ·rcases N3 hv with ⟨j, u, rfl, rfl⟩ | ⟨y, u, rfl, rfl⟩
   ·rw [ym8] at h; exact wpAny_eqBool_int h
   ·rw [yn0] at h; exact SeqAt.EqAt.int_str i t y u _ _ _ _ h
  ·rcases N3 hv with ⟨j, u, rfl, rfl⟩ | ⟨y, u, rfl, rfl⟩
   ·rw [yn1] at h; exact SeqAt.EqAt.str_int x t j u _ _ _ _ h
   ·rw [ym9] at h; exact wpAny_eqBool_str h
 «strs» := fun k x t v h => by
  rcases N3 h with ⟨i, u, rfl, e⟩ | ⟨y, u, rfl, e⟩
  ·exact nomatch e
  ·injection e with e1 _
   subst e1
   cases v <;> rfl
theorem xb2 (prog : Program) (w : World) (i : Int) (t : Tok) : (O1 prog w).is (.inl i) (.int i t) = true := xp4 i t
theorem xb3 (prog : Program) (w : World) (x : Str) (t : Tok) : (O1 prog w).is (.inr x) (.str x t) = true := xp5 x t
end L2
namespace L2
open PySem PySem.Spec PyProof.Rows
inductive V where
 | non | bl (b : Bool) | int (i : Int) | str (x : Str) | byt (b : Array UInt8) | flt (b : UInt64) | ref (a : Addr) | ty (n : String)
 deriving DecidableEq
def G8 : V -> Value -> Prop
 | .non, u => u = Value.none
 | .bl b, u => u = Value.bool b
 | .int i, u => ∃ t, u = Value.int i t
 | .str x, u => ∃ t, u = Value.str x t
 | .byt b, u => ∃ t, u = Value.bytes b t
 | .flt b, u => ∃ t, u = Value.float b t
 | .ref a, u => u = Value.ref a
 | .ty n, u => u = Value.type n
abbrev G4 : List V -> List Value -> Prop := Paired G8
theorem G4.length {xs : List V} {us : List Value} (r : G4 xs us) : xs.length = us.length := Paired.length r
theorem G4.get : ∀ {xs : List V} {us : List Value} {i : Nat} {x : V}, G4 xs us -> xs[i]? = some x -> ∃ u, us[i]? = some u /\ G8 x u
 | _, _, _, _, .nil, e => by simp at e
 | _, _, 0, _, .cons r _, e => by simp at e; subst e; exact ⟨_, rfl, r⟩
 | _, _, i + 1, x, .cons _ t, e => by
   obtain ⟨u, h1, h2⟩ := G4.get (i := i) (x := x) t (by simpa using e)
   exact ⟨u, by simpa using h1, h2⟩
theorem G4.set {x : V} {u : Value} (r : G8 x u) : ∀ {xs : List V} {us : List Value} (i : Nat), G4 xs us -> G4 (xs.set i x) (us.set i u)
 | _, _, _, .nil => .nil
 | _, _, 0, .cons _ t => .cons r t
 | _, _, i + 1, .cons q t => .cons q (G4.set r i t)
theorem G4.append : ∀ {xs ys : List V} {us ws : List Value}, G4 xs us -> G4 ys ws -> G4 (xs ++ ys) (us ++ ws)
 | _, _, _, _, .nil, s => s
 | _, _, _, _, .cons r t, s => .cons r (G4.append t s)
theorem G4.take : ∀ {xs : List V} {us : List Value} (n : Nat), G4 xs us -> G4 (xs.take n) (us.take n)
 | _, _, 0, _ => .nil
 | _, _, _ + 1, .nil => .nil
 | _, _, n + 1, .cons r t => .cons r (G4.take n t)
theorem G4.drop : ∀ {xs : List V} {us : List Value} (n : Nat), G4 xs us -> G4 (xs.drop n) (us.drop n)
 | _, _, 0, r => r
 | _, _, _ + 1, .nil => .nil
 | _, _, n + 1, .cons _ t => G4.drop n t
def we7 : Option V -> Option Value -> Prop
 | some v, some u => G8 v u
 | none, none => True
 | _, _ => False
def KV {κ : Type} : List (κ × V) -> List (κ × Value) -> Prop := Paired fun (p : κ × V) (q : κ × Value) => p.1 = q.1 /\ G8 p.2 q.2
noncomputable def kV : Key -> V
 | .inl i => .int i
 | .inr x => .str x
set_option genInjectivity false in
inductive HO where
 /-- a list -/
 | lst (xs : List V)
 /-- a tuple (never changes) -/
 | tup (xs : List V)
 /-- a dict whose keys are ints and texts; one whose keys are tuples of ints and texts (the empty one is both) -/
 | dK (kvs : List (Key × V)) | dT (kvs : List (List Key × V))
 /-- a set of ints: its members, its size -/
 | set (S : Int -> Bool) (n : Nat)
 /-- an instance of the class at C, its dict at dx, its attributes -/
 | ins (C dx : Addr) (fs : List (Str × V))
 /-- the dict of the instance at x -/
 | own (x : Addr)
 /-- the dict of an exception -/
 | xd (fs : List (Str × V))
 /-- a bound method, f of x -/
 | met (f x : Addr)
 /-- a range object lo, lo + 1, .. below hi -/
 | rng (lo hi : Int)
 /-- a thing that is known to the object (the script; a dict while a loop walks it): read, never written while it is so -/
 | frz (o : Obj) (u : HO)
 /-- a code object's table -/
 | tbl (ps : Array Value)
 /-- any other thing, by what is true of its one object (a def of one's own: SetO a S n := HO.ext fun h => ..) -/
 | ext (φ : Heap -> Prop)
noncomputable abbrev Hp := Addr -> Option HO
noncomputable def upd (H : Hp) (a : Addr) (o : HO) : Hp := fun b => if b = a then some o else H b
theorem A8 {H : Hp} {a : Addr} {o : HO} : upd H a o a = some o := by unfold upd; rw [if_pos rfl]
theorem B8 {H : Hp} {a b : Addr} {o : HO} (h : b ≠ a) : upd H a o b = H b := by unfold upd; rw [if_neg h]
theorem yu9 {H : Hp} {a b : Addr} {o u : HO} (h : H a = some o) (h' : H b = some u) (d : o ≠ u) : a ≠ b := by
 intro e; subst e; rw [h] at h'; exact d (Option.some.inj h')
theorem D8 {H : Hp} {a b : Addr} {o : HO} (h : H a = some o) (h' : H b = none) : a ≠ b := by
 intro e; subst e; rw [h] at h'; cases h'
section
variable (P : Program) (w : World)
def M9 (H : Hp) (h : Heap) (a : Addr) : HO -> Prop
 | .lst xs => xs.length <= sizeLine /\ ∃ (its : List Value) (n : Nat), G4 xs its /\ h.get? a = some { cls := .type "list", data := .seq its.toArray n }
 | .tup xs => xs.length <= sizeLine /\ ∃ its : List Value, G4 xs its /\ IsTup h a its.toArray
 | .dK kvs => kvs.length <= sizeLine /\ (a == sysModules) = false /\ ∃ vs, KV kvs vs /\ h.DictOf (O1 P w) a vs
 | .dT kvs => kvs.length <= sizeLine /\ (a == sysModules) = false /\ ∃ xs : List (List Key × Addr × Value),
  Paired (fun (p : List Key × V) (q : List Key × Addr × Value) => p.1 = q.1 /\ H q.2.1 = some (.tup (p.1.map kV)) /\ G8 p.2 q.2.2) kvs xs /\
  ∃ o es ep, h.get? a = some o /\ o.ExactDict /\ o.data = .dict es ep /\ es.toList = xs.map (entryOfKey (tupleKind (O1 P w))) /\ (xs.map (·.1)).Nodup
 | .set S n => h.SetOf (intKind P w) a S n
 | .ins C dx fs => H dx = some (.own a) /\ fs.length <= 1000 /\ dx ≠ a /\ h.get? a = some (PySem.W.instObj C dx) /\
  ∃ mA, h.Ns1 dx mA /\ (∀ f, we7 (fs.lookup f) (mA f)) /\ PySem.Within mA (fs.map (·.1))
 | .own _ => ∃ o, h.get? a = some o
 | .xd fs => ∃ mA, h.Ns1 a mA /\ ∀ f, we7 (fs.lookup f) (mA f)
 | .rng lo hi => ∃ t u v, h.get? a = some { cls := .type "range", data := .fields #[.int lo t, .int hi u, .int 1 v] }
 | .frz o u => h.get? a = some o /\ M9 H h a u
 | .tbl ps => h.get? a = some { cls := .none, data := .fields ps }
 | .met f x => h.get? a = some (PySem.W.methodObj (.ref f) (.ref x))
 | .ext φ => φ h /\ (∃ o, h.get? a = some o) /\ ∀ h1 h2 : Heap, φ h1 -> (∀ o, h1.get? a = some o -> h2.get? a = some o) -> φ h2
def HOk (H : Hp) (h : Heap) : Prop := ∀ a o, H a = some o -> M9 P w H h a o
end
section
variable {P : Program} {w : World} {H H' : Hp} {h h' : Heap} {a : Addr} {o : HO}
theorem M9.lt (x : M9 P w H h a o) : a < h.objs.size := by
 cases o with
 | lst xs => obtain ⟨_, _, _, _, e⟩ := x; exact Heap.lt_size e
 | tup xs => obtain ⟨_, _, _, p⟩ := x; exact p.lt
 | dK kvs => obtain ⟨_, _, _, _, o, _, _, e, _⟩ := x; exact Heap.lt_size e
 | dT kvs => obtain ⟨_, _, _, _, o, _, _, e, _⟩ := x; exact Heap.lt_size e
 | set S n => obtain ⟨o, _, _, _, e, _⟩ := x; exact Heap.lt_size e
 | ins C dx fs => obtain ⟨_, _, _, e, _⟩ := x; exact Heap.lt_size e
 | own y => obtain ⟨_, e⟩ := x; exact Heap.lt_size e
 | xd fs => obtain ⟨_, ⟨_, _, _, e, _⟩, _⟩ := x; exact Heap.lt_size e
 | rng lo hi => obtain ⟨_, _, _, e⟩ := x; exact Heap.lt_size e
 | frz ob u => obtain ⟨e, _⟩ := x; exact Heap.lt_size e
 | tbl ps => exact Heap.lt_size (show h.get? a = some _ from x)
 | met f y => exact Heap.lt_size (show h.get? a = some _ from x)
 | ext φ => obtain ⟨_, ⟨_, e⟩, _⟩ := x; exact Heap.lt_size e
theorem Paired.mapP {α β : Type} {F G : α -> β -> Prop} : ∀ {l₁ : List α} {l₂ : List β}, Paired F l₁ l₂ -> (∀ a b, F a b -> G a b) -> Paired G l₁ l₂
 | _, _, .nil, _ => .nil
 | _, _, .cons r t, f => .cons (f _ _ r) (Paired.mapP t f)
theorem M9.stay (x : M9 P w H h a o) (k : ∀ b u, (b = a \/ H b = some (.own a)) -> h.get? b = some u -> h'.get? b = some u)
 (ho : ∀ b, H b = some (.own a) -> H' b = some (.own a)) (ht : ∀ b xs, H b = some (.tup xs) -> H' b = some (.tup xs)) : M9 P w H' h' a o := by
 induction o with
 | lst xs => obtain ⟨z, its, n, r, e⟩ := x; exact ⟨z, its, n, r, k _ _ (.inl rfl) e⟩
 | tup xs => obtain ⟨z, its, r, ob, e, c⟩ := x; exact ⟨z, its, r, ob, k _ _ (.inl rfl) e, c⟩
 | dK kvs => obtain ⟨z, y, vs, r, ob, es, ep, e, c⟩ := x; exact ⟨z, y, vs, r, ob, es, ep, k _ _ (.inl rfl) e, c⟩
 | dT kvs =>
   obtain ⟨z, y, xs, r, ob, es, ep, e, c⟩ := x
   exact ⟨z, y, xs, Paired.mapP r fun p q z => ⟨z.1, ht _ _ z.2.1, z.2.2⟩, ob, es, ep, k _ _ (.inl rfl) e, c⟩
 | set S n => obtain ⟨ob, es, ep, t, e, c⟩ := x; exact ⟨ob, es, ep, t, k _ _ (.inl rfl) e, c⟩
 | ins C dx fs =>
   obtain ⟨d, z, ne, e, mA, ⟨od, es, ep, e2, c⟩, r⟩ := x
   exact ⟨ho _ d, z, ne, k _ _ (.inl rfl) e, mA, ⟨od, es, ep, k _ _ (.inr d) e2, c⟩, r⟩
 | own y => obtain ⟨ob, e⟩ := x; exact ⟨ob, k _ _ (.inl rfl) e⟩
 | xd fs => obtain ⟨mA, ⟨od, es, ep, e, c⟩, r⟩ := x; exact ⟨mA, ⟨od, es, ep, k _ _ (.inl rfl) e, c⟩, r⟩
 | rng lo hi => obtain ⟨t, u, v, e⟩ := x; exact ⟨t, u, v, k _ _ (.inl rfl) e⟩
 | frz ob u ih => obtain ⟨e, q⟩ := x; exact ⟨k _ _ (.inl rfl) e, ih q⟩
 | tbl ps =>
   have e : h.get? a = some { cls := .none, data := .fields ps } := x
   show h'.get? a = some { cls := .none, data := .fields ps }
   exact k a _ (.inl rfl) e
 | met f y =>
   have e : h.get? a = some (PySem.W.methodObj (.ref f) (.ref y)) := x
   show h'.get? a = some (PySem.W.methodObj (.ref f) (.ref y))
   exact k a _ (.inl rfl) e
 | ext φ => obtain ⟨p, ⟨o, e⟩, st⟩ := x; exact ⟨st _ _ p fun o q => k _ _ (.inl rfl) q, ⟨o, k _ _ (.inl rfl) e⟩, st⟩
theorem HOk.lt (x : HOk P w H h) (e : H a = some o) : a < h.objs.size := (x a o e).lt
theorem HOk.fresh (x : HOk P w H h) (e : h.objs.size <= a) : H a = none := by
 cases q : H a with
 | none => rfl
 | some u => exact absurd (Nat.lt_of_lt_of_le (x.lt q) e) (Nat.lt_irrefl _)
theorem HOk.kept (x : HOk P w H h) (k : ∀ b u, h.get? b = some u -> h'.get? b = some u) : HOk P w H h' := fun a o e =>
 (x a o e).stay (fun b u _ q => k b u q) (fun _ q => q) fun _ _ q => q
theorem HOk.laid (x : HOk P w H h) (k : ∀ b u, h.get? b = some u -> h'.get? b = some u) (hp : h.objs.size <= a) (new : M9 P w (upd H a o) h' a o) : HOk P w (upd H a o) h' := fun b u e => by
 have hn := x.fresh hp
 by_cases hb : b = a
 ·subst hb; rw [A8] at e; cases e; exact new
 ·rw [B8 hb] at e
  exact (x b u e).stay (fun c v _ q => k c v q) (fun c q => by rw [B8 (D8 q hn)]; exact q) fun c xs q => by rw [B8 (D8 q hn)]; exact q
end
def Rd (H : Hp) (a : Addr) (u : HO) : Prop := H a = some u \/ ∃ o, H a = some (.frz o u)
theorem Rd.ok {P : Program} {w : World} {H : Hp} {h : Heap} {a : Addr} {u : HO} (r : Rd H a u) (x : HOk P w H h) : M9 P w H h a u := by
 rcases r with r | ⟨o, r⟩
 ·exact x a u r
 ·obtain ⟨_, q⟩ := x a _ r
  exact q
def Mut : Option HO -> Prop
 | some (.lst _) => True
 | some (.dK _) => True
 | some (.dT _) => True
 | some (.set _ _) => True
 | some (.ins _ _ _) => True
 | some (.ext _) => True
 | _ => False
section
variable {P : Program} {w : World} {H : Hp} {h h' : Heap} {x e : Addr} {o' : HO}
theorem HOk.write (ok : HOk P w H h) (mu : Mut (H x)) (he : e = x \/ H e = some (.own x)) (k : ∀ b u, b ≠ e -> h.get? b = some u -> h'.get? b = some u) (heo : ∃ u, h'.get? e = some u)
 (new : M9 P w (upd H x o') h' x o') : HOk P w (upd H x o') h' := fun b u q => by
 have nown : ∀ c y, H c = some (.own y) -> c ≠ x := fun c y r z => by subst z; rw [r] at mu; exact mu
 have ntup : ∀ c xs, H c = some (.tup xs) -> c ≠ x := fun c xs r z => by subst z; rw [r] at mu; exact mu
 by_cases hb : b = x
 ·subst hb; rw [A8] at q; cases q; exact new
 ·rw [B8 hb] at q
  by_cases hbe : b = e
  ·have q' : H b = some (.own x) := by
    rcases he with z | z
    ·exact absurd (hbe.trans z) hb
    ·rw [hbe]; exact z
   rw [q] at q'; cases q'
   obtain ⟨v, hv⟩ := heo
   exact ⟨v, by rw [hbe]; exact hv⟩
  ·refine (ok b u q).stay (fun c v hc r => k c v ?_ r) (fun c r => by rw [B8 (nown c b r)]; exact r) fun c xs r => by rw [B8 (ntup c xs r)]; exact r
   rcases hc with rfl | hc
   ·exact hbe
   ·rintro rfl
    rcases he with z | z
    ·exact nown c b hc z
    ·rw [hc] at z; cases z; exact hb rfl
end
structure Un (fs ex : List Addr) (H H' : Hp) (h h' : Heap) : Prop where
 keep : ∀ b o, h.get? b = some o -> H b = none -> b ∉ fs -> b ∉ ex -> h'.get? b = some o
 slot : ∀ b o, h.get? b = some o -> H b = none -> b ∈ fs -> b ∉ ex -> ∃ sl, h'.get? b = some { o with slots := sl }
 free : ∀ b o, h.get? b = some o -> H b = none -> b ∉ ex -> H' b = none
 there : ∀ b o, h.get? b = some o -> b ∉ ex -> ∃ o', h'.get? b = some o'
 tups : ∀ b xs, H b = some (.tup xs) -> H' b = some (.tup xs)
 frzs : ∀ b o u, H b = some (.frz o u) -> H' b = some (.frz o u)
 tbls : ∀ b ps, H b = some (.tbl ps) -> ∃ more, H' b = some (.tbl (ps ++ more))
section
variable {fs fs' ex ex' : List Addr} {H H1 H2 : Hp} {h h1 h2 h' : Heap} {a x e : Addr} {o : HO}
theorem Un.any (u : Un fs ex H H1 h h1) {b : Addr} {ob : Obj} (q : h.get? b = some ob) (n : H b = none) (hx : b ∉ ex) : ∃ sl, h1.get? b = some { ob with slots := sl } := by
 by_cases hb : b ∈ fs
 ·exact u.slot b ob q n hb hx
 ·exact ⟨ob.slots, u.keep b ob q n hb hx⟩
theorem Un.kept (k : ∀ b u, h.get? b = some u -> h'.get? b = some u) : Un fs ex H H h h' :=
 ⟨fun b ob q _ _ _ => k b ob q, fun b ob q _ _ _ => ⟨ob.slots, k b ob q⟩, fun _ _ _ n _ => n, fun b ob q _ => ⟨ob, k b ob q⟩, fun _ _ q => q, fun _ _ _ q => q, fun _ ps q => ⟨#[], by rw [q]; simp⟩⟩
theorem Un.refl : Un fs ex H H h h := Un.kept fun _ _ q => q
theorem Un.laid (k : ∀ b u, h.get? b = some u -> h'.get? b = some u) (hp : h.objs.size <= a) (hn : H a = none) : Un fs ex H (upd H a o) h h' where
 keep := fun b u q _ _ _ => k b u q
 slot := fun b u q _ _ _ => ⟨u.slots, k b u q⟩
 free := fun b u q n _ => by rw [B8 (Nat.ne_of_lt (Nat.lt_of_lt_of_le (Heap.lt_size q) hp))]; exact n
 there := fun b u q _ => ⟨u, k b u q⟩
 tups := fun b xs q => by rw [B8 (D8 q hn)]; exact q
 frzs := fun b u xs q => by rw [B8 (D8 q hn)]; exact q
 tbls := fun b ps q => ⟨#[], by rw [B8 (D8 q hn), q]; simp⟩
theorem Un.write (mu : Mut (H x)) (he : e = x \/ H e = some (.own x)) (k : ∀ b u, b ≠ e -> h.get? b = some u -> h'.get? b = some u) (heo : ∃ u, h'.get? e = some u) : Un fs ex H (upd H x o) h h' := by
 have hx : ∀ b, H b = none -> b ≠ x := fun b n z => by subst z; rw [n] at mu; exact mu
 have hb : ∀ b, H b = none -> b ≠ e := fun b n z => by
  subst z
  rcases he with r | r
  ·exact hx b n r
  ·rw [n] at r; cases r
 have hm : ∀ b u, H b = some u -> ¬ Mut (some u) -> b ≠ x := fun b u q nm z => by subst z; rw [q] at mu; exact nm mu
 refine ⟨fun b u q n _ _ => k b u (hb b n) q, fun b u q n _ _ => ⟨u.slots, k b u (hb b n) q⟩, fun b u q n _ => by rw [B8 (hx b n)]; exact n, fun b u q _ => ?_,
  fun b xs q => by rw [B8 (hm b _ q fun z => z)]; exact q, fun b u xs q => by rw [B8 (hm b _ q fun z => z)]; exact q, fun b ps q => ⟨#[], by rw [B8 (hm b _ q fun z => z), q]; simp⟩⟩
 by_cases hbe : b = e
 ·subst hbe; exact heo
 ·exact ⟨u, k b u hbe q⟩
end
noncomputable def trk (h : Heap) (H : Hp) : List Addr := (List.range h.objs.size).filter fun a => (H a).isSome
noncomputable def wv3 (h : Heap) (H : Hp) : Heap := PySem.W.hideAll h (trk h H)
theorem xp6 (h : Heap) (H : Hp) : (wv3 h H).objs.size = h.objs.size := PySem.W.hideAll_size _ _
theorem xu6 {h : Heap} {H : Hp} {b : Addr} {o : Obj} (e : h.get? b = some o) (n : H b = none) : (wv3 h H).get? b = some o :=
 PySem.W.hideAll_get _ e fun hm => by
  have q : (H b).isSome = true := (List.mem_filter.mp hm).2
  rw [n] at q; simp at q
theorem yd7 {h : Heap} {H : Hp} {b : Addr} {o : Obj} (e : (wv3 h H).get? b = some o) : h.get? b = some o /\ H b = none := by
 have e' : h.get? b = some o := PySem.W.of_hideAll (trk h H) e
 refine ⟨e', ?_⟩
 cases q : H b with
 | none => rfl
 | some x =>
   have hm : b ∈ trk h H := List.mem_filter.mpr ⟨List.mem_range.mpr (Heap.lt_size e'), by simp [q]⟩
   have z : (wv3 h H).get? b = none := PySem.W.hideAll_none (trk h H) hm
   rw [z] at e; cases e
end L2
namespace L2
open PySem PySem.Spec PyProof.Rows
structure Mod (K : Fg) (mg : Str -> Option Value) (base : Heap) : Prop where
 kin : K.In base
 glob : base.Ns mainGlobals mg
 blt : ∃ mb, base.Ns builtinsNs mb /\ ∀ x : Str, x ≠ "__name__" -> mb x = bootBuiltins x
 nolimit : base.NoLimit
set_option genInjectivity false in
structure Cx where
 prog : Program
 w : World
 K : Fg
 mg : Str -> Option Value
 base : Heap
 A : Around
 N : List Str
 s₀ : Shared
 H₀ : Hp
 env : Env
 outer : List Env
 stack : List Env
 ex : List Addr
 fn : Str -> Bool
 calm : Bool
 pn : List (Addr × Obj)
 xe : Value -> Shared -> Prop
noncomputable def frs (l : List Env) : List Addr := l.filterMap (·.frame)
noncomputable abbrev Cx.fs (X : Cx) : List Addr := frs X.outer
def Vis (sc : Scope) (x : Str) : Prop := sc.names.lookup x = some .local \/ sc.names.lookup x = some .cell \/ sc.names.lookup x = some .free
def Loc (sc : Scope) (x : Str) : Prop := sc.names.lookup x = some .local \/ sc.names.lookup x = some .cell
def za2 (env : Env) (h : Heap) (m : Str -> Option Value) (x : Str) (u : Value) : Prop :=
 (env.kindOf x = some .local /\ m x = some u) \/ ((env.kindOf x = some .cell \/ env.kindOf x = some .free) /\ ∃ c, env.cells.lookup x = some c /\ h.IsCell c (some u))
structure Cx.Ok (X : Cx) : Prop where
 mod : Mod X.K X.mg X.base
 kind : X.env.scope.kind = .function
 glob : X.env.globals = mainGlobals
 blt : X.env.builtins = builtinsNs
 above : X.s₀.heap.objs.size <= X.env.locals
 inj : ∀ x y c, X.env.cells.lookup x = some c -> X.env.cells.lookup y = some c -> x = y
 has : ∀ x, (X.env.kindOf x = some .cell \/ X.env.kindOf x = some .free) -> ∃ c, X.env.cells.lookup x = some c
 cab : ∀ x c, X.fn x = true -> X.env.cells.lookup x = some c -> X.s₀.heap.objs.size <= c
 hd : X.calm = true -> X.A.handled = none
 frames : X.A.frames = some X.stack
 stk : X.stack = X.outer \/ (X.stack = X.env :: X.outer /\ X.env.frame = some X.env.locals)
 exf : ∀ b ∈ X.ex, b ≠ X.env.locals /\ ∀ x c, X.env.cells.lookup x = some c -> c ≠ b
 bs : ∀ b o, X.base.get? b = some o -> X.s₀.heap.get? b = some o /\ X.H₀ b = none
 bsz : X.base.objs.size <= X.s₀.heap.objs.size
 noex : ∀ b o, X.base.get? b = some o -> b ∉ X.ex
 exfs : ∀ b ∈ X.ex, b ∉ X.fs
 funs : X.s₀.heap.FunFrames X.base X.outer
 frf : ∀ b ∈ X.fs, X.H₀ b = none
structure Inv (X : Cx) (pins : List (Addr × Obj)) (σ : List (Option V)) (H : Hp) (s : Shared) : Prop where
 ok : X.Ok
 os : s.os = X.s₀.os
 bare : AllBare s.gens
 base : Un X.fs X.ex X.H₀ H X.s₀.heap s.heap
 loc : ∃ m, s.heap.Ns X.env.locals m /\ ∀ (i : Nat) (x : Str) (v : V), X.N[i]? = some x -> σ[i]? = some (some v) -> Vis X.env.scope x -> ∃ u, G8 v u /\ za2 X.env s.heap m x u
 cell : ∀ x c, X.env.cells.lookup x = some c -> ∃ v, s.heap.IsCell c v
 free : H X.env.locals = none
 freeC : ∀ x c, X.env.cells.lookup x = some c -> H c = none
 pin : ∀ p ∈ X.pn ++ pins, s.heap.get? p.1 = some p.2 /\ H p.1 = none /\ p.1 ≠ X.env.locals /\ p.1 ∉ X.fs /\ ∀ v, p.2.data ≠ .cell v
 hok : HOk X.prog X.w H s.heap
 len : σ.length = X.N.length
 tk : 0 < s.toks
section
variable {X : Cx} {pins : List (Addr × Obj)} {σ : List (Option V)} {H H' : Hp} {s : Shared} {h' : Heap}
theorem Cx.Ok.nofr (ok : X.Ok) {b : Addr} {o : Obj} (e : X.base.get? b = some o) : b ∉ X.fs := fun hb => by
 have := (ok.funs.mem hb).1
 rw [e] at this; cases this
theorem Inv.bs (I : Inv X pins σ H s) : ∀ b o, X.base.get? b = some o -> s.heap.get? b = some o /\ H b = none := fun b o e =>
 ⟨I.base.keep b o (I.ok.bs b o e).1 (I.ok.bs b o e).2 (I.ok.nofr e) (I.ok.noex b o e), I.base.free b o (I.ok.bs b o e).1 (I.ok.bs b o e).2 (I.ok.noex b o e)⟩
theorem Inv.bk (I : Inv X pins σ H s) : ∀ b o, X.base.get? b = some o -> s.heap.get? b = some o := fun b o e => (I.bs b o e).1
theorem Inv.mod (I : Inv X pins σ H s) : Mod X.K X.mg X.base := I.ok.mod
theorem Inv.kIn (I : Inv X pins σ H s) : X.K.In s.heap := I.ok.mod.kin.keeps I.bk
theorem Inv.lt (I : Inv X pins σ H s) : X.env.locals < s.heap.objs.size := let ⟨_, hn, _⟩ := I.loc; hn.lt
theorem Inv.sz (I : Inv X pins σ H s) : X.s₀.heap.objs.size <= s.heap.objs.size := Nat.le_trans I.ok.above (Nat.le_of_lt I.lt)
theorem Inv.nofs (I : Inv X pins σ H s) {a : Addr} (h : s.heap.objs.size <= a) : a ∉ X.fs := fun hb => by
 obtain ⟨_, o, ho, _⟩ := I.ok.funs.mem hb
 exact absurd (Nat.lt_of_lt_of_le (Heap.lt_size ho) (Nat.le_trans I.sz h)) (Nat.lt_irrefl _)
theorem Inv.cne (I : Inv X pins σ H s) : ∀ x c, X.env.cells.lookup x = some c -> c ≠ X.env.locals := fun x c e z => by
 obtain ⟨v, o, ho, hd⟩ := I.cell x c e
 obtain ⟨m, ⟨o', es, ep, ho', hd', _⟩, _⟩ := I.loc
 rw [z, ho'] at ho; cases ho; rw [hd'] at hd; cases hd
theorem Inv.funs (I : Inv X pins σ H s) : s.heap.FunFrames X.base X.outer := by
 have all : ∀ (l : List Env), (∀ b ∈ frs l, b ∈ X.fs) -> X.s₀.heap.FunFrames X.base l -> s.heap.FunFrames X.base l := by
  intro l
  induction l with
  | nil => intro _ _; trivial
  | cons env r ih =>
    intro hs hl
    obtain ⟨hk, ⟨L, o, hf, hn, ho, hd⟩, hr⟩ := hl
    have hL : L ∈ X.fs := hs L (by unfold frs; rw [List.filterMap_cons, hf]; exact List.mem_cons_self)
    obtain ⟨sl, e⟩ := I.base.slot L o ho (I.ok.frf L hL) hL fun z => I.ok.exfs L z hL
    exact ⟨hk, ⟨L, _, hf, hn, e, hd⟩, ih (fun b hb => hs b (by unfold frs; rw [List.filterMap_cons, hf]; exact List.mem_cons_of_mem _ hb)) hr⟩
 exact all X.outer (fun _ hb => hb) I.ok.funs
theorem Inv.stack (I : Inv X pins σ H s) : s.heap.FunFrames X.base X.stack := by
 rcases I.ok.stk with e | ⟨e, hf⟩
 ·rw [e]; exact I.funs
 ·rw [e]
  obtain ⟨m, hn, _⟩ := I.loc
  refine .cons (by rw [I.ok.kind]; decide) hf hn ?_ I.funs
  exact Heap.get?_none_of_le (Nat.le_trans I.ok.bsz I.ok.above)
theorem Inv.stkSub (I : Inv X pins σ H s) : ∀ b ∈ frs X.stack, b ∈ X.env.locals :: X.fs := fun b hb => by
 rcases I.ok.stk with e | ⟨e, hf⟩
 ·rw [e] at hb; exact List.mem_cons_of_mem _ hb
 ·rw [e] at hb
  unfold frs at hb
  rw [List.filterMap_cons, hf] at hb
  exact hb
theorem Inv.stkFree (I : Inv X pins σ H s) : ∀ b ∈ frs X.stack, H b = none := fun b hb => by
 rcases List.mem_cons.mp (I.stkSub b hb) with e | hb
 ·rw [e]; exact I.free
 ·obtain ⟨_, o, ho, _⟩ := I.ok.funs.mem hb
  exact I.base.free b o ho (I.ok.frf b hb) fun z => I.ok.exfs b z hb
theorem Inv.step {g' : Array GenState} {t' : Nat} {d' : Drawn} {ch : List Addr} (I : Inv X pins σ H s)
 (hch : ∀ b ∈ ch, (b ∈ X.ex \/ X.s₀.heap.objs.size <= b) /\ b ≠ X.env.locals /\ (∀ x c, X.env.cells.lookup x = some c -> c ≠ b) /\ ∀ p ∈ X.pn ++ pins, p.1 ≠ b)
 (keep : ∀ b o, b ≠ X.env.locals -> b ∉ X.fs -> b ∉ ch -> s.heap.get? b = some o -> H b = none -> h'.get? b = some o)
 (slot : ∀ b o, b ≠ X.env.locals -> b ∈ X.fs -> b ∉ ch -> s.heap.get? b = some o -> H b = none -> ∃ sl, h'.get? b = some { o with slots := sl }) (free : ∀ b o, b ∉ ch -> s.heap.get? b = some o -> H b = none -> H' b = none)
 (there : ∀ b o, b ∉ ch -> s.heap.get? b = some o -> ∃ o', h'.get? b = some o')
 (tups : ∀ b xs, H b = some (.tup xs) -> H' b = some (.tup xs)) (frzs : ∀ b o u, H b = some (.frz o u) -> H' b = some (.frz o u)) (tbls : ∀ b ps, H b = some (.tbl ps) -> ∃ more, H' b = some (.tbl (ps ++ more)))
 (ns : ∀ m, s.heap.Ns X.env.locals m -> h'.Ns X.env.locals m) (hok : HOk X.prog X.w H' h') (hg : AllBare g') (ht : autoParam (0 < t') zAt) :
 Inv X pins σ H' { s with heap := h', gens := g', drawn := d', toks := t' } := by
 have neL : ∀ b o, X.s₀.heap.get? b = some o -> b ≠ X.env.locals := fun b o e => Nat.ne_of_lt (Nat.lt_of_lt_of_le (Heap.lt_size e) I.ok.above)
 have neC : ∀ b o, X.s₀.heap.get? b = some o -> b ∉ X.ex -> b ∉ ch := fun b o e hx hb => by
  rcases (hch b hb).1 with z | z
  ·exact hx z
  ·exact absurd (Nat.lt_of_lt_of_le (Heap.lt_size e) z) (Nat.lt_irrefl _)
 have cellK : ∀ x c, X.env.cells.lookup x = some c -> ∀ v, s.heap.IsCell c v -> h'.IsCell c v := fun x c e v ⟨o, ho, hd⟩ => by
  have nch : c ∉ ch := fun z => (hch c z).2.2.1 x c e rfl
  by_cases hc : c ∈ X.fs
  ·obtain ⟨sl, q⟩ := slot c o (I.cne x c e) hc nch ho (I.freeC x c e)
   exact ⟨_, q, hd⟩
  ·exact ⟨o, keep c o (I.cne x c e) hc nch ho (I.freeC x c e), hd⟩
 refine ⟨I.ok, I.os, hg, ⟨fun b o e n hb hx => ?_, fun b o e n hb hx => ?_, fun b o e n hx => ?_, fun b o e hx => ?_, fun b xs e => tups b xs (I.base.tups b xs e), fun b o xs e => frzs b o xs (I.base.frzs b o xs e), fun b ps e => ?_⟩, ?_, fun x c e => ?_, ?_, fun x c e => ?_, fun p hp => ?_, hok, I.len, ht⟩
 ·exact keep b o (neL b o e) hb (neC b o e hx) (I.base.keep b o e n hb hx) (I.base.free b o e n hx)
 ·obtain ⟨sl, e1⟩ := I.base.slot b o e n hb hx
  obtain ⟨sl', e2⟩ := slot b _ (neL b o e) hb (neC b o e hx) e1 (I.base.free b o e n hx)
  exact ⟨sl', e2⟩
 ·obtain ⟨o', e1⟩ := I.base.there b o e hx
  exact free b o' (neC b o e hx) e1 (I.base.free b o e n hx)
 ·obtain ⟨o', e1⟩ := I.base.there b o e hx
  exact there b o' (neC b o e hx) e1
 ·obtain ⟨m1, e1⟩ := I.base.tbls b ps e
  obtain ⟨m2, e2⟩ := tbls b _ e1
  exact ⟨m1 ++ m2, by rw [e2, Array.append_assoc]⟩
 ·obtain ⟨m, hn, hl⟩ := I.loc
  refine ⟨m, ns m hn, fun i x v e1 e2 e3 => ?_⟩
  obtain ⟨u, r, l⟩ := hl i x v e1 e2 e3
  refine ⟨u, r, ?_⟩
  rcases l with l | ⟨k, c, e, z⟩
  ·exact .inl l
  ·exact .inr ⟨k, c, e, cellK x c e _ z⟩
 ·obtain ⟨v, z⟩ := I.cell x c e
  exact ⟨v, cellK x c e v z⟩
 ·obtain ⟨m, ⟨o, _, _, ho, _⟩, _⟩ := I.loc
  exact free _ o (fun z => (hch _ z).2.1 rfl) ho I.free
 ·obtain ⟨v, o, ho, hd⟩ := I.cell x c e
  exact free c o (fun z => (hch c z).2.2.1 x c e rfl) ho (I.freeC x c e)
 ·obtain ⟨e, n, ne, nf, d⟩ := I.pin p hp
  have nch : p.1 ∉ ch := fun z => (hch p.1 z).2.2.2 p hp rfl
  exact ⟨keep p.1 p.2 ne nf nch e n, free p.1 p.2 nch e n, ne, nf, d⟩
theorem Inv.un {t' : Nat} (I : Inv X pins σ H s) (u : Un X.fs [] H H' s.heap h') (hok : HOk X.prog X.w H' h') (ht : autoParam (0 < t') zAt) : Inv X pins σ H' { s with heap := h', toks := t' } := by
 obtain ⟨m, ⟨o, es, ep, ho, r⟩, _⟩ := id I.loc
 obtain ⟨sl, hL⟩ := u.any ho I.free (by simp)
 exact I.step (g' := s.gens) (d' := s.drawn) (ch := []) (fun _ z => nomatch z) (fun b o _ hb _ e n => u.keep b o e n hb (by simp)) (fun b o _ hb _ e n => u.slot b o e n hb (by simp)) (fun b o _ e n => u.free b o e n (by simp)) (fun b o _ e => u.there b o e (by simp)) u.tups u.frzs u.tbls (fun m' hm => by
  obtain ⟨o', es', ep', ho', r'⟩ := hm
  rw [ho] at ho'; cases ho'
  exact ⟨_, es', ep', hL, r'⟩) hok I.bare
theorem Inv.call {g' : Array GenState} {t' : Nat} {d' : Drawn} {ch : List Addr} (I : Inv X pins σ H s) (u : Un (frs X.stack) ch H H' s.heap h') (hok : HOk X.prog X.w H' h') (hg : AllBare g')
 (hch : ∀ b ∈ ch, (b ∈ X.ex \/ X.s₀.heap.objs.size <= b) /\ b ≠ X.env.locals /\ (∀ x c, X.env.cells.lookup x = some c -> c ≠ b) /\ ∀ p ∈ X.pn ++ pins, p.1 ≠ b) (ht : autoParam (0 < t') zAt) :
 Inv X pins σ H' { s with heap := h', gens := g', drawn := d', toks := t' } := by
 obtain ⟨m, ⟨o, es, ep, ho, r⟩, _⟩ := id I.loc
 obtain ⟨sl, hL⟩ := u.any ho I.free fun z => (hch _ z).2.1 rfl
 exact I.step (ch := ch) hch (fun b o hL hb hc e n => u.keep b o e n (fun z => (List.mem_cons.mp (I.stkSub b z)).elim hL hb) hc) (fun b o _ _ hc e n => u.any e n hc) (fun b o hc e n => u.free b o e n hc) (fun b o hc e => u.there b o e hc) u.tups u.frzs u.tbls (fun m' hm => by
  obtain ⟨o', es', ep', ho', r'⟩ := hm
  rw [ho] at ho'; cases ho'
  exact ⟨_, es', ep', hL, r'⟩) hok hg
theorem Inv.turned {t' : Nat} {it : Addr} (I : Inv X pins σ H s) (k : ∀ b o, b ≠ it -> s.heap.get? b = some o -> h'.get? b = some o) (hn : H it = none) (hL : it ≠ X.env.locals)
 (h1 : it ∈ X.ex \/ X.s₀.heap.objs.size <= it) (h2 : ∀ x c, X.env.cells.lookup x = some c -> c ≠ it) (h3 : ∀ p ∈ X.pn ++ pins, p.1 ≠ it) (ht : autoParam (0 < t') zAt) : Inv X pins σ H { s with heap := h', toks := t' } := by
 have nit : ∀ b u, H b = some u -> b ≠ it := fun b u e z => by rw [z, hn] at e; cases e
 refine I.step (g' := s.gens) (d' := s.drawn) (ch := [it]) (fun b hb => ?_) (fun b o _ _ hc e _ => k b o (fun z => hc (by simp [z])) e) (fun b o _ _ hc e _ => ⟨o.slots, k b o (fun z => hc (by simp [z])) e⟩) (fun _ _ _ _ n => n)
  (fun b o hc e => ⟨o, k b o (fun z => hc (by simp [z])) e⟩) (fun _ _ e => e) (fun _ _ _ e => e) (fun b ps e => ⟨#[], by rw [e]; simp⟩) (fun m hm => ?_) (fun b u e => ?_) I.bare
 ·have e : b = it := by simpa using hb
  subst e
  exact ⟨h1, hL, h2, h3⟩
 ·obtain ⟨o, es, ep, ho, r⟩ := hm
  exact ⟨o, es, ep, k _ o (Ne.symm hL) ho, r⟩
 ·refine (I.hok b u e).stay (fun c v hc q => k c v ?_ q) (fun _ q => q) fun _ _ q => q
  rcases hc with z | z
  ·rw [z]; exact nit b u e
  ·exact nit c _ z
theorem Inv.tok (I : Inv X pins σ H s) (t' : Nat) (ht : autoParam (0 < t') zAt) : Inv X pins σ H { s with toks := t' } := I.un (h' := s.heap) (t' := t') Un.refl I.hok
theorem Inv.kept {t' : Nat} (I : Inv X pins σ H s) (k : ∀ b u, s.heap.get? b = some u -> h'.get? b = some u) (ht : autoParam (0 < t') zAt) : Inv X pins σ H { s with heap := h', toks := t' } := I.un (Un.kept k) (I.hok.kept k)
theorem Inv.laid {a : Addr} {o : HO} {t' : Nat} (I : Inv X pins σ H s) (k : ∀ b u, s.heap.get? b = some u -> h'.get? b = some u) (hp : s.heap.objs.size <= a) (new : M9 X.prog X.w (upd H a o) h' a o) (ht : autoParam (0 < t') zAt) :
 Inv X pins σ (upd H a o) { s with heap := h', toks := t' } := I.un (Un.laid k hp (I.hok.fresh hp)) (I.hok.laid k hp new)
theorem Inv.write {x e : Addr} {o : HO} {t' : Nat} (I : Inv X pins σ H s) (mu : Mut (H x)) (he : e = x \/ H e = some (.own x)) (k : ∀ b u, b ≠ e -> s.heap.get? b = some u -> h'.get? b = some u) (heo : ∃ u, h'.get? e = some u)
 (new : M9 X.prog X.w (upd H x o) h' x o) (ht : autoParam (0 < t') zAt) : Inv X pins σ (upd H x o) { s with heap := h', toks := t' } := I.un (Un.write mu he k heo) (I.hok.write mu he k heo new)
theorem Inv.weak {σ' : List (Option V)} (I : Inv X pins σ H s) (hl : σ'.length = σ.length) (w : ∀ (i : Nat) v, σ'[i]? = some (some v) -> σ[i]? = some (some v)) : Inv X pins σ' H s :=
 ⟨I.ok, I.os, I.bare, I.base, let ⟨m, hn, hl'⟩ := I.loc; ⟨m, hn, fun i x v e1 e2 e3 => hl' i x v e1 (w i v e2) e3⟩, I.cell, I.free, I.freeC, I.pin, I.hok, hl.trans I.len, I.tk⟩
theorem Inv.pins_of {pins' : List (Addr × Obj)} (I : Inv X pins σ H s) (h : ∀ p ∈ pins', s.heap.get? p.1 = some p.2 /\ H p.1 = none /\ p.1 ≠ X.env.locals /\ p.1 ∉ X.fs /\ ∀ v, p.2.data ≠ .cell v) : Inv X pins' σ H s :=
 ⟨I.ok, I.os, I.bare, I.base, I.loc, I.cell, I.free, I.freeC, fun p hp => (List.mem_append.mp hp).elim (fun z => I.pin p (List.mem_append_left _ z)) (h p), I.hok, I.len, I.tk⟩
theorem we8 {N : List Str} (hN : N.Nodup) {i j : Nat} {x : Str} (a : N[i]? = some x) (b : N[j]? = some x) : i = j := by
 obtain ⟨h1, e1⟩ := List.getElem?_eq_some_iff.mp a
 obtain ⟨h2, e2⟩ := List.getElem?_eq_some_iff.mp b
 exact (List.getElem_inj hN).mp (e1.trans e2.symm)
theorem ws7 {M : Model} {A : Around} {E : Value -> Shared -> Prop} {i : Nat} {x : Str} {v : V} {u : Value} {Q : Unit -> Shared -> Prop} (I : Inv X pins σ H s) (hN : X.N.Nodup) (hi : X.N[i]? = some x) (hx : Loc X.env.scope x) (r : G8 v u)
 (h : ∀ s', Inv X pins (σ.set i (some v)) H s' -> (∃ a, Heap.SameBut a s.heap s'.heap /\ (a = X.env.locals \/ X.env.cells.lookup x = some a)) -> Q () s') (hf : autoParam (X.fn x = true \/ X.env.scope.names.lookup x = some .local) zAf) : wpAny M A (storeName X.env x u) Q E s := by
 obtain ⟨m, hn, hl⟩ := id I.loc
 have hcls : (X.env.scope.kind == .class || (X.env.scope.kind == .module && X.env.locals != X.env.globals)) = false := by rw [I.ok.kind]; rfl
 have hiσ : i < σ.length := by rw [I.len]; exact (List.getElem?_eq_some_iff.mp hi).1
 have cne := I.cne
 have tracked : ∀ {a : Addr} {h' : Heap}, (∃ o, s.heap.get? a = some o /\ H a = none) -> Heap.SameBut a s.heap h' -> HOk X.prog X.w H h' := fun {a h'} ha hs b ob e => by
  obtain ⟨_, _, hfree⟩ := ha
  refine (I.hok b ob e).stay (fun c w' hc q => (hs.2 c ?_).trans q) (fun _ q => q) fun _ _ q => q
  rintro rfl
  rcases hc with rfl | hc
  ·rw [hfree] at e; cases e
  ·rw [hfree] at hc; cases hc
 rcases hx with hk | hk
 ·refine wpAny_storeName_local hk hn (fun h' hn' hs => ?_) hcls
  obtain ⟨oL, _, _, hoL, _⟩ := id hn
  refine h _ ⟨I.ok, I.os, I.bare, ⟨fun b o e n hb hx => ?_, fun b o e n hb hx => ?_, I.base.free, fun b o e hx => ?_, I.base.tups, I.base.frzs, I.base.tbls⟩, ⟨_, hn', fun j y v' e1 e2 e3 => ?_⟩, fun y c e => ?_, I.free, I.freeC, fun p hp => ?_, tracked ⟨oL, hoL, I.free⟩ hs, by simpa using I.len, by first | exact I.tk | exact Nat.succ_pos _⟩ ⟨_, hs, .inl rfl⟩
  ·exact (hs.2 b (Nat.ne_of_lt (Nat.lt_of_lt_of_le (Heap.lt_size e) I.ok.above))).trans (I.base.keep b o e n hb hx)
  ·obtain ⟨sl, e1⟩ := I.base.slot b o e n hb hx
   exact ⟨sl, (hs.2 b (Nat.ne_of_lt (Nat.lt_of_lt_of_le (Heap.lt_size e) I.ok.above))).trans e1⟩
  ·obtain ⟨o', e1⟩ := I.base.there b o e hx
   exact ⟨o', (hs.2 b (Nat.ne_of_lt (Nat.lt_of_lt_of_le (Heap.lt_size e) I.ok.above))).trans e1⟩
  ·by_cases hj : j = i
   ·subst hj
    rw [hi] at e1; cases e1
    rw [List.getElem?_set_self hiσ] at e2
    cases e2
    exact ⟨u, r, .inl ⟨hk, by simp⟩⟩
   ·rw [List.getElem?_set_ne (Ne.symm hj)] at e2
    obtain ⟨u', r', q⟩ := hl j y v' e1 e2 e3
    refine ⟨u', r', ?_⟩
    rcases q with ⟨k, e⟩ | ⟨k, c, e, z⟩
    ·refine .inl ⟨k, ?_⟩
     have : y ≠ x := fun e => hj (we8 hN e1 (e ▸ hi))
     simp [this, e]
    ·exact .inr ⟨k, c, e, z.sameBut hs (cne y c e)⟩
  ·obtain ⟨w', z⟩ := I.cell y c e
   exact ⟨w', z.sameBut hs (cne y c e)⟩
  ·obtain ⟨e, n, ne, nf, d⟩ := I.pin p hp
   exact ⟨(hs.2 p.1 ne).trans e, n, ne, nf, d⟩
 ·have hfn : X.fn x = true := by
   rcases hf with z | z
   ·exact z
   ·rw [z] at hk; cases hk
  obtain ⟨c, hc⟩ := I.ok.has x (.inl hk)
  obtain ⟨w', z⟩ := I.cell x c hc
  refine wpAny_storeName_cell I.ok.kind hk hc z (fun h' hc' hs => ?_)
  obtain ⟨oc, hoc, hocd⟩ := id z
  refine h { s with heap := h' } ⟨I.ok, I.os, I.bare, ⟨fun b o e n hb hx => ?_, fun b o e n hb hx => ?_, I.base.free, fun b o e hx => ?_, I.base.tups, I.base.frzs, I.base.tbls⟩, ⟨m, hn.sameBut hs (Ne.symm (cne x c hc)), fun j y v' e1 e2 e3 => ?_⟩, fun y c' e => ?_, I.free, I.freeC, fun p hp => ?_, tracked ⟨oc, hoc, I.freeC x c hc⟩ hs, by simpa using I.len, by first | exact I.tk | exact Nat.succ_pos _⟩ ⟨c, hs, .inr hc⟩
  ·exact (hs.2 b (Nat.ne_of_lt (Nat.lt_of_lt_of_le (Heap.lt_size e) (I.ok.cab x c hfn hc)))).trans (I.base.keep b o e n hb hx)
  ·obtain ⟨sl, e1⟩ := I.base.slot b o e n hb hx
   exact ⟨sl, (hs.2 b (Nat.ne_of_lt (Nat.lt_of_lt_of_le (Heap.lt_size e) (I.ok.cab x c hfn hc)))).trans e1⟩
  ·obtain ⟨o', e1⟩ := I.base.there b o e hx
   exact ⟨o', (hs.2 b (Nat.ne_of_lt (Nat.lt_of_lt_of_le (Heap.lt_size e) (I.ok.cab x c hfn hc)))).trans e1⟩
  ·by_cases hj : j = i
   ·subst hj
    rw [hi] at e1; cases e1
    rw [List.getElem?_set_self hiσ] at e2
    cases e2
    exact ⟨u, r, .inr ⟨.inl hk, c, hc, hc'⟩⟩
   ·rw [List.getElem?_set_ne (Ne.symm hj)] at e2
    obtain ⟨u', r', q⟩ := hl j y v' e1 e2 e3
    refine ⟨u', r', ?_⟩
    rcases q with q | ⟨k, c', e, z'⟩
    ·exact .inl q
    ·refine .inr ⟨k, c', e, z'.sameBut hs ?_⟩
     rintro rfl
     exact hj (we8 hN e1 (I.ok.inj _ _ _ e hc ▸ hi))
  ·by_cases hcc : c' = c
   ·subst hcc; exact ⟨_, hc'⟩
   ·obtain ⟨w2, z2⟩ := I.cell y c' e
    exact ⟨w2, z2.sameBut hs hcc⟩
  ·obtain ⟨e, n, ne, nf, d⟩ := I.pin p hp
   refine ⟨(hs.2 p.1 ?_).trans e, n, ne, nf, d⟩
   intro q
   rw [q, hoc] at e
   have q' : oc = p.2 := Option.some.inj e
   exact d w' (by rw [<- q']; exact hocd)
theorem we9 {M : Model} {A : Around} {E : Value -> Shared -> Prop} {i : Nat} {x : Str} {v : V} {u : Value} {Q : Unit -> Shared -> Prop} (I : Inv X pins σ H s) (hN : X.N.Nodup) (hi : X.N[i]? = some x) (hx : Loc X.env.scope x) (r : G8 v u)
 (h : ∀ s', Inv X pins (σ.set i (some v)) H s' -> Q () s') (hf : autoParam (X.fn x = true \/ X.env.scope.names.lookup x = some .local) zAf) : wpAny M A (storeName X.env x u) Q E s :=
 ws7 I hN hi hx r (fun s' I' _ => h s' I') hf
end
noncomputable abbrev XK := Value -> Option Addr -> Hp -> Prop
noncomputable abbrev St := List (Option V)
noncomputable abbrev VK := V -> Hp -> Prop
noncomputable abbrev TE := St -> Hp -> VK -> Prop
noncomputable abbrev TT := St -> Hp -> (Bool -> Hp -> Prop) -> Prop
noncomputable abbrev TA := St -> Hp -> (List V -> Hp -> Prop) -> Prop
set_option genInjectivity false in
structure P4 where
 nx : St -> Hp -> Prop
 rt : VK
 bk : St -> Hp -> Prop := fun _ _ => False
 ct : St -> Hp -> Prop := fun _ _ => False
noncomputable abbrev TS := P4 -> St -> Hp -> Prop
def EP (X : Cx) (pins : List (Addr × Obj)) (σ : St) (Q : VK) (u : Value) (s' : Shared) : Prop := ∃ v H', Inv X pins σ H' s' /\ G8 v u /\ Q v H'
def TP (X : Cx) (pins : List (Addr × Obj)) (σ : St) (Q : Bool -> Hp -> Prop) (b : Bool) (s' : Shared) : Prop := ∃ H', Inv X pins σ H' s' /\ Q b H'
def AP (X : Cx) (pins : List (Addr × Obj)) (σ : St) (Q : List V -> Hp -> Prop) (us : List Value) (s' : Shared) : Prop := ∃ vs H', Inv X pins σ H' s' /\ G4 vs us /\ Q vs H'
def SP (X : Cx) (pins : List (Addr × Obj)) (D : P4) (f : Flow) (s' : Shared) : Prop :=
 match f with
 | .next => ∃ σ' H', Inv X pins σ' H' s' /\ D.nx σ' H'
 | .brk => ∃ σ' H', Inv X pins σ' H' s' /\ D.bk σ' H'
 | .cont => ∃ σ' H', Inv X pins σ' H' s' /\ D.ct σ' H'
 | .ret u => ∃ v σ' H', Inv X pins σ' H' s' /\ G8 v u /\ D.rt v H'
def PE (X : Cx) (e : Expr) (t : TE) : Prop :=
 ∀ (pins : List (Addr × Obj)) (s : Shared) (σ : St) (H : Hp) (Q : VK), Inv X pins σ H s -> t σ H Q -> wpAny (model X.prog X.w) X.A (eval e X.env) (EP X pins σ Q) X.xe s
def PT (X : Cx) (e : Expr) (t : TT) : Prop :=
 ∀ (pins : List (Addr × Obj)) (s : Shared) (σ : St) (H : Hp) (Q : Bool -> Hp -> Prop), Inv X pins σ H s -> t σ H Q -> wpAny (model X.prog X.w) X.A (isTrue e X.env (eval e X.env)) (TP X pins σ Q) X.xe s
def PW (X : Cx) (e : Expr) (t : TT) : Prop :=
 ∀ (whole : Sem Value) (pins : List (Addr × Obj)) (s : Shared) (σ : St) (H : Hp) (Q : Bool -> Hp -> Prop), Inv X pins σ H s -> t σ H Q -> wpAny (model X.prog X.w) X.A (isTrue e X.env whole) (TP X pins σ Q) X.xe s
theorem PW.pt {X : Cx} {e : Expr} {t : TT} (h : PW X e t) : PT X e t := h _
def PA (X : Cx) (es : List Expr) (t : TA) : Prop :=
 ∀ (pos : Pos) (pins : List (Addr × Obj)) (s : Shared) (σ : St) (H : Hp) (Q : List V -> Hp -> Prop), Inv X pins σ H s -> t σ H Q -> wpAny (model X.prog X.w) X.A (spliced (backTo pos (starEach es X.env))) (AP X pins σ Q) X.xe s
def PS (X : Cx) (st : Stmt) (t : TS) : Prop :=
 ∀ (pins : List (Addr × Obj)) (s : Shared) (σ : St) (H : Hp) (D : P4), Inv X pins σ H s -> t D σ H -> wpAny (model X.prog X.w) X.A (exec st X.env) (SP X pins D) X.xe s
def PSs (X : Cx) (st : List Stmt) (t : TS) : Prop :=
 ∀ (pins : List (Addr × Obj)) (s : Shared) (σ : St) (H : Hp) (D : P4), Inv X pins σ H s -> t D σ H -> wpAny (model X.prog X.w) X.A (execs st X.env) (SP X pins D) X.xe s
theorem thn {α : Type} {t : Sem α} {Q Q' : α -> Shared -> Prop} {M : Model} {A : Around} {E : Value -> Shared -> Prop} {s : Shared} (h : wpAny M A t Q E s) (hQ : ∀ a s, Q a s -> Q' a s) : wpAny M A t Q' E s := wpAny_mono h hQ fun _ _ x => x
end L2
namespace L2
open PySem PySem.Spec PyProof.Rows
section
variable {X : Cx}
def A7 (i : Nat) : TE := fun σ H Q => ∃ v, σ[i]? = some (some v) /\ Q v H
def tC (v : V) : TE := fun _ H Q => Q v H
theorem yn2 {i : Nat} {x : Str} {pos : Pos} (hN : X.N[i]? = some x) (hv : Vis X.env.scope x) (hd : autoParam ((x == ("__debug__" : Str)) = false) zAd) (hcd : autoParam ((x == ("__classdict__" : Str)) = false) zAd) : PE X (.Name x pos) (A7 i) := by
 intro pins s σ H Q I h
 obtain ⟨v, e, h⟩ := h
 obtain ⟨m, hn, hl⟩ := I.loc
 obtain ⟨u, r, l⟩ := hl i x v hN e hv
 have fin : EP X pins σ Q u s := ⟨v, H, I, r, h⟩
 rcases l with ⟨hk, hm⟩ | ⟨hk, c, hc, hcell⟩
 ·exact wpAny_Name (wpAny_loadName_local I.ok.kind hk hn hm fin) hd
 ·rcases hk with hk | hk
  ·exact wpAny_Name (wpAny_loadName_cell I.ok.kind hk hc hcell fin) hd
  ·exact wpAny_Name (wpAny_loadName_free I.ok.kind hk hc hcell fin hcd) hd
theorem B3 {i j pos} : PE X (.Constant (.int i) j pos) (tC (.int i)) := fun _ _ _ H _ I h => wpAny_Constant_int ⟨.int i, H, I.tok _, ⟨_, rfl⟩, h⟩
theorem wb4 {b j pos} : PE X (.Constant (.bool b) j pos) (tC (.bl b)) := fun _ _ _ H _ I h => Constant_bool ⟨.bl b, H, I, rfl, h⟩
theorem O7 {j pos} : PE X (.Constant .none j pos) (tC .non) := fun _ _ _ H _ I h => Constant_none ⟨.non, H, I, rfl, h⟩
theorem C3 {x j pos} : PE X (.Constant (.str x) j pos) (tC (.str x)) := fun _ _ _ H _ I h => Calls.Constant_str ⟨.str x, H, I.tok _, ⟨_, rfl⟩, h⟩
def Gl (X : Cx) (x : Str) : Prop := X.env.kindOf x = some .globalImplicit
theorem qm7 {E : Value -> Shared -> Prop} {pins : List (Addr × Obj)} {s : Shared} {σ : St} {H : Hp} {x : Str} {u : Value} {pos : Pos} {Q : Value -> Shared -> Prop} (I : Inv X pins σ H s) (hg : Gl X x) (hm : X.mg x = some u) (h : Q u s)
 (hd : autoParam ((x == ("__debug__" : Str)) = false) zAd) : wpAny (model X.prog X.w) X.A (eval (.Name x pos) X.env) Q E s :=
 Calls.Name_function_global I.ok.kind hg (Calls.loadGlobal_global (by rw [I.ok.glob]; exact I.mod.glob.keeps I.bk) hm h) hd
theorem qg5 {E : Value -> Shared -> Prop} {pins : List (Addr × Obj)} {s : Shared} {σ : St} {H : Hp} {x : Str} {u : Value} {pos : Pos} {Q : Value -> Shared -> Prop} (I : Inv X pins σ H s) (hg : Gl X x) (hm : X.mg x = none) (hv : bootBuiltins x = some u) (h : Q u s)
 (hn : autoParam (x ≠ "__name__") zAd) (hd : autoParam ((x == ("__debug__" : Str)) = false) zAd) : wpAny (model X.prog X.w) X.A (eval (.Name x pos) X.env) Q E s := by
 obtain ⟨mb, h1, h2⟩ := I.mod.blt
 exact Calls.Name_function_global I.ok.kind hg (Calls.loadGlobal_builtin (by rw [I.ok.glob]; exact I.mod.glob.keeps I.bk) hm (by rw [I.ok.blt]; exact h1.keeps I.bk) ((h2 x hn).trans hv) h) hd
theorem G3 {x : Str} {v : V} {u : Value} {pos : Pos} (hg : Gl X x) (hm : X.mg x = some u) (r : G8 v u) (hd : autoParam ((x == ("__debug__" : Str)) = false) zAd) : PE X (.Name x pos) (tC v) :=
 fun _ _ _ H _ I h => qm7 I hg hm ⟨v, H, I, r, h⟩ hd
theorem qr8 {x : Str} {v : V} {u : Value} {pos : Pos} (hg : Gl X x) (hm : X.mg x = none) (hv : bootBuiltins x = some u) (r : G8 v u) (hn : autoParam (x ≠ "__name__") zAd) (hd : autoParam ((x == ("__debug__" : Str)) = false) zAd) : PE X (.Name x pos) (tC v) :=
 fun _ _ _ H _ I h => qg5 I hg hm hv ⟨v, H, I, r, h⟩ hn hd
variable {a b : Expr} {ta tb : TE} {pos : Pos}
def tB (t : TE) : TT := fun σ H Q => t σ H fun x H1 => ∃ c, x = .bl c /\ Q c H1
theorem Q3 {e : Expr} {t : TE} (h : PE X e t) (he : autoParam (∀ whole, isTrue e X.env whole = (do let v <- whole; standAt e.pos; holding [v] (truthy v))) zAi) : PT X e (tB t) := by
 intro pins s σ H Q I hw
 refine isTrue_plain (thn (h pins s σ H _ I hw) fun v s1 zq => ?_) (he _)
 obtain ⟨x, H1, I1, r1, q1⟩ := zq
 obtain ⟨d, rfl, q⟩ := q1
 cases r1
 exact wpAny_truthy_bool ⟨H1, I1, q⟩
variable {tA tB' : TT} {rest : List Expr}
def yd8 (t u : TT) : TT := fun σ H Q => t σ H fun c H1 => if c = true then u σ H1 Q else Q false H1
def tOr (t u : TT) : TT := fun σ H Q => t σ H fun c H1 => if c = true then Q true H1 else u σ H1 Q
def wf0 (t : TT) : TT := fun σ H Q => t σ H fun c H1 => Q (!c) H1
theorem xl2 (ha : PT X a tA) : PW X (.BoolOp .And [a] pos) tA := by
 intro wh pins s σ H Q I h
 refine isTrue_and (thn (ha pins s σ H Q I h) fun c s1 e => ?_)
 cases c with
 | true => exact isTrue_and_nil e
 | false => exact e
theorem qa6 (ha : PT X a tA) : PW X (.BoolOp .Or [a] pos) tA := by
 intro wh pins s σ H Q I h
 refine isTrue_or (thn (ha pins s σ H Q I h) fun c s1 e => ?_)
 cases c with
 | false => exact isTrue_or_nil e
 | true => exact e
theorem xu7 (ha : PT X a tA) (hb : PW X (.BoolOp .And (b :: rest) pos) tB') : PW X (.BoolOp .And (a :: b :: rest) pos) (yd8 tA tB') := by
 intro wh pins s σ H Q I h
 refine isTrue_and (thn (ha pins s σ H _ I h) fun c s1 zq => ?_)
 obtain ⟨H1, I1, q1⟩ := zq
 cases c with
 | true => exact hb wh pins s1 σ H1 Q I1 q1
 | false => exact ⟨H1, I1, q1⟩
theorem qc2 (ha : PT X a tA) (hb : PW X (.BoolOp .Or (b :: rest) pos) tB') : PW X (.BoolOp .Or (a :: b :: rest) pos) (tOr tA tB') := by
 intro wh pins s σ H Q I h
 refine isTrue_or (thn (ha pins s σ H _ I h) fun c s1 zq => ?_)
 obtain ⟨H1, I1, q1⟩ := zq
 cases c with
 | true => exact ⟨H1, I1, q1⟩
 | false => exact hb wh pins s1 σ H1 Q I1 q1
theorem qg6 (ha : PT X a tA) : PT X (.UnaryOp .Not a pos) (wf0 tA) := by
 intro pins s σ H Q I h
 exact isTrue_not (ha pins s σ H (fun c H1 => Q (!c) H1) I h)
def qo0 (ta tb : TE) : TE := fun σ H Q => ta σ H fun x H1 => ∃ c, x = .bl c /\ if c = true then tb σ H1 Q else Q (.bl false) H1
theorem qx4 {op} {t : TE} (h : PE X a t) : PE X (.BoolOp op [a] pos) t := fun pins s σ H Q I hw => BoolOp_one (h pins s σ H Q I hw)
theorem qp1 (ha : PE X a ta) (hb : PE X (.BoolOp .And (b :: rest) pos) tb) : PE X (.BoolOp .And (a :: b :: rest) pos) (qo0 ta tb) := by
 intro pins s σ H Q I h
 refine BoolOp_and (thn (ha pins s σ H _ I h) fun v s1 zq => ?_)
 obtain ⟨x, H1, I1, r1, q1⟩ := zq
 obtain ⟨c, rfl, q1⟩ := q1
 cases r1
 refine wpAny_truthy_bool ?_
 cases c with
 | true => exact hb pins s1 σ H1 Q I1 q1
 | false => exact ⟨.bl false, H1, I1, rfl, q1⟩
def tIf (t : TT) (ta tb : TE) : TE := fun σ H Q => t σ H fun c H1 => if c = true then ta σ H1 Q else tb σ H1 Q
theorem qr9 {c : Expr} (hc : PT X c tA) (ha : PE X a ta) (hb : PE X b tb) : PE X (.IfExp c a b pos) (tIf tA ta tb) := by
 intro pins s σ H Q I h
 refine wpAny_IfExp (thn (hc pins s σ H _ I h) fun d s1 zq => ?_)
 obtain ⟨H1, I1, q1⟩ := zq
 cases d with
 | true => exact ha pins s1 σ H1 Q I1 q1
 | false => exact hb pins s1 σ H1 Q I1 q1
end
end L2
namespace L2
open PySem PySem.Spec PyProof.Rows
def SqL (K : Fg) (H : Hp) (a : Addr) (xs : List V) : Prop :=
 Rd H a (.lst xs) \/
  ∃ (o : Obj) (its : Array Value) (n : Nat), K.lookup a = some o /\ o.cls = .type "list" /\ o.dict = none /\ o.data = .seq its n /\ its.size <= sizeLine /\ G4 xs its.toList
def SqT (K : Fg) (H : Hp) (a : Addr) (xs : List V) : Prop :=
 Rd H a (.tup xs) \/
  ∃ (o : Obj) (its : Array Value) (n : Nat), K.lookup a = some o /\ o.cls = .type "tuple" /\ o.data = .seq its n /\ its.size <= sizeLine /\ G4 xs its.toList
noncomputable def za3 : Value -> Option V
 | .none => some .non
 | .bool b => some (.bl b)
 | .int i _ => some (.int i)
 | .str x _ => some (.str x)
 | .bytes b _ => some (.byt b)
 | .float b _ => some (.flt b)
 | .ref a => some (.ref a)
 | .type n => some (.ty n)
 | _ => none
theorem G8.abs {x : V} {u : Value} (r : G8 x u) : za3 u = some x := by
 cases x with
 | non => cases r; rfl
 | bl _ => cases r; rfl
 | int _ => obtain ⟨t, rfl⟩ := r; rfl
 | str _ => obtain ⟨t, rfl⟩ := r; rfl
 | byt _ => obtain ⟨t, rfl⟩ := r; rfl
 | flt _ => obtain ⟨t, rfl⟩ := r; rfl
 | ref _ => cases r; rfl
 | ty _ => cases r; rfl
theorem G8.inj {x y : V} {u : Value} (r : G8 x u) (q : G8 y u) : x = y := Option.some.inj (r.abs.symm.trans q.abs)
theorem G4.inj {xs ys : List V} {us : List Value} (h : G4 xs us) : G4 ys us -> xs = ys := by
 induction h generalizing ys with
 | nil => intro k; cases k; rfl
 | cons r t ih => intro k; cases k with | cons r' t' => rw [r.inj r', ih t']
section
variable {X : Cx} {pins : List (Addr × Obj)} {σ : St} {H : Hp} {s : Shared} {a : Addr} {xs ys : List V}
theorem SqL.of {K : Fg} (h : H a = some (.lst xs)) : SqL K H a xs := .inl (.inl h)
theorem SqT.of {K : Fg} (h : H a = some (.tup xs)) : SqT K H a xs := .inl (.inl h)
theorem Inv.list (I : Inv X pins σ H s) (h : SqL X.K H a xs) : ∃ its : List Value, G4 xs its /\ PlainL s.heap a its.toArray /\ xs.length <= sizeLine := by
 rcases h with h | ⟨o, its, n, hk, hc, hd, hs, hz, r⟩
 ·obtain ⟨z, its, n, r, e⟩ := h.ok I.hok
  exact ⟨its, r, ⟨_, n, e, rfl, rfl, rfl⟩, z⟩
 ·refine ⟨its.toList, r, ⟨o, n, I.kIn a o hk, hc, hd, by simpa using hs⟩, ?_⟩
  have e := r.length
  simp only [Array.length_toList] at e
  omega
theorem Inv.tuple (I : Inv X pins σ H s) (h : SqT X.K H a xs) : ∃ its : List Value, G4 xs its /\ IsTup s.heap a its.toArray /\ xs.length <= sizeLine := by
 rcases h with h | ⟨o, its, n, hk, hc, hs, hz, r⟩
 ·obtain ⟨z, its, r, p⟩ := h.ok I.hok
  exact ⟨its, r, p, z⟩
 ·refine ⟨its.toList, r, ⟨o, I.kIn a o hk, hc, n, by simpa using hs⟩, ?_⟩
  have e := r.length
  simp only [Array.length_toList] at e
  omega
theorem Inv.list_inj (I : Inv X pins σ H s) (h : SqL X.K H a xs) (h' : SqL X.K H a ys) : xs = ys := by
 obtain ⟨its, r, ⟨o, n, e, _, _, d⟩, _⟩ := I.list h
 obtain ⟨its', r', ⟨o', n', e', _, _, d'⟩, _⟩ := I.list h'
 rw [e] at e'; cases e'
 rw [d] at d'
 injection d' with d1 _
 have : its = its' := by simpa using congrArg Array.toList d1
 subst this
 exact r.inj r'
theorem Inv.tuple_inj (I : Inv X pins σ H s) (h : SqT X.K H a xs) (h' : SqT X.K H a ys) : xs = ys := by
 obtain ⟨its, r, ⟨o, e, _, n, d⟩, _⟩ := I.tuple h
 obtain ⟨its', r', ⟨o', e', _, n', d'⟩, _⟩ := I.tuple h'
 rw [e] at e'; cases e'
 rw [d] at d'
 injection d' with d1 _
 have : its = its' := by simpa using congrArg Array.toList d1
 subst this
 exact r.inj r'
end
noncomputable abbrev Cx.wish (X : Cx) (E : Value -> Shared -> Prop) : Cx := { X with xe := E }
noncomputable abbrev Cx.nox (X : Cx) : Cx := X.wish fun _ _ => False
theorem Cx.Ok.wish {X : Cx} (ok : X.Ok) (E : Value -> Shared -> Prop) : (X.wish E).Ok :=
 ⟨ok.mod, ok.kind, ok.glob, ok.blt, ok.above, ok.inj, ok.has, ok.cab, ok.hd, ok.frames, ok.stk, ok.exf, ok.bs, ok.bsz, ok.noex, ok.exfs, ok.funs, ok.frf⟩
theorem Cx.Ok.unwish {X : Cx} {E : Value -> Shared -> Prop} (ok : (X.wish E).Ok) : X.Ok :=
 ⟨ok.mod, ok.kind, ok.glob, ok.blt, ok.above, ok.inj, ok.has, ok.cab, ok.hd, ok.frames, ok.stk, ok.exf, ok.bs, ok.bsz, ok.noex, ok.exfs, ok.funs, ok.frf⟩
section
variable {X : Cx} {pins : List (Addr × Obj)} {σ : St} {H : Hp} {s : Shared} {E : Value -> Shared -> Prop}
theorem Inv.wish (I : Inv X pins σ H s) (E : Value -> Shared -> Prop) : Inv (X.wish E) pins σ H s := ⟨I.ok.wish E, I.os, I.bare, I.base, I.loc, I.cell, I.free, I.freeC, I.pin, I.hok, I.len, I.tk⟩
theorem Inv.unwish (I : Inv (X.wish E) pins σ H s) : Inv X pins σ H s := ⟨I.ok.unwish, I.os, I.bare, I.base, I.loc, I.cell, I.free, I.freeC, I.pin, I.hok, I.len, I.tk⟩
theorem SP.unwish {D : P4} {f : Flow} {s' : Shared} (h : SP (X.wish E) pins D f s') : SP X pins D f s' := by
 cases f with
 | next => obtain ⟨σ', H', I, q⟩ := h; exact ⟨σ', H', I.unwish, q⟩
 | brk => obtain ⟨σ', H', I, q⟩ := h; exact ⟨σ', H', I.unwish, q⟩
 | cont => obtain ⟨σ', H', I, q⟩ := h; exact ⟨σ', H', I.unwish, q⟩
 | ret u => obtain ⟨v, σ', H', I, r, q⟩ := h; exact ⟨v, σ', H', I.unwish, r, q⟩
theorem PSs.nox {st : List Stmt} {t : TS} (h : PSs X.nox st t) : PSs X st t := fun pins s σ H D I hw =>
 wpAny_mono (h pins s σ H D (I.wish _) hw) (fun _ _ q => q.unwish) fun _ _ z => False.elim z
end
section
variable {X : Cx} {st : Stmt} {rest : List Stmt} {t u : TS} {e : Expr} {te : TE} {pos : Pos}
def G7 : TS := fun D σ H => D.nx σ H
def C6 (t u : TS) : TS := fun D σ H => t { D with nx := u D } σ H
theorem D5 : PSs X [] G7 := fun _ _ σ H _ I h => wpAny_execs_nil ⟨σ, H, I, h⟩
theorem B0 (h1 : PS X st t) (h2 : PSs X rest u) : PSs X (st :: rest) (C6 t u) := by
 intro pins s σ H D I h
 refine wpAny_execs_cons (thn (h1 pins s σ H { D with nx := u D } I h) fun f s1 q => ?_)
 cases f with
 | next =>
   obtain ⟨σ', H', I', q⟩ := q
   exact h2 pins s1 σ' H' D I' q
 | ret v => exact q
 | brk => exact q
 | cont => exact q
theorem B5 (h1 : PS X st t) : PSs X [st] t := by
 intro pins s σ H D I h
 refine wpAny_execs_cons (thn (h1 pins s σ H D I h) fun f s1 q => ?_)
 cases f with
 | next => exact wpAny_execs_nil q
 | ret v => exact q
 | brk => exact q
 | cont => exact q
def xg3 : TS := fun D σ H => D.bk σ H
theorem xu8 : PS X (.Break pos) xg3 := fun _ _ σ H _ I h => wpAny_Break ⟨σ, H, I, h⟩
theorem Inv.quiet {pins : List (Addr × Obj)} {σ : St} {H : Hp} {s : Shared} (I : Inv X pins σ H s) : interactive X.env = false := by simp [interactive, I.ok.kind]
def qf1 (te : TE) : TS := fun D σ H => te σ H fun _ H1 => D.nx σ H1
theorem qc3 (he : PE X e te) (hs : autoParam (swapsWith e none pos.line X.env = pure false) zAr) : PS X (.Expr e pos) (qf1 te) := by
 intro pins s σ H D I h
 exact wpAny_Expr_any (thn (he pins s σ H _ I h) fun v s1 ⟨x, H1, I1, r1, q1⟩ => ⟨σ, H1, I1, q1⟩) I.quiet hs
def M0 (te : TE) : TS := fun D σ H => te σ H D.rt
theorem D0 (he : PE X e te) : PS X (.Return (some e) pos) (M0 te) := by
 intro pins s σ H D I h
 exact wpAny_Return_some (thn (he pins s σ H _ I h) fun v s1 ⟨x, H1, I1, r1, q1⟩ => ⟨x, σ, H1, I1, r1, q1⟩)
def M8 (c : TT) (t u : TS) : TS := fun D σ H => c σ H fun b H1 => if b = true then t D σ H1 else u D σ H1
theorem J0 {c : Expr} {a b : List Stmt} {tc : TT} (hc : PT X c tc) (ha : PSs X a t) (hb : PSs X b u) : PS X (.If c a b pos) (M8 tc t u) := by
 intro pins s σ H D I h
 refine wpAny_If (thn (hc pins s σ H _ I h) fun d s1 zq => ?_)
 obtain ⟨H1, I1, q1⟩ := zq
 cases d with
 | true => exact ha pins s1 σ H1 D I1 q1
 | false => exact hb pins s1 σ H1 D I1 q1
def wf1 : TS := fun _ _ _ => False
theorem qs0 : PS X st wf1 := fun _ _ _ _ _ _ h => h.elim
end
noncomputable abbrev TG := V -> St -> Hp -> (St -> Hp -> Prop) -> Prop
noncomputable abbrev TGs := List V -> St -> Hp -> (St -> Hp -> Prop) -> Prop
def PG (X : Cx) (target : Expr) (t : TG) : Prop :=
 ∀ (pins : List (Addr × Obj)) (s : Shared) (σ : St) (H : Hp) (v : V) (u : Value) (Q : St -> Hp -> Prop), Inv X pins σ H s -> G8 v u -> t v σ H Q ->
  wpAny (model X.prog X.w) X.A (assign target X.env u) (fun _ s' => ∃ σ' H', Inv X pins σ' H' s' /\ Q σ' H') X.xe s
def PGs (X : Cx) (ts : List Expr) (t : TGs) : Prop :=
 ∀ (pins : List (Addr × Obj)) (s : Shared) (σ : St) (H : Hp) (vs : List V) (us : List Value) (Q : St -> Hp -> Prop), Inv X pins σ H s -> G4 vs us -> t vs σ H Q ->
  wpAny (model X.prog X.w) X.A (assignInOrder ((assignEach ts X.env).map (·.2)) us) (fun _ s' => ∃ σ' H', Inv X pins σ' H' s' /\ Q σ' H') X.xe s
noncomputable abbrev xu9 := V -> V -> V -> Hp -> (Hp -> Prop) -> Prop
def yn3 (X : Cx) (t : xu9) : Prop :=
 ∀ (pins : List (Addr × Obj)) (s : Shared) (σ : St) (H : Hp) (o i v : V) (ov iv u : Value) (Q : Hp -> Prop), Inv X pins σ H s -> G8 o ov -> G8 i iv -> G8 v u -> t o i v H Q ->
  wpAny (model X.prog X.w) X.A (setItem ov iv u) (fun _ s' => ∃ H', Inv X pins σ H' s' /\ Q H') X.xe s
section
variable {X : Cx} {pos : Pos}
def B7 (i : Nat) : TG := fun v σ H Q => Q (σ.set i (some v)) H
theorem E1 {i : Nat} {x : Str} (hN : X.N.Nodup) (hi : X.N[i]? = some x) (hx : Loc X.env.scope x) (hf : autoParam (X.fn x = true \/ X.env.scope.names.lookup x = some .local) zAf) : PG X (.Name x pos) (B7 i) := by
 intro pins s σ H v u Q I r h
 exact wpAny_assign_Name (we9 I hN hi hx r (fun s' I' => ⟨_, H, I', h⟩) hf)
def xb4 : TGs := fun vs σ H Q => vs = [] /\ Q σ H
def X3 (t : TG) (u : TGs) : TGs := fun vs σ H Q => ∃ v r, vs = v :: r /\ t v σ H fun σ' H' => u r σ' H' Q
theorem qm8 : PGs X [] xb4 := by
 intro pins s σ H vs us Q I r h
 obtain ⟨e, h⟩ := h
 subst e
 cases r
 exact assignInOrder_nil ⟨σ, H, I, h⟩
theorem N6 {e : Expr} {es : List Expr} {t : TG} {u : TGs} (h1 : PG X e t) (h2 : PGs X es u)
 (hs : autoParam ((assignEach (e :: es) X.env).map (·.2) = assign e X.env :: (assignEach es X.env).map (·.2)) zAr) : PGs X (e :: es) (X3 t u) := by
 intro pins s σ H vs us Q I r h
 obtain ⟨v, vr, e1, h⟩ := h
 subst e1
 cases r with
 | cons r rr =>
   rw [hs]
   refine assignInOrder_cons (thn (h1 pins s σ H _ _ _ I r h) fun _ s1 zq => ?_)
   obtain ⟨σ1, H1, I1, q1⟩ := zq
   exact h2 pins s1 σ1 H1 _ _ Q I1 rr q1
def xb5 (K : Fg) (n : Nat) (t : TGs) : TG := fun v σ H Q => ∃ a xs, v = .ref a /\ SqT K H a xs /\ xs.length = n /\ t xs σ H Q
theorem qx5 {es : List Expr} {k : Nat} {t : TGs} {n : Nat} (hc : X.calm = true) (h : PGs X es t)
 (hn : autoParam ((assignEach es X.env).length = n) zAr) (hst : autoParam ((assignEach es X.env).findIdx? (·.1) = none) zAr) : PG X (.Tuple es k pos) (xb5 X.K n t) := by
 intro pins s σ H v u Q I r hw
 obtain ⟨a, xs, e1, hq, hl, hw⟩ := hw
 subst e1
 cases r
 obtain ⟨its, rv, ht, hz⟩ := I.tuple hq
 refine assign_Tuple_tuple (I.ok.hd hc) ht (by simp [hn, <- hl, rv.length]) hst fun h' hx => ?_
 have I1 : Inv X pins σ H { s with heap := h' } := I.kept (t' := s.toks) fun b o e => hx b o (Nat.ne_of_lt (Heap.lt_size e)) e
 exact h pins _ σ H xs _ Q I1 (by simpa using rv) hw
def wf2 (to ti : TE) (t : xu9) : TG := fun v σ H Q => to σ H fun o H1 => ti σ H1 fun i H2 => t o i v H2 fun H3 => Q σ H3
theorem qp2 {o i : Expr} {to ti : TE} {t : xu9} (ho : PE X o to) (hi : PE X i ti) (hs : yn3 X t)
 (ha : ∀ v, assign (.Subscript o i pos) X.env v = (do
  let ov <- holding [v] (eval o X.env)
  let iv <- holding [v, ov] (eval i X.env)
  standAt pos
  holding [v, ov, iv] (setItem ov iv v)
  release [v, ov, iv] []) := by intro _; rfl) : PG X (.Subscript o i pos) (wf2 to ti t) := by
 intro pins s σ H v u Q I r h
 rw [ha]
 refine wpAny_bind (wpAny_holding (thn (ho pins s σ H _ I h) fun ov s1 zq => ?_))
 obtain ⟨x, H1, I1, r1, q1⟩ := zq
 refine wpAny_bind (wpAny_holding (thn (hi pins s1 σ H1 _ I1 q1) fun iv s2 zq => ?_))
 obtain ⟨y, H2, I2, r2, q2⟩ := zq
 refine wpAny_bind (wpAny_standAt (wpAny_bind (wpAny_holding (thn (hs pins s2 σ H2 x y v ov iv u _ I2 r1 r2 r q2) fun _ s3 zq => ?_))))
 obtain ⟨H3, I3, q3⟩ := zq
 exact wpAny_release ⟨σ, H3, I3, q3⟩
def G0 (te : TE) (g : TG) : TS := fun D σ H => te σ H fun x H1 => g x σ H1 D.nx
theorem qk5 {tg e : Expr} {te : TE} {g : TG} (he : PE X e te) (hg : PG X tg g) (hs : autoParam (swapsWithSole [tg] e pos.line X.env = pure false) zAr) (hw : autoParam (swappedStores [tg] e X.env = pure none) zAr)
 (h1 : autoParam ((assignEach [tg] X.env).map (·.2) = [assign tg X.env]) zAr) : PS X (.Assign [tg] e pos) (G0 te g) := by
 intro pins s σ H D I h
 refine wpAny_Assign_stores (thn (he pins s σ H _ I h) fun v s1 zq => ?_) hs hw
 obtain ⟨x, H1, I1, r1, q1⟩ := zq
 rw [h1]
 exact thn (hg pins s1 σ H1 x v _ I1 r1 q1) fun _ s2 q => q
theorem D4 {i : Nat} {x : Str} {e : Expr} {te : TE} {pos' : Pos} (hN : X.N.Nodup) (hi : X.N[i]? = some x) (hx : Loc X.env.scope x) (he : PE X e te) (hs : autoParam (swapsWith e (some (.Name x pos')) pos.line X.env = pure false) zAr) (hf : autoParam (X.fn x = true \/ X.env.scope.names.lookup x = some .local) zAf) :
 PS X (.Assign [.Name x pos'] e pos) (G0 te (B7 i)) := by
 intro pins s σ H D I h
 refine wpAny_Assign_Name (thn (he pins s σ H _ I h) fun v s1 zq => ?_) hs
 obtain ⟨y, H1, I1, r1, q1⟩ := zq
 exact we9 I1 hN hi hx r1 (fun s2 I2 => ⟨_, H1, I2, q1⟩) hf
end
set_option genInjectivity false in
structure It where
 go : Nat -> Hp -> Prop
 yld : Nat -> Hp -> V -> Hp -> Prop
 stop : Nat -> Hp -> Prop
def wn5 (X : Cx) (pins : List (Addr × Obj)) (H : Hp) (b : Addr) : Prop :=
 H b = none /\ b ≠ X.env.locals /\ b ∉ X.fs /\ (b ∈ X.ex \/ X.s₀.heap.objs.size <= b) /\ (∀ x c, X.env.cells.lookup x = some c -> c ≠ b) /\ ∀ p ∈ X.pn ++ pins, p.1 ≠ b
theorem Inv.fpOk {X : Cx} {pins : List (Addr × Obj)} {σ : St} {H H' : Hp} {s : Shared} {b : Addr} (I : Inv X pins σ H s) (hb : s.heap.objs.size <= b) (hn : H' b = none) : wn5 X pins H' b := by
 refine ⟨hn, Nat.ne_of_gt (Nat.lt_of_lt_of_le I.lt hb), I.nofs hb, .inr (Nat.le_trans I.sz hb), fun x c e z => ?_, fun p hp z => ?_⟩
 ·obtain ⟨v, q⟩ := I.cell x c e
  exact absurd (Nat.lt_of_lt_of_le q.lt (by rw [z]; exact hb)) (Nat.lt_irrefl _)
 ·exact absurd (Nat.lt_of_lt_of_le (Heap.lt_size (I.pin p hp).1) (by rw [z]; exact hb)) (Nat.lt_irrefl _)
structure wn6 (P : Program) (w : World) (K : Fg) (tg : Expr) (J : It) (fp : List Addr) (it : Addr) (tn : Nat -> Heap -> Prop) : Prop where
 mem : it ∈ fp
 obj : ∀ i h, tn i h -> ∀ b ∈ fp, ∃ o, h.get? b = some o /\ ∀ v, o.data ≠ .cell v
 keep : ∀ i h h', tn i h -> (∀ b ∈ fp, ∀ o, h.get? b = some o -> h'.get? b = some o) -> tn i h'
 item : ∀ (X : Cx), X.prog = P -> X.w = w -> X.K = K -> X.calm = true -> ∀ (i : Nat) (pins : List (Addr × Obj)) (s : Shared) (σ : St) (H : Hp) (E : Value -> Shared -> Prop), Inv X pins σ H s -> (∀ b ∈ fp, wn5 X pins H b) -> tn i s.heap -> J.go i H ->
  wpAny (model P w) X.A (pyNext (.ref it)) (fun r s1 => ∃ u, r = some u /\
   wpAny (model P w) X.A (letOwnedTupleGo tg (.ref it) u) (fun _ s2 => ∃ x H', Inv X pins σ H' s2 /\ G8 x u /\ J.yld i H x H' /\ tn (i + 1) s2.heap /\ ∀ b ∈ fp, H' b = none) E s1) E s
 done : ∀ (X : Cx), X.prog = P -> X.w = w -> X.K = K -> X.calm = true -> ∀ (i : Nat) (pins : List (Addr × Obj)) (s : Shared) (σ : St) (H : Hp) (E : Value -> Shared -> Prop), Inv X pins σ H s -> (∀ b ∈ fp, wn5 X pins H b) -> tn i s.heap -> J.stop i H ->
  wpAny (model P w) X.A (pyNext (.ref it)) (fun r s1 => r = none /\ Inv X pins σ H s1) E s
 self : ∀ (A : Around) (i : Nat) (s : Shared) (Q : Value -> Shared -> Prop) (E : Value -> Shared -> Prop), tn i s.heap -> Q (.ref it) s -> wpAny (model P w) A (pyIter (.ref it)) Q E s
noncomputable abbrev TI := St -> Hp -> (It -> Hp -> Prop) -> Prop
def PIE (X : Cx) (pins : List (Addr × Obj)) (σ : St) (tg : Expr) (R : It -> Hp -> Prop) (itv : Value) (s2 : Shared) : Prop :=
 ∃ (it : Addr) (fp : List Addr) (tn : Nat -> Heap -> Prop) (J : It) (H' : Hp), itv = .ref it /\ Inv X pins σ H' s2 /\ wn6 X.prog X.w X.K tg J fp it tn /\ tn 0 s2.heap /\ (∀ b ∈ fp, wn5 X pins H' b) /\ R J H'
def PI (X : Cx) (tg iter : Expr) (wi : TI) : Prop :=
 ∀ (pins : List (Addr × Obj)) (s : Shared) (σ : St) (H : Hp) (R : It -> Hp -> Prop), Inv X pins σ H s -> wi σ H R ->
  wpAny (model X.prog X.w) X.A (eval iter X.env) (fun v s1 => wpAny (model X.prog X.w) X.A (pyIter v) (PIE X pins σ tg R) X.xe s1) X.xe s
theorem xb6 {M : Model} {A : Around} {E : Value -> Shared -> Prop} {s : Shared} {tg : Expr} {it : Addr} {u : Value} {o : Obj} {n : String} {vs : Array Value} {Q : Unit -> Shared -> Prop} (ho : s.heap.get? it = some o) (hc : o.cls = .type n) (hd : o.data = .fields vs)
 (hn : ["enumerate", "zip", "dict_itemiterator", "dict_reverseitemiterator", "odict_iterator", "itertools.zip_longest", "itertools.pairwise"].contains n = false) (hQ : Q () s) : wpAny M A (letOwnedTupleGo tg (.ref it) u) Q E s := by
 unfold letOwnedTupleGo
 cases tg <;> first
  | exact wpAny_pure hQ
  | (cases u <;> first
   | exact wpAny_pure hQ
   | (refine wpAny_bind (wpAny_load ho ?_)
      rw [hc, hd]
      show wpAny M A (if (["enumerate", "zip", "dict_itemiterator", "dict_reverseitemiterator", "odict_iterator", "itertools.zip_longest", "itertools.pairwise"].contains n && vs[0]? == some (rawInt _)) = true then _ else _) Q E s
      rw [if_neg (by intro h; rw [hn, Bool.false_and] at h; cases h)]
      exact wpAny_pure hQ))
def Itl (K : Fg) (a : Addr) : It :=
 ⟨fun i H => ∃ xs x, SqL K H a xs /\ xs[i]? = some x, fun i H x H' => H' = H /\ ∀ xs, SqL K H a xs -> xs[i]? = some x, fun i H => ∃ xs, SqL K H a xs /\ xs.length <= i⟩
def Itt (K : Fg) (a : Addr) : It :=
 ⟨fun i H => ∃ xs x, SqT K H a xs /\ xs[i]? = some x, fun i H x H' => H' = H /\ ∀ xs, SqT K H a xs -> xs[i]? = some x, fun i H => ∃ xs, SqT K H a xs /\ xs.length <= i⟩
def Itr (lo : Int) (n : Nat) : It := ⟨fun i _ => i < n, fun i H x H' => H' = H /\ x = .int (lo + i), fun i _ => n <= i⟩
theorem xp7 {P : Program} {w : World} {K : Fg} {tg : Expr} (a it : Addr) : wn6 P w K tg (Itl K a) [it] it (fun i h => h.IsListIter it a i) where
 mem := by simp
 obj := fun i h st b hb => by
  have e : b = it := by simpa using hb
  subst e
  obtain ⟨o, e, c, d⟩ := st
  exact ⟨o, e, fun v z => by rw [d] at z; cases z⟩
 keep := fun i h h' st k => st.at fun o e => k it (by simp) o e
 item := by
  intro X hP hw hK hc i pins s σ H E I hf st hg
  subst hP hw hK
  obtain ⟨xs, x, hq, hx⟩ := hg
  obtain ⟨its, rv, p, hz⟩ := I.list hq
  obtain ⟨u, hu, ru⟩ := rv.get hx
  obtain ⟨f0, f1, f2, f3, f4, f5⟩ := hf it (by simp)
  refine wpAny_pyNext_list_item st p.isList (x := u) (by simpa using hu) fun h' st' sb => ?_
  have I1 : Inv X pins σ H { s with heap := h' } := I.turned (t' := s.toks) (fun b o hb e => (sb.2 b hb).trans e) f0 f1 f3 f4 f5
  obtain ⟨o, e, c, d⟩ := id st'
  exact ⟨u, rfl, xb6 (s := { s with heap := h' }) e c d (by decide) ⟨x, H, I1, ru, ⟨rfl, fun ys hy => by rw [I.list_inj hy hq]; exact hx⟩, st', fun b hb => (hf b hb).1⟩⟩
 done := by
  intro X hP hw hK hc i pins s σ H E I hf st hg
  subst hP hw hK
  obtain ⟨xs, hq, hx⟩ := hg
  obtain ⟨its, rv, p, hz⟩ := I.list hq
  obtain ⟨f0, f1, f2, f3, f4, f5⟩ := hf it (by simp)
  have hl := rv.length
  exact wpAny_pyNext_list_end (I.ok.hd hc) st p.isList (by simp; omega) fun h' eb => ⟨rfl, I.turned (t' := s.toks) (fun b o hb e => eb b o hb e) f0 f1 f3 f4 f5⟩
 self := fun _ _ _ _ _ st h => wpAny_pyIter_listiter st h
theorem xg4 {P : Program} {w : World} {K : Fg} {tg : Expr} (a it : Addr) : wn6 P w K tg (Itt K a) [it] it (fun i h => h.IsTupleIter it a i) where
 mem := by simp
 obj := fun i h st b hb => by
  have e : b = it := by simpa using hb
  subst e
  obtain ⟨o, e, c, d⟩ := st
  exact ⟨o, e, fun v z => by rw [d] at z; cases z⟩
 keep := fun i h h' st k => st.at fun o e => k it (by simp) o e
 item := by
  intro X hP hw hK hc i pins s σ H E I hf st hg
  subst hP hw hK
  obtain ⟨xs, x, hq, hx⟩ := hg
  obtain ⟨its, rv, p, hz⟩ := I.tuple hq
  obtain ⟨u, hu, ru⟩ := rv.get hx
  obtain ⟨f0, f1, f2, f3, f4, f5⟩ := hf it (by simp)
  refine wpAny_pyNext_tuple_item st (show s.heap.IsTuple a its.toArray from p) (x := u) (by simpa using hu) fun h' st' sb => ?_
  have I1 : Inv X pins σ H { s with heap := h' } := I.turned (t' := s.toks) (fun b o hb e => (sb.2 b hb).trans e) f0 f1 f3 f4 f5
  obtain ⟨o, e, c, d⟩ := id st'
  exact ⟨u, rfl, xb6 (s := { s with heap := h' }) e c d (by decide) ⟨x, H, I1, ru, ⟨rfl, fun ys hy => by rw [I.tuple_inj hy hq]; exact hx⟩, st', fun b hb => (hf b hb).1⟩⟩
 done := by
  intro X hP hw hK hc i pins s σ H E I hf st hg
  subst hP hw hK
  obtain ⟨xs, hq, hx⟩ := hg
  obtain ⟨its, rv, p, hz⟩ := I.tuple hq
  obtain ⟨f0, f1, f2, f3, f4, f5⟩ := hf it (by simp)
  have hl := rv.length
  exact wpAny_pyNext_tuple_end (I.ok.hd hc) st (show s.heap.IsTuple a its.toArray from p) (by simp; omega) fun h' eb => ⟨rfl, I.turned (t' := s.toks) (fun b o hb e => eb b o hb e) f0 f1 f3 f4 f5⟩
 self := fun _ _ _ _ _ st h => wpAny_pyIter_tupleiter st h
theorem xg5 {P : Program} {w : World} {K : Fg} {tg : Expr} (it : Addr) (lo : Int) (n : Nat) : wn6 P w K tg (Itr lo n) [it] it (fun i h => IsRangeIter h it (lo + (i : Nat) * 1) ((n : Int) - (i : Nat)) 1) where
 mem := by simp
 obj := fun i h st b hb => by
  have e : b = it := by simpa using hb
  subst e
  exact ⟨_, st, fun v z => by
   have z' : Data.fields _ = Data.cell v := z
   cases z'⟩
 keep := fun i h h' st k => k it (by simp) _ st
 item := by
  intro X hP hw hK hc i pins s σ H E I hf st hg
  subst hP hw hK
  obtain ⟨f0, f1, f2, f3, f4, f5⟩ := hf it (by simp)
  have W := Walks.range (prog := X.prog) (w := X.w) (I.ok.hd hc) it lo 1 n
  refine wpAny_with_toks (n := 1) I.tk (W.item i s _ _ hg st fun v h' tk hv st' kk ht => ?_)
  have ht : 0 < tk := ht
  obtain ⟨t, rfl⟩ := hv
  have I1 : Inv X pins σ H { s with heap := h', toks := tk } := I.turned (fun b o hb e => kk b o (by simpa using hb) e) f0 f1 f3 f4 f5
  refine ⟨_, rfl, xb6 (s := { s with heap := h', toks := tk }) (n := "range_iterator") st' rfl rfl (by decide) ⟨.int (lo + i), H, I1, ⟨t, ?_⟩, ⟨rfl, rfl⟩, st', fun b hb => (hf b hb).1⟩⟩
  rw [Int.mul_one]
 done := by
  intro X hP hw hK hc i pins s σ H E I hf st hg
  subst hP hw hK
  obtain ⟨f0, f1, f2, f3, f4, f5⟩ := hf it (by simp)
  exact wpAny_pyNext_range_end (I.ok.hd hc) st (by have : n <= i := hg; omega) fun h' eb => ⟨rfl, I.turned (t' := s.toks) (fun b o hb e => eb b o hb e) f0 f1 f3 f4 f5⟩
 self := fun _ _ _ _ _ st h => wpAny_pyIter_rangeiter st h
end L2
namespace L2
open PySem PySem.Spec PyProof.Rows
section
variable {X : Cx} {tg : Expr}
theorem xb7 {pins : List (Addr × Obj)} {σ : St} {H : Hp} {s : Shared} {R : It -> Hp -> Prop} {E : Value -> Shared -> Prop} {lo hi : Int} {t u v : Tok} {tk : Nat} (I : Inv X pins σ H s) (h1 : -(2 ^ 62) <= lo) (h2 : lo < 2 ^ 62) (h3 : -(2 ^ 62) <= hi) (h4 : hi < 2 ^ 62)
 (q : R (Itr lo (hi - lo).toNat) H) (ht : autoParam (0 < tk) zAt) : wpAny (model X.prog X.w) X.A (pyIter (.ref s.heap.objs.size)) (PIE X pins σ tg R) E { s with heap := s.heap.push { cls := .type "range", data := .fields #[.int lo t, .int hi u, .int 1 v] }, toks := tk } := by
 refine wpAny_pyIter_range (IsRange.new ..) (small_one h1 h2 h3 h4) ?_
 have I1 : Inv X pins σ H { s with heap := s.heap.push { cls := .type "range", data := .fields #[.int lo t, .int hi u, .int 1 v] }, toks := tk } := I.kept fun b o e => Heap.get?_push_of_some _ e
 refine ⟨(s.heap.push { cls := .type "range", data := .fields #[.int lo t, .int hi u, .int 1 v] }).objs.size, [(s.heap.push { cls := .type "range", data := .fields #[.int lo t, .int hi u, .int 1 v] }).objs.size], _, _, H, rfl,
  I1.kept (t' := tk) fun b o e => Heap.get?_push_of_some _ e, xg5 _ lo (hi - lo).toNat, ?_, fun b hb => ?_, q⟩
 ·have e1 : lo + ((0 : Nat) : Int) * 1 = lo := by simp
  have e2 : (((hi - lo).toNat : Nat) : Int) - ((0 : Nat) : Int) = Builtin.Range.rangeSize lo hi 1 := by rw [rangeSize_one]; split <;> omega
  show IsRangeIter _ _ (lo + ((0 : Nat) : Int) * 1) ((((hi - lo).toNat : Nat) : Int) - ((0 : Nat) : Int)) 1
  rw [e1, e2]
  exact Heap.get?_push_size _ rfl
 ·have e : b = (s.heap.push { cls := .type "range", data := .fields #[.int lo t, .int hi u, .int 1 v] }).objs.size := by simpa using hb
  subst e
  exact I1.fpOk (Nat.le_refl _) (I1.hok.fresh (Nat.le_refl _))
def qf2 (ta : TA) : TI := fun σ H R => ta σ H fun vs H1 => ∃ j : Int, vs = [.int j] /\ -(2 ^ 62) <= j /\ j < 2 ^ 62 /\ R (Itr 0 j.toNat) H1
def xl3 (ta : TA) : TI := fun σ H R => ta σ H fun vs H1 => ∃ i j : Int, vs = [.int i, .int j] /\ (-(2 ^ 62) <= i /\ i < 2 ^ 62 /\ -(2 ^ 62) <= j /\ j < 2 ^ 62) /\ R (Itr i (j - i).toNat) H1
theorem Q6 {a : Expr} {ta : TA} {p pos : Pos} (hg : Gl X "range") (hm : X.mg "range" = none) (ha : PA X [a] ta) (hs : autoParam (starEach [a] X.env = [(false, eval a X.env)]) zAr) : PI X tg (.Call (.Name "range" p) [a] [] pos) (qf2 ta) := by
 intro pins s σ H R I h
 refine Call_ (qg5 I hg hm boot_range (PyProof.Rows.callWith_type1 (thn (ha pos pins s σ H _ I h) fun us s1 zq => ?_) hs rfl))
 obtain ⟨vs, H1, I1, r1, q1⟩ := zq
 obtain ⟨j, e, q1, q2, q⟩ := q1
 subst e
 cases r1 with
 | cons r rr =>
   cases rr
   obtain ⟨t, rfl⟩ := r
   exact call_range_1 (xb7 I1 (by omega) (by omega) q1 q2 (by simpa using q))
theorem xp8 {a b : Expr} {ta : TA} {p pos : Pos} (hg : Gl X "range") (hm : X.mg "range" = none) (ha : PA X [a, b] ta) (hs : autoParam (starEach [a, b] X.env = [(false, eval a X.env), (false, eval b X.env)]) zAr) (hs2 : autoParam (starEach [b] X.env = [(false, eval b X.env)]) zAr) :
 PI X tg (.Call (.Name "range" p) [a, b] [] pos) (xl3 ta) := by
 intro pins s σ H R I h
 refine Call_ (qg5 I hg hm boot_range (PyProof.Rows.callWith_type1 (thn (ha pos pins s σ H _ I h) fun us s1 zq => ?_) (by rw [hs, hs2]) (by rw [hs2]; rfl)))
 obtain ⟨vs, H1, I1, r1, q1⟩ := zq
 obtain ⟨i, j, e, ⟨q1, q2, q3, q4⟩, q⟩ := q1
 subst e
 cases r1 with
 | cons r rr =>
   cases rr with
   | cons r' rr =>
     cases rr
     obtain ⟨t, rfl⟩ := r
     obtain ⟨t', rfl⟩ := r'
     exact call_range_2 (xb7 I1 q1 q2 q3 q4 q)
def qn6 (wi : TI) (g : TG) (tb : TS) : TS := fun D σ H => wi σ H fun J H1 => ∃ W : Nat -> Nat -> St -> Hp -> Prop, (∃ m, W 0 m σ H1) /\ ∀ i m σ H, W i m σ H ->
 (J.stop i H /\ D.nx σ H) \/ (J.go i H /\ ∃ N : St -> Hp -> Prop, (∀ σ' H', N σ' H' -> ∃ m', m' < m /\ W (i + 1) m' σ' H') /\ ∀ x H', J.yld i H x H' -> g x σ H' fun σ2 H2 => tb { D with nx := N, ct := N, bk := D.nx } σ2 H2)
noncomputable def wf3 (fp : List Addr) (h : Heap) : List (Addr × Obj) := fp.filterMap fun b => (h.get? b).map fun o => (b, o)
theorem qg7 {fp : List Addr} {h : Heap} {b : Addr} {o : Obj} (hb : b ∈ fp) (e : h.get? b = some o) : (b, o) ∈ wf3 fp h := List.mem_filterMap.mpr ⟨b, hb, by rw [e]; rfl⟩
theorem xp9 {fp : List Addr} {h : Heap} {p : Addr × Obj} (hp : p ∈ wf3 fp h) : p.1 ∈ fp /\ h.get? p.1 = some p.2 := by
 obtain ⟨b, hb, e⟩ := List.mem_filterMap.mp hp
 cases q : h.get? b with
 | none => rw [q] at e; cases e
 | some o =>
   rw [q] at e
   have e' : (b, o) = p := Option.some.inj e
   subst e'
   exact ⟨hb, q⟩
theorem Inv.pinned {pins : List (Addr × Obj)} {σ : St} {H : Hp} {s : Shared} {fp : List Addr} (I : Inv X pins σ H s) (hf : ∀ b ∈ fp, wn5 X pins H b) (ho : ∀ b ∈ fp, ∃ o, s.heap.get? b = some o /\ ∀ v, o.data ≠ .cell v) : Inv X (pins ++ wf3 fp s.heap) σ H s :=
 I.pins_of fun p hp => (List.mem_append.mp hp).elim (fun z => I.pin p (List.mem_append_right _ z)) fun z => by
  obtain ⟨hb, e⟩ := xp9 z
  obtain ⟨f0, f1, f2, _⟩ := hf p.1 hb
  obtain ⟨o, e', d⟩ := ho p.1 hb
  rw [e] at e'; cases e'
  exact ⟨e, f0, f1, f2, d⟩
theorem Inv.unpinned {pins pl : List (Addr × Obj)} {σ : St} {H : Hp} {s : Shared} (I : Inv X (pins ++ pl) σ H s) : Inv X pins σ H s := I.pins_of fun p hp => I.pin p (List.mem_append_right _ (List.mem_append_left _ hp))
theorem T1 {iter : Expr} {body : List Stmt} {wi : TI} {g : TG} {tb : TS} {pos : Pos} (hp : PassesOwn (model X.prog X.w) X.A X.env X.xe) (hc : X.calm = true) (hi : PI X tg iter wi) (hg : PG X tg g) (hb : PSs X body tb)
 (hs : autoParam (∀ x, foldedSetIterable iter X.env x = pure x) zAi) : PS X (.For tg iter body [] pos) (qn6 wi g tb) := by
 intro pins s σ H D I h
 refine wpAny_For (thn (hi pins s σ H _ I h) fun v s1 h1 => thn h1 fun itv s2 h2 => ?_) hs
 obtain ⟨it, fp, tn, J, H2, e, I2, T, st2, f2, W, ⟨m0, w0⟩, turn⟩ := h2
 subst e
 have stat : ∀ {H' : Hp}, (∀ b ∈ fp, H' b = none) -> ∀ b ∈ fp, wn5 X pins H' b := fun hn b hb => ⟨hn b hb, (f2 b hb).2⟩
 refine codeAny_forLoop_any (fun n s' => ∃ i σ' H', Inv X pins σ' H' s' /\ tn i s'.heap /\ (∀ b ∈ fp, H' b = none) /\ W i n σ' H') ?_ m0 ⟨0, σ, H2, I2, st2, fun b hb => (f2 b hb).1, w0⟩
 rintro n s3 ⟨i, σ3, H3, I3, st3, fr3, w3⟩
 rcases turn i n σ3 H3 w3 with ⟨stop, qn⟩ | ⟨go, N, hN, step⟩
 ·refine wpAny_passesOwn hp (thn (T.done X rfl rfl rfl hc i pins s3 σ3 H3 X.xe I3 (stat fr3) st3 stop) fun r s4 zq => ?_)
  obtain ⟨hr, I4⟩ := zq
  subst hr
  exact wpAny_execs_nil ⟨σ3, H3, I4, qn⟩
 ·refine wpAny_passesOwn hp (thn (T.item X rfl rfl rfl hc i pins s3 σ3 H3 X.xe I3 (stat fr3) st3 go) fun r s4 zq => ?_)
  obtain ⟨u, hr, h4⟩ := zq
  subst hr
  refine wpAny_passesOwn hp (thn h4 fun _ s5 zq => ?_)
  obtain ⟨x, H5, I5, r5, y5, st5, fr5⟩ := zq
  have I5' := I5.pinned (stat fr5) (T.obj _ _ st5)
  refine wpAny_passesOwn hp (thn (hg _ s5 σ3 H5 x u _ I5' r5 (step x H5 y5)) fun _ s6 zq => ?_)
  obtain ⟨σ6, H6, I6, q6⟩ := zq
  refine wpAny_passesOwn hp (thn (hb _ s6 σ6 H6 _ I6 q6) fun f s7 q7 => ?_)
  have again : ∀ {σ7 : St} {H7 : Hp}, Inv X (pins ++ wf3 fp s5.heap) σ7 H7 s7 -> N σ7 H7 -> ∃ m, m < n /\ ∃ i σ' H', Inv X pins σ' H' s7 /\ tn i s7.heap /\ (∀ b ∈ fp, H' b = none) /\ W i m σ' H' := fun {σ7 H7} I7 n7 => by
   obtain ⟨m', hm, w7⟩ := hN σ7 H7 n7
   refine ⟨m', hm, i + 1, σ7, H7, I7.unpinned, T.keep _ _ _ st5 fun b hb o e => (I7.pin (b, o) (List.mem_append_right _ (List.mem_append_right _ (qg7 hb e)))).1, fun b hb => ?_, w7⟩
   obtain ⟨o, e, d⟩ := T.obj _ _ st5 b hb
   exact (I7.pin (b, o) (List.mem_append_right _ (List.mem_append_right _ (qg7 hb e)))).2.1
  cases f with
  | next => obtain ⟨σ7, H7, I7, n7⟩ := q7; exact again I7 n7
  | cont => obtain ⟨σ7, H7, I7, n7⟩ := q7; exact again I7 n7
  | brk => obtain ⟨σ7, H7, I7, q7⟩ := q7; exact ⟨σ7, H7, I7.unpinned, q7⟩
  | ret v => obtain ⟨x7, σ7, H7, I7, r7, q7⟩ := q7; exact ⟨x7, σ7, H7, I7.unpinned, r7, q7⟩
end
abbrev PAt {α : Type} (P : Nat -> α -> Hp -> Prop) (i : Nat) : α -> Hp -> Prop := P i
theorem qk6 {K : Fg} {a : Addr} {xs : List V} {g : TG} {tb : TS} {D : P4} {σ : St} {H : Hp} (Pv : Nat -> St -> Hp -> Prop) (h0 : Pv 0 σ H) (hl : ∀ i σ H, i <= xs.length -> Pv i σ H -> SqL K H a xs)
 (hs : ∀ i x σ H, xs[i]? = some x -> Pv i σ H -> g x σ H fun σ2 H2 => tb { D with nx := PAt Pv (i + 1), ct := PAt Pv (i + 1), bk := D.nx } σ2 H2) (hd : ∀ σ H, Pv xs.length σ H -> D.nx σ H) :
 ∃ W : Nat -> Nat -> St -> Hp -> Prop, (∃ m, W 0 m σ H) /\ ∀ i m σ H, W i m σ H ->
  ((Itl K a).stop i H /\ D.nx σ H) \/ ((Itl K a).go i H /\ ∃ N : St -> Hp -> Prop, (∀ σ' H', N σ' H' -> ∃ m', m' < m /\ W (i + 1) m' σ' H') /\ ∀ x H', (Itl K a).yld i H x H' -> g x σ H' fun σ2 H2 => tb { D with nx := N, ct := N, bk := D.nx } σ2 H2) := by
 refine ⟨fun i m σ H => m = xs.length - i /\ i <= xs.length /\ Pv i σ H, ⟨xs.length, by simp, Nat.zero_le _, h0⟩, ?_⟩
 rintro i m σ H ⟨rfl, hi, p⟩
 have q := hl i σ H hi p
 by_cases hlt : i < xs.length
 ·refine .inr ⟨⟨xs, xs[i], q, by simp [hlt]⟩, Pv (i + 1), fun σ' H' p' => ⟨xs.length - (i + 1), by omega, rfl, hlt, p'⟩, fun x H' y => ?_⟩
  obtain ⟨e, y⟩ := y
  subst e
  exact hs i x σ _ (y xs q) p
 ·have e : i = xs.length := by omega
  subst e
  exact .inl ⟨⟨xs, q, Nat.le_refl _⟩, hd σ H p⟩
theorem wv4 {K : Fg} {a : Addr} {xs : List V} {g : TG} {tb : TS} {D : P4} {σ : St} {H : Hp} (Pv : Nat -> St -> Hp -> Prop) (h0 : Pv 0 σ H) (hl : ∀ i σ H, i <= xs.length -> Pv i σ H -> SqT K H a xs)
 (hs : ∀ i x σ H, xs[i]? = some x -> Pv i σ H -> g x σ H fun σ2 H2 => tb { D with nx := PAt Pv (i + 1), ct := PAt Pv (i + 1), bk := D.nx } σ2 H2) (hd : ∀ σ H, Pv xs.length σ H -> D.nx σ H) :
 ∃ W : Nat -> Nat -> St -> Hp -> Prop, (∃ m, W 0 m σ H) /\ ∀ i m σ H, W i m σ H ->
  ((Itt K a).stop i H /\ D.nx σ H) \/ ((Itt K a).go i H /\ ∃ N : St -> Hp -> Prop, (∀ σ' H', N σ' H' -> ∃ m', m' < m /\ W (i + 1) m' σ' H') /\ ∀ x H', (Itt K a).yld i H x H' -> g x σ H' fun σ2 H2 => tb { D with nx := N, ct := N, bk := D.nx } σ2 H2) := by
 refine ⟨fun i m σ H => m = xs.length - i /\ i <= xs.length /\ Pv i σ H, ⟨xs.length, by simp, Nat.zero_le _, h0⟩, ?_⟩
 rintro i m σ H ⟨rfl, hi, p⟩
 have q := hl i σ H hi p
 by_cases hlt : i < xs.length
 ·refine .inr ⟨⟨xs, xs[i], q, by simp [hlt]⟩, Pv (i + 1), fun σ' H' p' => ⟨xs.length - (i + 1), by omega, rfl, hlt, p'⟩, fun x H' y => ?_⟩
  obtain ⟨e, y⟩ := y
  subst e
  exact hs i x σ _ (y xs q) p
 ·have e : i = xs.length := by omega
  subst e
  exact .inl ⟨⟨xs, q, Nat.le_refl _⟩, hd σ H p⟩
theorem xq0 {lo : Int} {n : Nat} {g : TG} {tb : TS} {D : P4} {σ : St} {H : Hp} (Pv : Nat -> St -> Hp -> Prop) (h0 : Pv 0 σ H)
 (hs : ∀ i σ H, i < n -> Pv i σ H -> g (.int (lo + i)) σ H fun σ2 H2 => tb { D with nx := PAt Pv (i + 1), ct := PAt Pv (i + 1), bk := D.nx } σ2 H2) (hd : ∀ σ H, Pv n σ H -> D.nx σ H) :
 ∃ W : Nat -> Nat -> St -> Hp -> Prop, (∃ m, W 0 m σ H) /\ ∀ i m σ H, W i m σ H ->
  ((Itr lo n).stop i H /\ D.nx σ H) \/ ((Itr lo n).go i H /\ ∃ N : St -> Hp -> Prop, (∀ σ' H', N σ' H' -> ∃ m', m' < m /\ W (i + 1) m' σ' H') /\ ∀ x H', (Itr lo n).yld i H x H' -> g x σ H' fun σ2 H2 => tb { D with nx := N, ct := N, bk := D.nx } σ2 H2) := by
 refine ⟨fun i m σ H => m = n - i /\ i <= n /\ Pv i σ H, ⟨n, by simp, Nat.zero_le _, h0⟩, ?_⟩
 rintro i m σ H ⟨rfl, hi, p⟩
 by_cases hlt : i < n
 ·refine .inr ⟨hlt, Pv (i + 1), fun σ' H' p' => ⟨n - (i + 1), by omega, rfl, hlt, p'⟩, fun x H' y => ?_⟩
  obtain ⟨e, y⟩ := y
  subst e y
  exact hs i σ _ hlt p
 ·have e : i = n := by omega
  subst e
  exact .inl ⟨Nat.le_refl _, hd σ H p⟩
end L2
namespace L2
open PySem PySem.Spec PyProof.Rows
noncomputable abbrev R2 := V -> V -> Hp -> VK -> Prop
def OpR (X : Cx) (f : Value -> Value -> Sem Value) (r : R2) : Prop :=
 ∀ (pins : List (Addr × Obj)) (s : Shared) (σ : St) (H : Hp) (x y : V) (v u : Value) (Q : VK), Inv X pins σ H s -> G8 x v -> G8 y u -> r x y H Q ->
  wpAny (model X.prog X.w) X.A (f v u) (EP X pins σ Q) X.xe s
def UnR (X : Cx) (f : Value -> Sem Value) (r : V -> Hp -> VK -> Prop) : Prop :=
 ∀ (pins : List (Addr × Obj)) (s : Shared) (σ : St) (H : Hp) (x : V) (v : Value) (Q : VK), Inv X pins σ H s -> G8 x v -> r x H Q ->
  wpAny (model X.prog X.w) X.A (f v) (EP X pins σ Q) X.xe s
def Q9 (X : Cx) (f : Value) (r : List V -> Hp -> VK -> Prop) : Prop :=
 ∀ (pins : List (Addr × Obj)) (s : Shared) (σ : St) (H : Hp) (xs : List V) (us : List Value) (Q : VK), Inv X pins σ H s -> G4 xs us -> r xs H Q ->
  wpAny (model X.prog X.w) X.A (call f us) (EP X pins σ Q) X.xe s
def tOp (r : R2) (ta tb : TE) : TE := fun σ H Q => ta σ H fun x H1 => tb σ H1 fun y H2 => r x y H2 Q
def tUn (r : V -> Hp -> VK -> Prop) (ta : TE) : TE := fun σ H Q => ta σ H fun x H1 => r x H1 Q
def rI (C : Int -> Int -> Prop) (g : Int -> Int -> V) : R2 := fun x y H Q => ∃ i j, x = .int i /\ y = .int j /\ C i j /\ Q (g i j) H
def rI0 (g : Int -> Int -> V) : R2 := fun x y H Q => ∃ i j, x = .int i /\ y = .int j /\ Q (g i j) H
def rU (g : Int -> V) : V -> Hp -> VK -> Prop := fun x H Q => ∃ i, x = .int i /\ Q (g i) H
section
variable {X : Cx} {a b c : Expr} {ta tb tc : TE} {pos : Pos}
theorem yn4 (ha : PE X a ta) (hb : PE X b tb) {pins : List (Addr × Obj)} {s : Shared} {σ : St} {H : Hp} {R : V -> V -> Hp -> Prop} (I : Inv X pins σ H s)
 (h : ta σ H fun x H1 => tb σ H1 fun y H2 => R x y H2) {Q : Value -> Shared -> Prop} {f : Value -> Value -> Sem Value}
 (hf : ∀ v u s2 x y H2, Inv X pins σ H2 s2 -> G8 x v -> G8 y u -> R x y H2 -> wpAny (model X.prog X.w) X.A (f v u) Q X.xe s2) :
 wpAny (model X.prog X.w) X.A (eval a X.env) (fun v s₁ => wpAny (model X.prog X.w) X.A (eval b X.env) (fun u s₂ => wpAny (model X.prog X.w) X.A (f v u) Q X.xe s₂) X.xe s₁) X.xe s := by
 refine thn (ha pins s σ H _ I h) fun v s1 zq => ?_
 obtain ⟨x, H1, I1, r1, q1⟩ := zq
 refine thn (hb pins s1 σ H1 _ I1 q1) fun u s2 zq => ?_
 obtain ⟨y, H2, I2, r2, q2⟩ := zq
 exact hf v u s2 x y H2 I2 r1 r2 q2
theorem C5 {op : Operator} {r : R2} (ho : OpR X (binaryOp op) r) (ha : PE X a ta) (hb : PE X b tb) : PE X (.BinOp a op b pos) (tOp r ta tb) := by
 intro pins s σ H Q I h
 exact wpAny_BinOp (yn4 ha hb I h fun v u s2 x y H2 I2 rx ry q => ho pins s2 σ H2 x y v u Q I2 rx ry q)
theorem xl4 {op : UnaryOp} {r : V -> Hp -> VK -> Prop} (ho : UnR X (unaryOp op) r) (ha : PE X a ta) : PE X (.UnaryOp op a pos) (tUn r ta) := by
 intro pins s σ H Q I h
 exact UnaryOp_ (thn (ha pins s σ H _ I h) fun v s1 ⟨x, H1, I1, r1, q1⟩ => ho pins s1 σ H1 x v Q I1 r1 q1)
theorem opI {f : Value -> Value -> Sem Value} {C : Int -> Int -> Prop} {g : Int -> Int -> Int}
 (rule : ∀ (i j : Int) (t u : Tok) (s : Shared) (Q : Value -> Shared -> Prop) (E : Value -> Shared -> Prop), C i j -> Q (.int (g i j) s.toks) { s with toks := s.toks + 1 } -> wpAny (model X.prog X.w) X.A (f (.int i t) (.int j u)) Q E s) :
 OpR X f (rI C fun i j => .int (g i j)) := by
 intro pins s σ H x y v u Q I rx ry h
 obtain ⟨i, j, rfl, rfl, hc, q⟩ := h
 obtain ⟨t, rfl⟩ := rx
 obtain ⟨t', rfl⟩ := ry
 exact rule i j t t' s _ _ hc ⟨.int (g i j), H, I.tok _, ⟨_, rfl⟩, q⟩
theorem za4 {f : Value -> Value -> Sem Value} {g : Int -> Int -> Int}
 (rule : ∀ (i j : Int) (t u : Tok) (s : Shared) (Q : Value -> Shared -> Prop) (E : Value -> Shared -> Prop), Q (.int (g i j) s.toks) { s with toks := s.toks + 1 } -> wpAny (model X.prog X.w) X.A (f (.int i t) (.int j u)) Q E s) :
 OpR X f (rI0 fun i j => .int (g i j)) := by
 intro pins s σ H x y v u Q I rx ry h
 obtain ⟨i, j, rfl, rfl, q⟩ := h
 obtain ⟨t, rfl⟩ := rx
 obtain ⟨t', rfl⟩ := ry
 exact rule i j t t' s _ _ ⟨.int (g i j), H, I.tok _, ⟨_, rfl⟩, q⟩
theorem yd9 {f : Value -> Value -> Sem Value} {g : Int -> Int -> Bool}
 (rule : ∀ (i j : Int) (t u : Tok) (s : Shared) (Q : Value -> Shared -> Prop) (E : Value -> Shared -> Prop), Q (.bool (g i j)) s -> wpAny (model X.prog X.w) X.A (f (.int i t) (.int j u)) Q E s) :
 OpR X f (rI0 fun i j => .bl (g i j)) := by
 intro pins s σ H x y v u Q I rx ry h
 obtain ⟨i, j, rfl, rfl, q⟩ := h
 obtain ⟨t, rfl⟩ := rx
 obtain ⟨t', rfl⟩ := ry
 exact rule i j t t' s _ _ ⟨.bl (g i j), H, I, rfl, q⟩
def qg8 (i j : Int) : Prop := 0 < j /\ j < 1073741824
def xv0 (i j : Int) : Prop := 0 <= j /\ j <= 1000000 /\ i.natAbs < 2 ^ 64
def xv1 (i j : Int) : Prop := (-(2 ^ 64) < i /\ i < 2 ^ 64) \/ (-(2 ^ 64) < j /\ j < 2 ^ 64)
theorem xv1.ok {i j : Int} (h : xv1 i j) : IntMulOk i j := by
 rcases h with ⟨h1, h2⟩ | ⟨h1, h2⟩
 ·exact .of_left (intBits_le_64 h1 h2)
 ·exact .of_right (intBits_le_64 h1 h2)
theorem yn5 : OpR X (binaryOp .Add) (rI0 fun i j => .int (i + j)) := za4 fun _ _ _ _ _ _ _ q => add_int q
theorem yn6 : OpR X (binaryOp .Mult) (rI xv1 fun i j => .int (i * j)) := opI fun _ _ _ _ _ _ _ hc q => mul_int q hc.ok
theorem O6 : OpR X (binaryOp .FloorDiv) (rI qg8 fun i j => .int (i / j)) := opI fun i j _ _ _ _ _ hc q => by
 have h1 : (0 : Int) < j := hc.1
 have h2 : j < 1073741824 := hc.2
 exact floordiv_int (by omega) (by rw [Int.fdiv_eq_ediv_of_nonneg i (by omega)]; exact q) (.inl (PyProof.noPylong_small (by omega)))
theorem M6 : OpR X (binaryOp .Mod) (rI (fun _ j => 0 < j) fun i j => .int (i % j)) := opI fun i j _ _ _ _ _ hc q => by
 have h1 : (0 : Int) < j := hc
 exact mod_int' (by omega) (by rw [Int.fmod_eq_emod_of_nonneg i (by omega)]; exact q)
theorem xv2 : OpR X (binaryOp .Pow) (rI xv0 fun i j => .int (i ^ j.toNat)) := opI fun _ _ _ _ _ _ _ hc q => pow_int_small hc.1 hc.2.1 hc.2.2 q
theorem unI {f : Value -> Sem Value} {g : Int -> Int}
 (rule : ∀ (i : Int) (t : Tok) (s : Shared) (Q : Value -> Shared -> Prop) (E : Value -> Shared -> Prop), Q (.int (g i) s.toks) { s with toks := s.toks + 1 } -> wpAny (model X.prog X.w) X.A (f (.int i t)) Q E s) :
 UnR X f (rU fun i => .int (g i)) := by
 intro pins s σ H x v Q I rx h
 obtain ⟨i, rfl, q⟩ := h
 obtain ⟨t, rfl⟩ := rx
 exact rule i t s _ _ ⟨.int (g i), H, I.tok _, ⟨_, rfl⟩, q⟩
theorem wv5 : UnR X (unaryOp .USub) (rU fun i => .int (-i)) := unI fun _ _ _ _ _ q => neg_int q
end
noncomputable def ye0 : V -> V -> Bool
 | .non, .non => true | .non, .int _ => true | .int _, .non => true | .non, .bl _ => true | .bl _, .non => true | .non, .str _ => true | .str _, .non => true
 | .int _, .int _ => true | .bl _, .bl _ => true | .str _, .str _ => true | .byt _, .byt _ => true
 | .int _, .str _ => true | .str _, .int _ => true | .bl _, .str _ => true | .str _, .bl _ => true
 | _, _ => false
def rEq : R2 := fun x y H Q => ye0 x y = true /\ Q (.bl (decide (x = y))) H
def rNe : R2 := fun x y H Q => ye0 x y = true /\ Q (.bl (!decide (x = y))) H
theorem xl5 {i j : Int} : decide (V.int i = V.int j) = (i == j) := by
 rw [Bool.eq_iff_iff]
 simp
theorem xv3 {i j : Bool} : decide (V.bl i = V.bl j) = (i == j) := by
 rw [Bool.eq_iff_iff]
 simp
theorem xl6 {i j : Str} : decide (V.str i = V.str j) = (i == j) := by
 rw [Bool.eq_iff_iff]
 simp
theorem xl7 {i j : Array UInt8} : decide (V.byt i = V.byt j) = (i.toList == j.toList) := by
 rw [Bool.eq_iff_iff]
 cases i
 cases j
 simp
section
variable {X : Cx} {a b c : Expr} {ta tb tc : TE} {pos : Pos}
theorem J9 {pins : List (Addr × Obj)} {σ : St} {H : Hp} {s : Shared} {Q : VK} {k k' : Bool} (I : Inv X pins σ H s) (q : Q (.bl k) H) (e : k = k') : EP X pins σ Q (.bool k') s := by
 subst e
 exact ⟨.bl k, H, I, rfl, q⟩
theorem yv0 : OpR X (compareOp .Eq) rEq := by
 intro pins s σ H x y v u Q I rx ry h
 obtain ⟨hs, q⟩ := h
 cases x with
 | non =>
   cases rx
   cases y with
   | non => cases ry; exact PySem.EqNone.eq_none_none (J9 I q (by simp))
   | bl j => cases ry; exact PySem.EqNone.eq_none_bool (J9 I q (by simp))
   | int j => obtain ⟨t', rfl⟩ := ry; exact PySem.EqNone.eq_none_int (J9 I q (by simp))
   | str j => obtain ⟨t', rfl⟩ := ry; exact PySem.EqNone.eq_none_str (J9 I q (by simp))
   | _ => exact absurd (show false = true from hs) Bool.false_ne_true
 | bl i =>
   cases rx
   cases y with
   | non => cases ry; exact PySem.EqNone.eq_bool_none (J9 I q (by simp))
   | bl j => cases ry; exact eq_bool (J9 I q xv3)
   | str j => obtain ⟨t', rfl⟩ := ry; exact PySem.EqMixed.eq_bool_str (J9 I q (by simp))
   | _ => exact absurd (show false = true from hs) Bool.false_ne_true
 | int i =>
   obtain ⟨t, rfl⟩ := rx
   cases y with
   | non => cases ry; exact PySem.EqNone.eq_int_none (J9 I q (by simp))
   | int j => obtain ⟨t', rfl⟩ := ry; exact eq_int (J9 I q xl5)
   | str j => obtain ⟨t', rfl⟩ := ry; exact PySem.EqMixed.eq_int_str (J9 I q (by simp))
   | _ => exact absurd (show false = true from hs) Bool.false_ne_true
 | str i =>
   obtain ⟨t, rfl⟩ := rx
   cases y with
   | non => cases ry; exact PySem.EqNone.eq_str_none (J9 I q (by simp))
   | bl j => cases ry; exact PySem.EqMixed.eq_str_bool (J9 I q (by simp))
   | int j => obtain ⟨t', rfl⟩ := ry; exact PySem.EqMixed.eq_str_int (J9 I q (by simp))
   | str j => obtain ⟨t', rfl⟩ := ry; exact eq_str (J9 I q xl6)
   | _ => exact absurd (show false = true from hs) Bool.false_ne_true
 | byt i =>
   obtain ⟨t, rfl⟩ := rx
   cases y with
   | byt j => obtain ⟨t', rfl⟩ := ry; exact PySem.W.eq_bytes (J9 I q xl7)
   | _ => exact absurd (show false = true from hs) Bool.false_ne_true
 | _ => cases y <;> exact absurd (show false = true from hs) Bool.false_ne_true
theorem yv1 : OpR X (compareOp .NotEq) rNe := by
 intro pins s σ H x y v u Q I rx ry h
 obtain ⟨hs, q⟩ := h
 cases x with
 | non =>
   cases rx
   cases y with
   | non => cases ry; exact PySem.EqNone.ne_none_none (J9 I q (by simp))
   | bl j => cases ry; exact PySem.EqNone.ne_none_bool (J9 I q (by simp))
   | int j => obtain ⟨t', rfl⟩ := ry; exact PySem.EqNone.ne_none_int (J9 I q (by simp))
   | str j => obtain ⟨t', rfl⟩ := ry; exact PySem.EqNone.ne_none_str (J9 I q (by simp))
   | _ => exact absurd (show false = true from hs) Bool.false_ne_true
 | bl i =>
   cases rx
   cases y with
   | non => cases ry; exact PySem.EqNone.ne_bool_none (J9 I q (by simp))
   | bl j => cases ry; exact ne_bool (J9 I q (congrArg not xv3))
   | str j => obtain ⟨t', rfl⟩ := ry; exact PySem.EqMixed.ne_bool_str (J9 I q (by simp))
   | _ => exact absurd (show false = true from hs) Bool.false_ne_true
 | int i =>
   obtain ⟨t, rfl⟩ := rx
   cases y with
   | non => cases ry; exact PySem.EqNone.ne_int_none (J9 I q (by simp))
   | int j => obtain ⟨t', rfl⟩ := ry; exact ne_int (J9 I q (congrArg not xl5))
   | str j => obtain ⟨t', rfl⟩ := ry; exact PySem.EqMixed.ne_int_str (J9 I q (by simp))
   | _ => exact absurd (show false = true from hs) Bool.false_ne_true
 | str i =>
   obtain ⟨t, rfl⟩ := rx
   cases y with
   | non => cases ry; exact PySem.EqNone.ne_str_none (J9 I q (by simp))
   | bl j => cases ry; exact PySem.EqMixed.ne_str_bool (J9 I q (by simp))
   | int j => obtain ⟨t', rfl⟩ := ry; exact PySem.EqMixed.ne_str_int (J9 I q (by simp))
   | str j => obtain ⟨t', rfl⟩ := ry; exact ne_str (J9 I q (congrArg not xl6))
   | _ => exact absurd (show false = true from hs) Bool.false_ne_true
 | byt i =>
   obtain ⟨t, rfl⟩ := rx
   cases y with
   | byt j => obtain ⟨t', rfl⟩ := ry; exact PySem.W.ne_bytes (J9 I q (congrArg not xl7))
   | _ => exact absurd (show false = true from hs) Bool.false_ne_true
 | _ => cases y <;> exact absurd (show false = true from hs) Bool.false_ne_true
theorem yv2 : OpR X (compareOp .Lt) (rI0 fun i j => .bl (decide (i < j))) := yd9 fun _ _ _ _ _ _ _ q => lt_int q
theorem yv3 : OpR X (compareOp .LtE) (rI0 fun i j => .bl (decide (i <= j))) := yd9 fun _ _ _ _ _ _ _ q => le_int q
theorem yv4 : OpR X (compareOp .Gt) (rI0 fun i j => .bl (decide (j < i))) := yd9 fun _ _ _ _ _ _ _ q => gt_int q
theorem yv5 : OpR X (compareOp .GtE) (rI0 fun i j => .bl (decide (j <= i))) := yd9 fun _ _ _ _ _ _ _ q => ge_int q
theorem xq1 : OpR X (compareOp .Lt) (fun x y H Q => ∃ i j, x = .str i /\ y = .str j /\ Q (.bl (decide (i.cps.toList < j.cps.toList))) H) := by
 intro pins s σ H x y v u Q I rx ry h
 obtain ⟨i, j, rfl, rfl, q⟩ := h
 obtain ⟨t, rfl⟩ := rx
 obtain ⟨t', rfl⟩ := ry
 exact lt_str (J9 I q rfl)
theorem xq2 : OpR X (compareOp .In) (fun x y H Q => ∃ i j, x = .str i /\ y = .str j /\ Q (.bl (!(Builtin.Str.occurrences j i 0 j.length 1).isEmpty)) H) := by
 intro pins s σ H x y v u Q I rx ry h
 obtain ⟨i, j, rfl, rfl, q⟩ := h
 obtain ⟨t, rfl⟩ := rx
 obtain ⟨t', rfl⟩ := ry
 exact in_str (J9 I q rfl)
theorem yn7 : OpR X (compareOp .Is) (fun x y H Q => y = .non /\ Q (.bl (decide (x = .non))) H) := by
 intro pins s σ H x y v u Q I rx ry h
 obtain ⟨rfl, q⟩ := h
 cases ry
 refine is_none_gen (J9 I q ?_)
 cases x <;> first
  | (cases rx; rfl)
  | (obtain ⟨t, rfl⟩ := rx; rfl)
theorem ye1 : OpR X (compareOp .IsNot) (fun x y H Q => y = .non /\ Q (.bl (!decide (x = .non))) H) := by
 intro pins s σ H x y v u Q I rx ry h
 obtain ⟨rfl, q⟩ := h
 cases ry
 refine isnot_none_gen (J9 I q ?_)
 cases x <;> first
  | (cases rx; rfl)
  | (obtain ⟨t, rfl⟩ := rx; rfl)
theorem OpR.or {f : Value -> Value -> Sem Value} {r r' : R2} (h : OpR X f r) (h' : OpR X f r') : OpR X f (fun x y H Q => r x y H Q \/ r' x y H Q) := by
 intro pins s σ H x y v u Q I rx ry q
 rcases q with q | q
 ·exact h pins s σ H x y v u Q I rx ry q
 ·exact h' pins s σ H x y v u Q I rx ry q
theorem D6 (b : Expr) {op : CmpOp} (h : autoParam (op ≠ .In) zAd) (h2 : autoParam (op ≠ .NotIn) zAd) : behindInMarks op b = false := by
 have e1 : (op == CmpOp.In) = false := by cases op <;> first | rfl | exact absurd rfl h
 have e2 : (op == CmpOp.NotIn) = false := by cases op <;> first | rfl | exact absurd rfl h2
 cases b <;> simp [behindInMarks, e1, e2]
theorem Y3 {op : CmpOp} {r : R2} (ho : OpR X (compareOp op) r) (ha : PE X a ta) (hb : PE X b tb) (hm : behindInMarks op b = false) : PE X (.Compare a [op] [b] pos) (tOp r ta tb) := by
 intro pins s σ H Q I h
 exact wpAny_Compare1 (yn4 ha hb I h fun v u s2 x y H2 I2 rx ry q => ho pins s2 σ H2 x y v u Q I2 rx ry q) hm
def E4 (t : TE) : TT := fun σ H Q => t σ H fun x H' => ∃ k, x = .bl k /\ Q k H'
theorem C4 {op : CmpOp} {r : R2} (ho : OpR X (compareOp op) r) (ha : PE X a ta) (hb : PE X b tb) (hm : behindInMarks op b = false) : PT X (.Compare a [op] [b] pos) (E4 (tOp r ta tb)) := by
 intro pins s σ H Q I h
 refine wpAny_isTrue_Compare1 (thn (ha pins s σ H _ I h) fun v s1 ⟨x, H1, I1, r1, q1⟩ => thn (hb pins s1 σ H1 _ I1 q1) fun u s2 ⟨y, H2, I2, r2, q2⟩ =>
  thn (ho pins s2 σ H2 x y v u _ I2 r1 r2 q2) fun c s3 ⟨z, H3, I3, r3, k, e, q3⟩ => ?_) hm
 subst e
 cases r3
 exact wpAny_truthy_bool ⟨H3, I3, q3⟩
def wv6 (r r' : R2) (ta tb tc : TE) : TE := fun σ H Q => ta σ H fun x H1 => tb σ H1 fun y H2 => r x y H2 fun z H3 => ∃ k, z = .bl k /\
 (if k = true then tc σ H3 fun w' H4 => r' y w' H4 Q else Q (.bl false) H3)
theorem xb8 {op op' : CmpOp} {r r' : R2} (ho : OpR X (compareOp op) r) (ho' : OpR X (compareOp op') r') (ha : PE X a ta) (hb : PE X b tb) (hc : PE X c tc)
 (hm : lastMarks [op, op'] [b, c] = false := by with_unfolding_all rfl) : PE X (.Compare a [op, op'] [b, c] pos) (wv6 r r' ta tb tc) := by
 intro pins s σ H Q I h
 refine Compare_chain (thn (ha pins s σ H _ I h) fun v s1 ⟨x, H1, I1, r1, q1⟩ => chain_link (thn (hb pins s1 σ H1 _ I1 q1) fun u s2 ⟨y, H2, I2, r2, q2⟩ =>
  thn (ho pins s2 σ H2 x y v u _ I2 r1 r2 q2) fun d s3 ⟨z, H3, I3, r3, k, e, q3⟩ => ?_)) hm
 subst e
 cases r3
 refine wpAny_truthy_bool ?_
 cases k with
 | false => exact ite_ff ⟨.bl false, H3, I3, rfl, q3⟩
 | true => exact ite_tt (chain_last (thn (hc pins s3 σ H3 _ I3 q3) fun w' s4 ⟨z', H4, I4, r4, q4⟩ => ho' pins s4 σ H4 y z' u w' Q I4 r2 r4 q4))
theorem qx6 : (sizeLine : Nat) < 2 ^ 63 := by rw [sizeLine_eq]; decide
theorem xg6 : OpR X (binaryOp .Add) (fun x y H Q => ∃ i j, x = .str i /\ y = .str j /\ i.length + j.length <= sizeLine /\ Q (.str (i ++ j)) H) := by
 intro pins s σ H x y v u Q I rx ry h
 obtain ⟨i, j, rfl, rfl, hz, q⟩ := h
 obtain ⟨t, rfl⟩ := rx
 obtain ⟨t', rfl⟩ := ry
 exact wpAny_with_toks (n := 1) I.tk (add_str (fun t' tk ht => ⟨.str (i ++ j), H, I.tok _ ht, ⟨_, rfl⟩, q⟩) hz)
theorem qf3 {x : V} {us : List Value} (r : G4 [x] us) : ∃ u, us = [u] /\ G8 x u := by
 cases r with
 | cons r1 r2 => cases r2; exact ⟨_, rfl, r1⟩
theorem xb9 {x y : V} {us : List Value} (r : G4 [x, y] us) : ∃ u w', us = [u, w'] /\ G8 x u /\ G8 y w' := by
 cases r with
 | cons r1 r2 =>
   cases r2 with
   | cons r3 r4 => cases r4; exact ⟨_, _, rfl, r1, r3⟩
theorem xq3 : Q9 X (.type "int") (fun xs H Q => (∃ i, xs = [.int i] /\ Q (.int i) H) \/ ∃ k, xs = [.bl k] /\ Q (.int (if k then 1 else 0)) H) := by
 intro pins s σ H xs us Q I r h
 rcases h with ⟨i, rfl, q⟩ | ⟨k, rfl, q⟩
 ·obtain ⟨u, rfl, t, rfl⟩ := qf3 r
  exact call_int_int ⟨.int i, H, I, ⟨_, rfl⟩, q⟩
 ·obtain ⟨u, rfl, r1⟩ := qf3 r
  cases r1
  exact call_int_bool ⟨.int (if k then 1 else 0), H, I.tok _, ⟨_, rfl⟩, q⟩
end
end L2
namespace L2
open PySem PySem.Spec PyProof.Rows
structure yn8 (h : Heap) (x dx C : Addr) (mA : Str -> Option Value) : Prop where
 obj : h.get? x = some (PySem.W.instObj C dx)
 ns : h.Ns1 dx mA
 ne : dx ≠ x
theorem xq4 {h : Heap} {dx : Addr} {mA : Str -> Option Value} (n : h.Ns1 dx mA) : ∃ od, h.get? dx = some od /\ ∀ name, PySem.W.lookIn name od = some (mA name) := by
 obtain ⟨o, es, ep, ho, hd, hk, _, hm⟩ := n
 refine ⟨o, ho, fun name => ?_⟩
 have e := hm name
 unfold nsFind findBy at e
 rw [<- Array.find?_toList] at e
 unfold PySem.W.lookIn
 rw [hd]
 dsimp only
 split
 ·rename_i y q
  rw [q] at e
  exact congrArg some e
 ·rename_i q
  rw [q] at e
  have a : es.toList.any (·.refKey) = false := by
   rw [List.any_eq_false]
   intro y hy
   obtain ⟨z, t, hkey⟩ := hk y (Array.mem_toList_iff.mp hy)
   simp [DictEntry.refKey, hkey]
  have a' : ¬ es.toList.any (·.refKey) = true := by rw [a]; exact Bool.false_ne_true
  rw [if_neg a']
  exact congrArg some e
theorem yn8.look {h : Heap} {x dx C : Addr} {mA : Str -> Option Value} (I : yn8 h x dx C mA) : ∃ od, PySem.W.InstAt h x (PySem.W.instObj C dx) C (some od) /\ ∀ name, PySem.W.lookIn name od = some (mA name) :=
 let ⟨od, ho, hl⟩ := xq4 I.ns
 ⟨od, ⟨I.obj, rfl, rfl, ho⟩, hl⟩
theorem we7.some_of {v : V} {o : Option Value} (r : we7 (some v) o) : ∃ u, o = some u /\ G8 v u := by
 cases o with
 | none => exact (show False from r).elim
 | some u => exact ⟨u, rfl, r⟩
theorem xq5 {v : V} {u : Value} (r : G8 v u) : PySem.W.handedIn u = true := by
 cases v with
 | non => cases (show u = Value.none from r); rfl
 | bl b => cases (show u = Value.bool b from r); rfl
 | int i => obtain ⟨t, e⟩ := (show ∃ t, u = Value.int i t from r); cases e; rfl
 | str x => obtain ⟨t, e⟩ := (show ∃ t, u = Value.str x t from r); cases e; rfl
 | byt b => obtain ⟨t, e⟩ := (show ∃ t, u = Value.bytes b t from r); cases e; rfl
 | flt b => obtain ⟨t, e⟩ := (show ∃ t, u = Value.float b t from r); cases e; rfl
 | ref a => cases (show u = Value.ref a from r); rfl
 | ty n => cases (show u = Value.type n from r); rfl
section
variable {P : Program} {w : World} {H H' : Hp} {h h' : Heap} {a C dx : Addr} {fs fs' : List (Str × V)}
theorem ye2 (hok : HOk P w H h) (e : H a = some (.ins C dx fs)) : ∃ mA, yn8 h a dx C mA /\ (∀ f, we7 (fs.lookup f) (mA f)) /\ PySem.Within mA (fs.map (·.1)) /\ fs.length <= 1000 /\ H dx = some (.own a) := by
 obtain ⟨d, z, ne, ob, mA, n, r, q⟩ := (show M9 P w H h a (.ins C dx fs) from hok a _ e)
 exact ⟨mA, ⟨ob, n, ne⟩, r, q, z, d⟩
end
structure Cls (K : Fg) (C : Addr) : Prop where
 pg : PySem.W.plainGet K C Str.empty = true
 hd : PySem.W.hasDictIn K C = true
 po : PySem.W.plainOver K C = true
 sa : PySem.W.findIn K (.ref C) "__setattr__" = some (some (.builtin "object.__setattr__"))
theorem Cls.get {K : Fg} {C : Addr} (c : Cls K C) (f : Str) : PySem.W.plainGet K C f = true := c.pg
section
variable {X : Cx} {pins : List (Addr × Obj)} {σ : St} {H : Hp} {s : Shared} {a C dx : Addr} {fs : List (Str × V)} {f : Str} {v : V} {A : Around} {E : Value -> Shared -> Prop}
theorem ye3 {prog : Program} {w : World} {env : Env} {e : Expr} {f : Str} {pos : Pos} {s : Shared} {Q : Value -> Shared -> Prop} (hb : attributeBase e f env (eval e env) = eval e env)
 (h : wpAny (model prog w) A (eval e env) (fun o s₁ => wpAny (model prog w) A (getAttr o f true) Q E s₁) E s) : wpAny (model prog w) A (eval (.Attribute e f pos) env) Q E s :=
 Attribute_any_ h (by rw [arm_eval_Attribute, hb])
end
section
variable {X : Cx} {pins : List (Addr × Obj)} {σ : St} {H : Hp} {s : Shared} {A : Around} {E : Value -> Shared -> Prop} {Q : Value -> Shared -> Prop} {c : Value} {b : Bool}
inductive qk7 (K : Fg) (H : Hp) : V -> Value -> Prop where
 | non : qk7 K H .non (.type "NoneType")
 | bl (x : Bool) : qk7 K H (.bl x) (.type "bool")
 | int (i : Int) : qk7 K H (.int i) (.type "int")
 | str (x : Str) : qk7 K H (.str x) (.type "str")
 | flt (x : UInt64) : qk7 K H (.flt x) (.type "float")
 | lst {a : Addr} {xs : List V} (e : H a = some (.lst xs)) : qk7 K H (.ref a) (.type "list")
 | frz {a : Addr} {o : Obj} {xs : List V} (e : H a = some (.frz o (.lst xs))) : qk7 K H (.ref a) (.type "list")
 | tup {a : Addr} {xs : List V} (e : H a = some (.tup xs)) : qk7 K H (.ref a) (.type "tuple")
 | dK {a : Addr} {kvs : List (Key × V)} (e : H a = some (.dK kvs)) : qk7 K H (.ref a) (.type "dict")
 | dT {a : Addr} {kvs : List (List Key × V)} (e : H a = some (.dT kvs)) : qk7 K H (.ref a) (.type "dict")
 | ins {a C dx : Addr} {fs : List (Str × V)} (e : H a = some (.ins C dx fs)) (cl : Cls K C) (ha : PySem.W.findIn K (.ref C) "__class__" = some (some (.builtin "object.__class__")))
  (hn : PySem.W.specialIn K (.builtin "object.__class__") "__get__" = some (some (.builtin "getset_descriptor.__get__"))) (htk : PySem.W.takesIn K (.builtin "object.__class__") = some true)
  (hm : PySem.W.mroIn K C (.type "object") = some true) : qk7 K H (.ref a) (.ref C)
theorem xq6 {x : V} {u t : Value} (I : Inv X pins σ H s) (rx : G8 x u) (ty : qk7 X.K H x t) (e : PySem.W.kitOne X.K t c = some b) (h : ∀ tk, Q (.bool b) { s with toks := tk }) :
 wpAny (model X.prog X.w) A (call (.builtin "isinstance") [u, c]) Q E s := by
 cases ty with
 | non => cases (show u = Value.none from rx); exact PySem.W.kia_one PySem.W.kitx_none I.kIn True.intro e (fun z => nomatch z) h
 | bl y => cases (show u = Value.bool y from rx); exact PySem.W.kia_one PySem.W.kitx_bool I.kIn True.intro e (fun z => nomatch z) h
 | int i => obtain ⟨t, q⟩ := (show ∃ t, u = Value.int i t from rx); cases q; exact PySem.W.kia_one PySem.W.kitx_int I.kIn True.intro e (fun z => nomatch z) h
 | str y => obtain ⟨t, q⟩ := (show ∃ t, u = Value.str y t from rx); cases q; exact PySem.W.kia_one PySem.W.kitx_str I.kIn True.intro e (fun z => nomatch z) h
 | flt y => obtain ⟨t, q⟩ := (show ∃ t, u = Value.float y t from rx); cases q; exact PySem.W.kia_one PySem.W.kitx_float I.kIn True.intro e (fun z => nomatch z) h
 | @lst a xs ea =>
   cases (show u = Value.ref a from rx)
   obtain ⟨_, _, n, _, h1⟩ := (show M9 X.prog X.w H s.heap a (.lst xs) from I.hok a _ ea)
   exact PySem.W.kia_one PySem.W.kitx_list I.kIn ⟨_, h1, rfl⟩ e (fun z => nomatch z) h
 | @frz a ob xs ea =>
   cases (show u = Value.ref a from rx)
   obtain ⟨_, _, _, n, _, h1⟩ := (show M9 X.prog X.w H s.heap a (.frz ob (.lst xs)) from I.hok a _ ea)
   exact PySem.W.kia_one PySem.W.kitx_list I.kIn ⟨_, h1, rfl⟩ e (fun z => nomatch z) h
 | @tup a xs ea =>
   cases (show u = Value.ref a from rx)
   obtain ⟨_, _, _, p⟩ := (show M9 X.prog X.w H s.heap a (.tup xs) from I.hok a _ ea)
   obtain ⟨o, h1, h2, _⟩ := p
   exact PySem.W.kia_one PySem.W.kitx_tuple I.kIn ⟨o, h1, h2⟩ e (fun z => nomatch z) h
 | @dK a kvs ea =>
   cases (show u = Value.ref a from rx)
   obtain ⟨_, _, vs, _, p⟩ := (show M9 X.prog X.w H s.heap a (.dK kvs) from I.hok a _ ea)
   obtain ⟨o, es, ep, h1, h2, _⟩ := p
   exact PySem.W.kia_one PySem.W.kitx_dict I.kIn ⟨o, h1, h2.1⟩ e (fun z => nomatch z) h
 | @dT a kvs ea =>
   cases (show u = Value.ref a from rx)
   obtain ⟨_, _, xs, _, o, es, ep, h1, h2, _⟩ := (show M9 X.prog X.w H s.heap a (.dT kvs) from I.hok a _ ea)
   exact PySem.W.kia_one PySem.W.kitx_dict I.kIn ⟨o, h1, h2.1⟩ e (fun z => nomatch z) h
 | @ins a C dx fs ea cl ha hn htk hm =>
   cases (show u = Value.ref a from rx)
   obtain ⟨mA, O, _⟩ := ye2 I.hok ea
   obtain ⟨od, J, _⟩ := O.look
   exact PySem.W.kia_one (PySem.W.kitx_own (cl.get _) cl.hd ha hn htk hm) I.kIn J e (fun z => nomatch z) h
end
end L2
namespace L2
open PySem PySem.Spec PyProof.Rows
structure X8 (k : Nat) (A : Around) : Prop where
 hd : A.handled = none
 dp : A.depth + 3 * k + 5 < recursionLimit
 un : A.units + 16 * k + 200 < cLine
theorem X8.mono {j k : Nat} {A : Around} (r : X8 k A) (h : j <= k) : X8 j A := ⟨r.hd, by have := r.dp; omega, by have := r.un; omega⟩
theorem X8.deeper {k : Nat} {A : Around} (r : X8 (k + 1) A) (env : Env) : X8 k (A.deeper env) :=
 ⟨r.hd, by have := r.dp; show A.depth + 1 + 3 * k + 5 < _; omega, by have := r.un; show A.units + 3 + 16 * k + 200 < _; omega⟩
theorem xg7 {A : Around} {C : Addr} {us : List Value} {kw : List (Str × Value)} : (A.under (.builtin "type.__call__" ⟨.ref C :: us, kw⟩)).depth = A.depth + 1 := by
 first | rfl | simp [Around.under, Code.weight, Code.isCreation, Code.isGuard, Code.isCaller, Code.frames, Code.isFrame, guardIds]
theorem xg8 {A : Around} {C : Addr} {us : List Value} {kw : List (Str × Value)} : (A.under (.builtin "type.__call__" ⟨.ref C :: us, kw⟩)).units = A.units + 1 := by
 first | rfl | simp [Around.under, Code.cUnits, Code.frames, Code.isFrame]
theorem X8.make {k : Nat} {A : Around} (r : X8 (k + 1) A) (C : Addr) (us : List Value) (kw : List (Str × Value)) : X8 k (A.under (.builtin "type.__call__" ⟨.ref C :: us, kw⟩)) :=
 ⟨r.hd, by have := r.dp; rw [xg7]; omega, by have := r.un; rw [xg8]; omega⟩
theorem X8.depth {k : Nat} {A : Around} (r : X8 k A) : A.depth < recursionLimit := by have := r.dp; omega
theorem X8.units {k : Nat} {A : Around} (r : X8 k A) : A.units + 64 < cLine := by have := r.un; omega
def B6 : TA := fun _ H Q => Q [] H
def A6 (ta : TE) (tr : TA) : TA := fun σ H Q => ta σ H fun x H1 => tr σ H1 fun xs H2 => Q (x :: xs) H2
section
variable {X : Cx} {e : Expr} {es : List Expr} {te : TE} {t : TA} {pos : Pos}
theorem A9 : PA X [] B6 := fun _ _ _ _ H Q I h => Calls.spliced_nil ⟨[], H, I, .nil, h⟩
theorem A0 (ha : PE X e te) (hr : PA X es t) (hs : autoParam (starEach (e :: es) X.env = (false, eval e X.env) :: starEach es X.env) zAr) : PA X (e :: es) (A6 te t) := by
 intro pos pins s σ H Q I h
 rw [hs]
 show wpAny _ _ (spliced ((false, eval e X.env) :: backTo pos (starEach es X.env))) _ _ s
 refine Calls.spliced_cons (thn (ha pins s σ H _ I h) fun u s1 zq => ?_)
 obtain ⟨x, H1, I1, r1, q1⟩ := zq
 exact thn (hr pos pins s1 σ H1 _ I1 q1) fun us s2 ⟨xs, H2, I2, r2, q2⟩ => ⟨x :: xs, H2, I2, .cons r1 r2, q2⟩
def qp3 (t : TA) : TE := fun σ H Q => t σ H fun xs H1 => xs.length <= sizeLine /\ ∀ p, H1 p = none -> Q (.ref p) (upd H1 p (.tup xs))
def O5 (t : TA) : TE := fun σ H Q => t σ H fun xs H1 => xs.length <= sizeLine /\ ∀ p, H1 p = none -> Q (.ref p) (upd H1 p (.lst xs))
theorem qe6 {x1} (h : PA X es t) : PE X (.Tuple es x1 pos) (qp3 t) := by
 intro pins s σ H Q I hq
 refine wpAny_Tuple_spliced (thn (h pos pins s σ H _ I hq) fun us s1 ⟨xs, H1, I1, r, z, q⟩ => ⟨by rw [<- r.length]; exact z, ?_⟩)
 have hf : H1 s1.heap.objs.size = none := I1.hok.fresh (Nat.le_refl _)
 refine ⟨.ref s1.heap.objs.size, upd H1 s1.heap.objs.size (.tup xs), I1.laid (t' := s1.toks) (fun b u e => Heap.get?_push_of_some _ e) (Nat.le_refl _) ?_, rfl, q _ hf⟩
 exact ⟨z, us, r, ⟨_, Heap.get?_push_size _ rfl, rfl, _, rfl⟩⟩
theorem I9 (h : PA X es t) : PE X (.List es pos) (O5 t) := by
 intro pins s σ H Q I hq
 refine wpAny_List_spliced (thn (h pos pins s σ H _ I hq) fun us s1 ⟨xs, H1, I1, r, z, q⟩ => ⟨by rw [<- r.length]; exact z, ?_⟩)
 have hf : H1 s1.heap.objs.size = none := I1.hok.fresh (Nat.le_refl _)
 refine ⟨.ref s1.heap.objs.size, upd H1 s1.heap.objs.size (.lst xs), I1.laid (t' := s1.toks) (fun b u e => Heap.get?_push_of_some _ e) (Nat.le_refl _) ?_, rfl, q _ hf⟩
 exact ⟨z, us, 0, r, Heap.get?_push_size _ rfl⟩
end
noncomputable abbrev Sp := List V -> Hp -> VK -> XK -> Prop
noncomputable abbrev CXT := List Env -> Hp -> Shared -> XK -> Value -> Shared -> Prop
structure xg9 (P : Program) (w : World) (K : Fg) (mg : Str -> Option Value) (base : Heap) (A : Around) (outer : List Env) (s : Shared) (H : Hp) : Prop where
 frames : A.frames = some outer
 mod : Mod K mg base
 bs : ∀ b o, base.get? b = some o -> s.heap.get? b = some o /\ H b = none
 bsz : base.objs.size <= s.heap.objs.size
 funs : s.heap.FunFrames base outer
 frf : ∀ b ∈ frs outer, H b = none
 hok : HOk P w H s.heap
 bare : AllBare s.gens
 tk : 0 < s.toks
def CE (outer : List Env) (P : Program) (w : World) (H : Hp) (s : Shared) (Q : VK) (u : Value) (s' : Shared) : Prop :=
 ∃ v H', 0 < s'.toks /\ s'.os = s.os /\ AllBare s'.gens /\ Un (frs outer) [] H H' s.heap s'.heap /\ HOk P w H' s'.heap /\ G8 v u /\ Q v H'
def CR (CX : CXT) (outer : List Env) (P : Program) (w : World) (H : Hp) (s : Shared) (Q : VK) (E : XK) (r : Result) (s' : Shared) : Prop :=
 match r with
 | .ok (.ret u) => CE outer P w H s Q u s'
 | .ok _ => False
 | .error e => CX outer H s E e s'
structure O2 (P : Program) (w : World) (K : Fg) (mg : Str -> Option Value) (base : Heap) (CX : CXT) (k : Nat) (f : Addr) (fd : FuncData) (ps : List Str) (sp : Sp) : Prop where
 len : ∀ vs H Q E, sp vs H Q E -> vs.length = ps.length
 run : ∀ (A : Around) (outer : List Env) (s : Shared) (H : Hp) (args : Args) (us : List Value) (vs : List V) (Q : VK) (E : XK), X8 k A -> xg9 P w K mg base A outer s H -> BindsTo s fd args (ps.zip us) -> G4 vs us -> sp vs H Q E ->
  codeAny (model P w) A (.call (.ref f) args) (CR CX outer P w H s Q E) s
theorem xg9.make {P : Program} {w : World} {K : Fg} {mg : Str -> Option Value} {base : Heap} {A : Around} {outer : List Env} {s : Shared} {H : Hp} (e : xg9 P w K mg base A outer s H) (C : Addr) (us : List Value) (kw : List (Str × Value)) :
 xg9 P w K mg base (A.under (.builtin "type.__call__" ⟨.ref C :: us, kw⟩)) outer s H := ⟨by first | exact e.frames | (simpa [Around.under, Code.envs, Code.isFrame, pushEnvs] using e.frames), e.mod, e.bs, e.bsz, e.funs, e.frf, e.hok, e.bare, e.tk⟩
section
variable {X : Cx} {pins : List (Addr × Obj)} {σ : St} {H : Hp} {s s' : Shared}
theorem Inv.env0 (I : Inv X pins σ H s) : xg9 X.prog X.w X.K X.mg X.base X.A X.stack s H :=
 ⟨I.ok.frames, I.ok.mod, I.bs, Nat.le_trans I.ok.bsz I.sz, I.stack, I.stkFree, I.hok, I.bare, I.tk⟩
theorem Inv.after {Q : VK} {u : Value} (I : Inv X pins σ H s) (h : CE X.stack X.prog X.w H s Q u s') : EP X pins σ Q u s' := by
 obtain ⟨v, H', ht, os, bare, un, hok, r, q⟩ := h
 obtain ⟨hh, g, d, t, os'⟩ := s'
 obtain rfl : os' = s.os := os
 exact ⟨v, H', I.call (h' := hh) (g' := g) (d' := d) (t' := t) (ch := []) un hok bare (fun b z => absurd z (by simp)) ht, r, q⟩
end
def C8 (sp : Sp) (dvs : List V) (E : XK) (t : TA) : TE := fun σ H Q => t σ H fun vs H1 => sp (vs ++ dvs) H1 Q E
def qs1 (K : Fg) (fd : FuncData) (ps : List Str) (ds : List Value) : Prop :=
 ∀ (s : Shared) (us : List Value), K.In s.heap -> (us ++ ds).length = ps.length -> BindsTo s fd ⟨us, []⟩ (ps.zip (us ++ ds))
theorem qs1.all {K : Fg} {fd : FuncData} {ps : List Str} (h : ∀ us : List Value, us.length = ps.length -> bindArgs fd ⟨us, []⟩ = pure (ps.zip us)) : qs1 K fd ps [] := fun s us _ hl => by
 rw [List.append_nil] at hl ⊢
 exact .of_eq (h us hl)
def wv7 (CX : CXT) (X : Cx) (E : XK) : Prop := ∀ (pins : List (Addr × Obj)) (σ : St) (H : Hp) (s : Shared) (e : Value) (s' : Shared), Inv X pins σ H s -> CX X.stack H s E e s' -> X.xe e s'
section
variable {X : Cx} {CX : CXT} {k : Nat} {f C : Addr} {fd : FuncData} {ps : List Str} {sp : Sp} {dvs : List V} {ds : List Value} {E : XK} {x m : Str} {p pos apos : Pos} {e o : Expr} {es : List Expr} {ta : TE} {t : TA}
theorem yn9 {pins : List (Addr × Obj)} {σ : St} {H : Hp} {s : Shared} {Q : VK} {us : List Value} {vs : List V} (F : O2 X.prog X.w X.K X.mg X.base CX k f fd ps sp) (hr : X8 k X.A) (hb : qs1 X.K fd ps ds) (hd : G4 dvs ds) (hx : wv7 CX X E)
 (I : Inv X pins σ H s) (r : G4 vs us) (h : sp (vs ++ dvs) H Q E) : wpAny (model X.prog X.w) X.A (call (.ref f) us) (EP X pins σ Q) X.xe s := by
 have r2 : G4 (vs ++ dvs) (us ++ ds) := r.append hd
 have hl : (us ++ ds).length = ps.length := by rw [<- r2.length]; exact F.len _ _ _ _ h
 refine wpAny_call (codeAny_mono (F.run X.A X.stack s H ⟨us, []⟩ (us ++ ds) (vs ++ dvs) Q E hr I.env0 (hb s us I.kIn hl) r2 h) fun r s' hq => ?_)
 cases r with
 | error e => exact hx pins σ H s e s' I hq
 | ok fl =>
   cases fl with
   | ret u => exact I.after hq
   | next => exact False.elim hq
   | brk => exact False.elim hq
   | cont => exact False.elim hq
theorem C2 (F : O2 X.prog X.w X.K X.mg X.base CX k f fd ps sp) (hr : X8 k X.A) (hg : Gl X x) (hm : X.mg x = some (.ref f)) (hk : PySem.W.keepIn X.K (.ref f) = true) (hb : qs1 X.K fd ps ds) (hd : G4 dvs ds) (hx : wv7 CX X E)
 (ha : PA X (e :: es) t) (hdb : autoParam ((x == ("__debug__" : Str)) = false) zAd) (he : autoParam (starEach (e :: es) X.env = (false, eval e X.env) :: starEach es X.env) zAr) (hpl : autoParam ((backTo pos (starEach es X.env)).any (·.1) = false) zAr) :
 PE X (.Call (.Name x p) (e :: es) [] pos) (C8 sp dvs E t) := by
 intro pins s σ H Q I h
 refine wpAny_Call_Name_kw (qm7 I hg hm ?_ hdb)
 refine PySem.W.callWith_K (h₀ := X.base) I.ok.mod.kin hk (thn (ha pos pins s σ H _ I h) fun us s1 ⟨vs, H1, I1, r, q⟩ => ⟨I1.kIn, ?_⟩) he hpl
 exact yn9 F hr hb hd hx I1 r q
end
section
variable {X : Cx} {CX : CXT} {k : Nat} {f C : Addr} {fd : FuncData} {ps ks : List Str} {sp : Sp} {E : XK} {x m : Str} {p pos apos kpos : Pos} {e o : Expr} {es : List Expr} {kws : List Keyword} {te ta : TE} {t tk : TA} {nm : Option Str}
variable {g : List Value -> List Value -> List Value} {gV : List V -> List V -> List V}
end
structure G1 (N P : List Str) (sc : Scope) : Prop where
 kind : sc.kind = .function
 co : sc.isCoroutine = false
 gen : sc.isGenerator = false
 nd : N.Nodup
 pre : N.take P.length = P
 par : ∀ x ∈ P, sc.names.lookup x = some .local \/ sc.names.lookup x = some .cell
 nofree : ∀ y ∈ sc.names, y.2 ≠ .free
theorem ws8 {kindOf : Str -> Option NameKind} {x : Str} : ∀ {binds : List (Str × Value)} {m : Str -> Option Value}, (∀ v, (x, v) ∉ binds) -> bindL kindOf binds m x = m x
 | [], _, _ => rfl
 | (n, v) :: r, m, h => by
   unfold bindL
   rw [ws8 fun w hw => h w (List.mem_cons_of_mem _ hw)]
   split
   ·have : x ≠ n := by rintro rfl; exact h v List.mem_cons_self
    simp [this]
   ·rfl
theorem ws9 {kindOf : Str -> Option NameKind} {x : Str} : ∀ {binds : List (Str × Value)} {m : Str -> Option Value}, (∀ v, (x, v) ∉ binds) -> bindC kindOf binds m x = m x
 | [], _, _ => rfl
 | (n, v) :: r, m, h => by
   unfold bindC
   rw [ws9 fun w hw => h w (List.mem_cons_of_mem _ hw)]
   split
   ·rfl
   ·have : x ≠ n := by rintro rfl; exact h v List.mem_cons_self
    simp [this]
theorem wt0 {kindOf : Str -> Option NameKind} {x : Str} {v : Value} : ∀ {P : List Str} {vs : List Value} {i : Nat} {m : Str -> Option Value}, P.Nodup -> P[i]? = some x -> vs[i]? = some v -> kindOf x = some .local ->
 bindL kindOf (P.zip vs) m x = some v
 | [], _, _, _, _, h, _, _ => by simp at h
 | _ :: _, [], _, _, _, _, h, _ => by simp at h
 | p :: P, w :: vs, 0, m, nd, h1, h2, hk => by
   simp at h1 h2; subst h1; subst h2
   show bindL kindOf ((p, w) :: P.zip vs) m p = _
   unfold bindL
   rw [ws8 fun v hv => (List.nodup_cons.mp nd).1 (List.of_mem_zip hv).1, if_pos hk]
   simp
 | p :: P, w :: vs, i + 1, m, nd, h1, h2, hk => by
   show bindL kindOf ((p, w) :: P.zip vs) m x = _
   unfold bindL
   exact wt0 (i := i) (List.nodup_cons.mp nd).2 (by simpa using h1) (by simpa using h2) hk
theorem wt1 {kindOf : Str -> Option NameKind} {x : Str} {v : Value} : ∀ {P : List Str} {vs : List Value} {i : Nat} {m : Str -> Option Value}, P.Nodup -> P[i]? = some x -> vs[i]? = some v -> kindOf x ≠ some .local ->
 bindC kindOf (P.zip vs) m x = some v
 | [], _, _, _, _, h, _, _ => by simp at h
 | _ :: _, [], _, _, _, _, h, _ => by simp at h
 | p :: P, w :: vs, 0, m, nd, h1, h2, hk => by
   simp at h1 h2; subst h1; subst h2
   show bindC kindOf ((p, w) :: P.zip vs) m p = _
   unfold bindC
   rw [ws9 fun v hv => (List.nodup_cons.mp nd).1 (List.of_mem_zip hv).1, if_neg hk]
   simp
 | p :: P, w :: vs, i + 1, m, nd, h1, h2, hk => by
   show bindC kindOf ((p, w) :: P.zip vs) m x = _
   unfold bindC
   exact wt1 (i := i) (List.nodup_cons.mp nd).2 (by simpa using h1) (by simpa using h2) hk
noncomputable def M2 (N : List Str) (vs : List V) : St := vs.map some ++ List.replicate (N.length - vs.length) none
noncomputable def qs2 (CX : CXT) (P : Program) (w : World) (K : Fg) (mg : Str -> Option Value) (base : Heap) (N : List Str) (qual : Str) (scope : Scope) (f : Addr) (cd : Value) (A : Around) (outer : List Env) (s : Shared) (H : Hp) (E : XK) : Cx where
 prog := P
 w := w
 K := K
 mg := mg
 base := base
 A := A.deeper (envOfC qual scope s.heap.objs.size f cd)
 N := N
 s₀ := s
 H₀ := H
 env := envOfC qual scope s.heap.objs.size f cd
 outer := outer
 stack := envOfC qual scope s.heap.objs.size f cd :: outer
 ex := []
 calm := true
 fn := fun _ => true
 pn := []
 xe := fun e s' => wpAny (model P w) (A.deeper (envOfC qual scope s.heap.objs.size f cd)) (leaving (envOfC qual scope s.heap.objs.size f cd) e) (fun _ s'' => CX outer H s E e s'') (fun e' s'' => CX outer H s E e' s'') s'
theorem xc0 {sc : Scope} {n : Nat} {x : Str} (h : sc.names.lookup x = some .cell) : ∃ c, (cellsFrom n sc.names []).lookup x = some c := by
 have q := PySem.W.cellsFrom_some sc.names n [] (.inl h)
 exact Option.isSome_iff_exists.mp q
theorem xq7 {CX : CXT} {P : Program} {w : World} {K : Fg} {mg : Str -> Option Value} {base : Heap} {N ps : List Str} {qual : Str} {scope : Scope} {f : Addr} {cd : Value} {A : Around} {outer : List Env} {s s1 : Shared} {H : Hp} {E : XK} {us : List Value} {vs : List V}
 (S : G1 N ps scope) (hd : A.handled = none) (e0 : xg9 P w K mg base A outer s H) (hl : vs.length = ps.length) (r : G4 vs us)
 (x : InCallC s s.heap.objs.size (bindL (envOfC qual scope s.heap.objs.size f cd).kindOf (ps.zip us) fun _ => none) (cellsFrom (s.heap.objs.size + 1) scope.names []) (bindC (envOfC qual scope s.heap.objs.size f cd).kindOf (ps.zip us) fun _ => none) s1) (ht : 0 < s1.toks) :
 Inv (qs2 CX P w K mg base N qual scope f cd A outer s H E) [] (M2 N vs) H s1 := by
 have hpl : ps.length <= N.length := by have := congrArg List.length S.pre; rw [List.length_take] at this; omega
 obtain ⟨h1, tk, rfl, hk⟩ := x.done
 have noA : ∀ b : Addr, b ∉ (qs2 CX P w K mg base N qual scope f cd A outer s H E).ex := fun b z => absurd (show b ∈ ([] : List Addr) from z) (by simp)
 refine ⟨⟨e0.mod, S.kind, rfl, rfl, Nat.le_refl _, fun y z c h1 h2 => ?_, fun y hy => ?_, fun y c _ h => ?_, fun _ => hd, Around.frames_deeper e0.frames, .inr ⟨rfl, rfl⟩, fun b z => absurd z (noA b), e0.bs, e0.bsz, fun b _ _ => noA b, fun b z => absurd z (noA b), e0.funs, e0.frf⟩,
  rfl, e0.bare, Un.kept hk, ⟨_, x.toInCall.ns, fun i y v h1 h2 h3 => ?_⟩, fun y c h => ⟨_, x.cell y c h⟩, e0.hok.fresh (Nat.le_refl _), fun y c h => ?_, fun p hp => absurd (show p ∈ ([] : List (Addr × Obj)) from hp) (by simp), e0.hok.kept hk, ?_, ht⟩
 ·exact name_of_addr x.apart (PySem.mem_of_lookup h1) (PySem.mem_of_lookup h2)
 ·have hy : scope.names.lookup y = some .cell \/ scope.names.lookup y = some .free := hy
  rcases hy with hy | hy
  ·exact xc0 hy
  ·exact absurd rfl (S.nofree _ (PySem.mem_of_lookup hy))
 ·exact Nat.le_of_lt (x.above y c (PySem.mem_of_lookup h))
 ·have hi : i < vs.length := by
   unfold M2 at h2
   by_cases hi : i < vs.length
   ·exact hi
   ·rw [List.getElem?_append_right (by simpa using hi)] at h2
    rw [List.getElem?_replicate] at h2
    split at h2 <;> cases h2
  have ha : vs[i]? = some v := by
   unfold M2 at h2
   rw [List.getElem?_append_left (by simpa using hi), List.getElem?_map] at h2
   cases e : vs[i]? with
   | none => rw [e] at h2; cases h2
   | some a => rw [e] at h2; cases h2; rfl
  obtain ⟨u, hu, rv⟩ := r.get ha
  have hp : ps[i]? = some y := by
   rw [<- S.pre, List.getElem?_take_of_lt (by omega)]; exact h1
  have ndP : ps.Nodup := by rw [<- S.pre]; exact S.nd.sublist (List.take_sublist _ _)
  refine ⟨u, rv, ?_⟩
  rcases S.par y (List.mem_of_getElem? hp) with k | k
  ·exact .inl ⟨k, wt0 ndP hp hu k⟩
  ·obtain ⟨c, e⟩ := xc0 (n := s.heap.objs.size + 1) k
   refine .inr ⟨.inl k, c, e, ?_⟩
   have q := x.cell y c e
   rw [wt1 ndP hp hu (by show scope.names.lookup y ≠ _; rw [k]; decide)] at q
   exact q
 ·exact e0.hok.fresh (Nat.le_of_lt (x.above y c (PySem.mem_of_lookup h)))
 ·unfold M2
  show _ = N.length
  rw [List.length_append, List.length_map, List.length_replicate]
  omega
theorem yk8 {CX : CXT} {P : Program} {w : World} {K : Fg} {mg : Str -> Option Value} {base : Heap} {k : Nat} {f : Addr} {name qual : Str} {params : Arguments} {body : List Stmt} {scope : Scope} {dV kV doc pm cdv ct oc : Value} {an od : Option Addr}
 {osl : Array (Option Value)} {N ps : List Str} {sp : Sp} (lk : K.lookup f = some ⟨oc, od, .func (PySem.W.fnOf name qual params body scope dV kV doc pm an cdv ct), osl⟩) (hcd : PySem.W.codeIn K cdv qual = true) (S : G1 N ps scope)
 (len : ∀ vs H Q E, sp vs H Q E -> vs.length = ps.length)
 (hbody : ∀ (A : Around) (outer : List Env) (s : Shared) (H : Hp) (vs : List V) (Q : VK) (E : XK), X8 k (A.deeper (envOfC qual scope s.heap.objs.size f cdv)) -> sp vs H Q E ->
  ∃ t, PSs (qs2 CX P w K mg base N qual scope f cdv A outer s H E) body t /\ t { nx := fun _ H' => Q .non H', rt := Q } (M2 N vs) H) :
 O2 P w K mg base CX (k + 1) f (PySem.W.fnOf name qual params body scope dV kV doc pm an cdv ct) ps sp := by
 refine ⟨len, fun A outer s H args us vs Q E hr e0 hb r hsp => ?_⟩
 have hl := len _ _ _ _ hsp
 have KX : K.In s.heap := e0.mod.kin.keeps fun b o e => (e0.bs b o e).1
 have lim : s.heap.NoLimit := e0.mod.nolimit.keeps fun b o e => (e0.bs b o e).1
 have hkind : ∀ y ∈ ps.zip us, scope.names.lookup y.1 = some .local \/ (scope.names.lookup y.1 = some .cell /\ ((cellsFrom (s.heap.objs.size + 1) scope.names []).lookup y.1).isSome = true) := fun ⟨n, v⟩ hy => by
  rcases S.par n (List.of_mem_zip hy).1 with q | q
  ·exact .inl q
  ·exact .inr ⟨q, PySem.W.cellsFrom_some _ _ _ (.inl q)⟩
 refine codeAny_call_function hr.depth (KX _ _ lk) rfl S.co S.gen rfl (PySem.W.codeRec_of KX hcd) (hb _ _ _ _ ?_)
 refine wpAny_with_toks (n := 1) e0.tk (wpAny_newFunctionEnv_cells S.kind hkind fun env he s1 x htk => ?_)
 subst he
 refine ⟨lim.keeps x.toInCall.keep, codeAny_func ?_⟩
 obtain ⟨t, ht, hq⟩ := hbody A outer s H vs Q E (hr.deeper _) hsp
 have I : Inv (qs2 CX P w K mg base N qual scope f cdv A outer s H E) [] (M2 N vs) H s1 := xq7 S hr.hd e0 hl r x htk
 refine wpAny_mono (ht [] s1 (M2 N vs) H _ I hq) (fun fl s' hs => ?_) fun e s' hs => hs
 have fin : ∀ {σ' : St} {H' : Hp} {v : V} {u : Value}, Inv (qs2 CX P w K mg base N qual scope f cdv A outer s H E) [] σ' H' s' -> G8 v u -> Q v H' -> CE outer P w H s Q u s' :=
  fun {σ' H' v u} J rv q => ⟨v, H', J.tk, J.os, J.bare, J.base, J.hok, rv, q⟩
 cases fl with
 | ret u =>
   obtain ⟨v, σ', H', J, rv, q⟩ := hs
   exact fin J rv q
 | next =>
   obtain ⟨σ', H', J, q⟩ := hs
   exact fin (v := V.non) (u := Value.none) J rfl q
 | brk =>
   obtain ⟨_, _, _, q⟩ := hs
   exact False.elim q
 | cont =>
   obtain ⟨_, _, _, q⟩ := hs
   exact False.elim q
end L2
namespace L2
open PySem PySem.Spec PyProof.Rows
section
variable {X : Cx} {x : Str} {p pos : Pos} {e : Expr} {es : List Expr} {t : TA} {id T : String} {r : List V -> Hp -> VK -> Prop}
def tCB (r : List V -> Hp -> VK -> Prop) (t : TA) : TE := fun σ H Q => t σ H fun vs H1 => r vs H1 Q
theorem C9 (hc : Q9 X (.builtin id) r) (hg : Gl X x) (hm : X.mg x = none) (hv : bootBuiltins x = some (.builtin id)) (ha : PA X (e :: es) t) (hn : autoParam (x ≠ "__name__") zAd) (hdb : autoParam ((x == ("__debug__" : Str)) = false) zAd)
 (he : autoParam (starEach (e :: es) X.env = (false, eval e X.env) :: starEach es X.env) zAr) (hpl : autoParam ((backTo pos (starEach es X.env)).any (·.1) = false) zAr) : PE X (.Call (.Name x p) (e :: es) [] pos) (tCB r t) := by
 intro pins s σ H Q I h
 refine wpAny_Call_Name_kw (qg5 I hg hm hv ?_ hn hdb)
 exact PyProof.Rows.callWith_builtin1 (thn (ha pos pins s σ H _ I h) fun us s1 ⟨vs, H1, I1, r1, q1⟩ => hc pins s1 σ H1 vs us Q I1 r1 q1) he hpl
theorem S3 (hc : Q9 X (.type T) r) (hg : Gl X x) (hm : X.mg x = none) (hv : bootBuiltins x = some (.type T)) (ha : PA X (e :: es) t) (hn : autoParam (x ≠ "__name__") zAd) (hdb : autoParam ((x == ("__debug__" : Str)) = false) zAd)
 (he : autoParam (starEach (e :: es) X.env = (false, eval e X.env) :: starEach es X.env) zAr) (hpl : autoParam ((backTo pos (starEach es X.env)).any (·.1) = false) zAr) : PE X (.Call (.Name x p) (e :: es) [] pos) (tCB r t) := by
 intro pins s σ H Q I h
 refine wpAny_Call_Name_kw (qg5 I hg hm hv ?_ hn hdb)
 exact PyProof.Rows.callWith_type1 (thn (ha pos pins s σ H _ I h) fun us s1 ⟨vs, H1, I1, r1, q1⟩ => hc pins s1 σ H1 vs us Q I1 r1 q1) he hpl
end
end L2
namespace HT
open PySem PyProof.Rows
section
open PySem.SeqAt
open PySem.AutoSeq1 (wpAny_loadPart')
open PySem.MeetsSeq PySem.MeetsSeq2 PySem.MeetsSeq3
end
section
variable {prog : Program} {w : World} {A : Around} {E : Value -> Shared -> Prop} {s : Shared}
theorem ye4 {t b : Addr} {vs ws : List Value} {Q : Value -> Shared -> Prop} (ht : IsTup s.heap t vs.toArray) (hb : IsTup s.heap b ws.toArray) (hv : vs ≠ [])
 (h1 : ws = [] -> Q (.ref t) s) (h2 : ws ≠ [] -> Q (.ref s.heap.objs.size) { s with heap := s.heap.push { cls := .type "tuple", data := .seq (vs ++ ws).toArray } })
 (hsz : vs.length + ws.length <= sizeLine) : wpAny (model prog w) A (binaryOp .Add (.ref t) (.ref b)) Q E s := by
 obtain ⟨⟨cls, dd, data, sl⟩, ho, hc, n, hd⟩ := id ht
 obtain ⟨⟨cls2, dd2, data2, sl2⟩, ho2, hc2, n2, hd2⟩ := id hb
 simp only at hc hd hc2 hd2
 subst hc hd hc2 hd2
 have e : vs.toArray ++ ws.toArray = (vs ++ ws).toArray := by simp
 by_cases hw : ws = []
 ·exact concat_meets ⟨_, ho, rfl⟩ ⟨_, ho2, rfl⟩ noFill_tuple_add seq_tuple_add PySem.F.slot_tuple_add PySem.F.entry_tuple_add (PySem.F.args_tuple_add_2 _ _)
   (tuple_addW1 t b vs.toArray ws.toArray n n2 dd dd2 sl sl2 (by simpa using hv) (by simp [hw])) ⟨ho, ho2, h1 hw⟩
 ·refine concat_meets ⟨_, ho, rfl⟩ ⟨_, ho2, rfl⟩ noFill_tuple_add seq_tuple_add PySem.F.slot_tuple_add PySem.F.entry_tuple_add (PySem.F.args_tuple_add_2 _ _)
   (tuple_addW2 t b vs.toArray ws.toArray n n2 dd dd2 sl sl2 (by simpa using hv) (by simpa using hw) (by rw [List.size_toArray, List.size_toArray]; exact hsz)) ⟨ho, ho2, ?_⟩
  rw [e]
  exact h2 hw
noncomputable def sIx (n d : Nat) : Option Int -> Nat
 | none => d
 | some v => if v < 0 then (v + (n : Int)).toNat else min v.toNat n
theorem xh0 (n d : Nat) (hd : d <= n) (o : Option Int) : sIx n d o <= n := by
 cases o with
 | none => exact hd
 | some v =>
   show (if v < 0 then (v + (n : Int)).toNat else min v.toNat n) <= n
   by_cases hv : v < 0
   ·rw [if_pos hv]; omega
   ·rw [if_neg hv]; exact Nat.min_le_right _ _
theorem xl8 (v : Int) (n d : Nat) : (if v < 0 then max (v + (n : Int)) 0 else min v (n : Int)) = ((sIx n d (some v) : Nat) : Int) := by
 show (if v < 0 then max (v + (n : Int)) 0 else min v (n : Int)) = (((if v < 0 then (v + (n : Int)).toNat else min v.toNat n) : Nat) : Int)
 by_cases hv : v < 0
 ·simp only [if_pos hv]; omega
 ·simp only [if_neg hv]; omega
theorem xh1 (lo hi : Option Int) (n : Nat) : Builtin.Slice.sliceAdjust lo hi 1 (n : Int) = (((sIx n 0 lo : Nat) : Int), ((sIx n n hi : Nat) : Int)) := by
 have h1 : ¬ ((1 : Int) < 0) := by omega
 unfold Builtin.Slice.sliceAdjust
 simp only [h1, if_false]
 refine Prod.ext ?_ ?_
 ·cases lo with
  | none => rfl
  | some v => exact xl8 v n 0
 ·cases hi with
  | none => rfl
  | some v => exact xl8 v n n
theorem xh2 (i j : Nat) : Builtin.Slice.slicePlaces (i : Int) (j : Int) 1 = j - i := by
 unfold Builtin.Slice.slicePlaces
 have h1 : (1 : Int) > 0 := by omega
 simp only [h1, if_true, Int.ediv_one]
 split <;> omega
theorem wf4 {v : Value} {o : Option Int} {Q : Option Int -> Shared -> Prop} (p : IsPart v o) (h : Q o s) : wpAny (model prog w) A (Builtin.Slice.slicePartIndex v) Q E s := by
 cases p with
 | none => exact slicePart_none h
 | int i t => exact slicePart_int h
theorem qf4 {sl : Addr} {vl vu : Value} {lo hi : Option Int} {n : Nat} {Q : Int × Int × Nat -> Shared -> Prop} (hs : s.heap.IsSliceOf sl vl vu .none) (pl : IsPart vl lo) (pu : IsPart vu hi)
 (h : Q (((sIx n 0 lo : Nat) : Int), 1, sIx n n hi - sIx n 0 lo) s) : wpAny (model prog w) A (Builtin.Slice.sliceApplied (.ref sl) (pure (n : Int))) Q E s := by
 obtain ⟨os, hos, hcs, hds⟩ := id hs
 unfold Builtin.Slice.sliceApplied Builtin.Slice.sliceFields
 refine wpAny_bind (wpAny_bind (wpAny_field hos hds (x := vl) rfl (wpAny_bind (wpAny_field hos hds (x := vu) rfl (wpAny_bind (wpAny_field hos hds (x := .none) rfl (wpAny_pure ?_)))))))
 refine wpAny_bind (slicePart_none ?_)
 show wpAny _ _ (if ((1 : Int) == 0) = true then _ else _) _ _ s
 rw [if_neg (by decide)]
 refine wpAny_bind (wf4 pl (wpAny_bind (wf4 pu (wpAny_bind (wpAny_pure ?_)))))
 show wpAny _ _ (match Builtin.Slice.sliceAdjust lo hi 1 (n : Int) with | (lo, hi) => pure (lo, (1 : Int), Builtin.Slice.slicePlaces lo hi 1)) _ _ s
 rw [xh1 lo hi n]
 show wpAny _ _ (pure (((sIx n 0 lo : Nat) : Int), (1 : Int), Builtin.Slice.slicePlaces ((sIx n 0 lo : Nat) : Int) ((sIx n n hi : Nat) : Int) 1)) _ _ s
 rw [xh2]
 exact wpAny_pure h
theorem xv4 (xs : Array Value) (i k : Nat) : ((List.range k).filterMap fun (m : Nat) => xs[((i : Int) + (m : Int) * 1).toNat]?).toArray = ((xs.toList.drop i).take k).toArray := by
 have e : (fun (m : Nat) => xs[((i : Int) + (m : Int) * 1).toNat]?) = fun m => xs[i + m]? := by
  funext m
  have : ((i : Int) + (m : Int) * 1).toNat = i + m := by omega
  rw [this]
 rw [e]
 have := pick_run xs i k
 rw [List.filterMap_map] at this
 have e2 : ((fun x => xs[x]?) ∘ fun x => i + x) = fun m => xs[i + m]? := rfl
 rw [e2] at this
 rw [this]
theorem qs3 {t sl : Addr} {items : Array Value} {vl vu : Value} {lo hi : Option Int} {Q : Value -> Shared -> Prop} (ht : IsTup s.heap t items) (hs : s.heap.IsSliceOf sl vl vu .none) (pl : IsPart vl lo) (pu : IsPart vu hi)
 (hw : ¬ (sIx items.size 0 lo = 0 /\ sIx items.size items.size hi = items.size))
 (h : Q (.ref s.heap.objs.size) { s with heap := s.heap.push { cls := .type "tuple", data := .seq ((items.toList.drop (sIx items.size 0 lo)).take (sIx items.size items.size hi - sIx items.size 0 lo)).toArray } })
 (hsz : items.size <= sizeLine) : wpAny (model prog w) A (getItem (.ref t) (.ref sl)) Q E s := by
 have htake : sizeOk (.seq ((items.toList.drop (sIx items.size 0 lo)).take (sIx items.size items.size hi - sIx items.size 0 lo)).toArray) := by
  show ((items.toList.drop (sIx items.size 0 lo)).take (sIx items.size items.size hi - sIx items.size 0 lo)).toArray.size <= sizeLine
  rw [List.size_toArray, List.length_take, List.length_drop, Array.length_toList]
  omega
 have hj : sIx items.size items.size hi <= items.size := xh0 _ _ (Nat.le_refl _) hi
 obtain ⟨os, hos, hcs, hds⟩ := id hs
 have hTs : s.TypeIs (.ref sl) "slice" := ⟨os, hos, hcs⟩
 unfold getItem
 try with_reducible refine wpAny_holding ?_
 first | refine wpAny_bind (wpAny_pure ?_) | skip
 refine wpAny_bind (wpAny_sequenceKey ht.typeIs (by decide) ?_)
 refine wpAny_bind (wpAny_callSpecial?_slot (name := Str.ofString "__getitem__") ht.typeIs PyProof.Rows.slot_tuple_getitem
  (wpAny_call_entry PyProof.Rows.slot_tuple_getitem ht.typeIs entry_tuple_getitem ?_ (args_tuple_getitem _ _)))
 show wpAny _ _ (Builtin.Tuple.tupleItemsOf (.ref t) >>= _) _ _ s
 refine wpAny_bind (tupleItemsOf_ ht ?_)
 refine wpAny_bind (wpAny_typeOf hTs ?_)
 rw [if_pos (by decide)]
 refine wpAny_bind (qf4 hs pl pu ?_)
 have hno : ¬ ((((sIx items.size 0 lo : Nat) : Int) == 0 && (1 : Int) == 1 && (sIx items.size items.size hi - sIx items.size 0 lo) == items.size) = true) := by
  intro q
  rw [Bool.and_eq_true, Bool.and_eq_true] at q
  have q1 : ((sIx items.size 0 lo : Nat) : Int) = 0 := eq_of_beq q.1.1
  have q2 : sIx items.size items.size hi - sIx items.size 0 lo = items.size := eq_of_beq q.2
  exact hw ⟨by omega, by omega⟩
 show wpAny _ _ (if (((sIx items.size 0 lo : Nat) : Int) == 0 && (1 : Int) == 1 && (sIx items.size items.size hi - sIx items.size 0 lo) == items.size) = true then _ else _) _ _ s
 rw [if_neg hno, xv4]
 first
  | exact wpAny_bind (m := Builtin.Tuple.tupleExact _) (wpAny_newObj_type (wpAny_pure ⟨_, rfl, wpAny_pure h⟩) htake)
  | exact wpAny_bind (m := Builtin.Tuple.tupleExact _) (wpAny_newObj_type (wpAny_bind (wpAny_pure (wpAny_pure ⟨_, rfl, wpAny_pure h⟩))) htake)
  | exact wpAny_bind (wpAny_bind (m := Builtin.Tuple.tupleExact _) (wpAny_newObj_type (wpAny_pure (wpAny_pure ⟨_, rfl, wpAny_pure h⟩)) htake))
  | exact wpAny_bind (wpAny_bind (m := Builtin.Tuple.tupleExact _) (wpAny_newObj_type (wpAny_pure ⟨_, rfl, wpAny_pure h⟩) htake))
end
end HT
namespace L2
open PySem PySem.Spec PyProof.Rows
noncomputable abbrev TO := St -> Hp -> (Option Int -> Hp -> Prop) -> Prop
def PO (X : Cx) (e : Option Expr) (t : TO) : Prop :=
 ∀ (pins : List (Addr × Obj)) (s : Shared) (σ : St) (H : Hp) (Q : Option Int -> Hp -> Prop), Inv X pins σ H s -> t σ H Q ->
  wpAny (model X.prog X.w) X.A (evalPart e X.env) (fun u s' => ∃ o H', Inv X pins σ H' s' /\ IsPart u o /\ Q o H') X.xe s
def R6 : TO := fun _ H Q => Q none H
def qj6 (t : TE) : TO := fun σ H Q => t σ H fun x H1 => ∃ i, x = .int i /\ Q (some i) H1
section
variable {X : Cx} {e : Expr} {te : TE} {lo hi : Option Expr} {tl th : TO} {pos p2 : Pos}
theorem V8 : PO X none R6 := by
 intro pins s σ H Q I h
 rw [evalPart_none]
 exact wpAny_pure ⟨none, H, I, .none, h⟩
theorem V9 (h : PE X e te) : PO X (some e) (qj6 te) := by
 intro pins s σ H Q I hw
 rw [evalPart_some]
 refine thn (h pins s σ H _ I hw) fun u s1 zq => ?_
 obtain ⟨x, H1, I1, r1, q1⟩ := zq
 obtain ⟨i, rfl, q⟩ := q1
 obtain ⟨t, rfl⟩ := r1
 exact ⟨some i, H1, I1, .int i t, q⟩
def SlR (X : Cx) (r : V -> Option Int -> Option Int -> Hp -> VK -> Prop) : Prop :=
 ∀ (pins : List (Addr × Obj)) (s : Shared) (σ : St) (H : Hp) (x : V) (v vl vu : Value) (lo hi : Option Int) (sl : Addr) (Q : VK), Inv X pins σ H s -> G8 x v -> s.heap.IsSliceOf sl vl vu .none -> IsPart vl lo -> IsPart vu hi -> r x lo hi H Q ->
  ∃ T id, typeLookup (.type T) "__getitem__" = pure (some (.builtin id)) /\ s.TypeIs v T /\ wpAny (model X.prog X.w) X.A (getItem v (.ref sl)) (EP X pins σ Q) X.xe s
theorem SlR.or {r r' : V -> Option Int -> Option Int -> Hp -> VK -> Prop} (h : SlR X r) (h' : SlR X r') : SlR X (fun x lo hi H Q => r x lo hi H Q \/ r' x lo hi H Q) := by
 intro pins s σ H x v vl vu lo hi sl Q I rx hs pl pu q
 rcases q with q | q
 ·exact h pins s σ H x v vl vu lo hi sl Q I rx hs pl pu q
 ·exact h' pins s σ H x v vl vu lo hi sl Q I rx hs pl pu q
def tSl (r : V -> Option Int -> Option Int -> Hp -> VK -> Prop) (te : TE) (tl th : TO) : TE := fun σ H Q => te σ H fun x H1 => tl σ H1 fun l H2 => th σ H2 fun u H3 => r x l u H3 Q
theorem R4 {r : V -> Option Int -> Option Int -> Hp -> VK -> Prop} (hr : SlR X r) (he : PE X e te) (hl : PO X lo tl) (hu : PO X hi th) : PE X (.Subscript e (.Slice lo hi none p2) pos) (tSl r te tl th) := by
 intro pins s σ H Q I h
 refine Subscript_ (thn (he pins s σ H _ I h) fun v s1 zq => ?_)
 obtain ⟨x, H1, I1, r1, q1⟩ := zq
 refine wpAny_Slice (thn (hl pins s1 σ H1 _ I1 q1) fun vl s2 ⟨l, H2, I2, pl, q2⟩ => thn (hu pins s2 σ H2 _ I2 q2) fun vu s3 zq => ?_)
 obtain ⟨u, H3, I3, pu, q3⟩ := zq
 rw [evalPart_none]
 refine wpAny_pure ?_
 have I4 : Inv X pins σ H3 { s3 with heap := s3.heap.push { cls := .type "slice", data := .fields #[vl, vu, .none] } } := I3.kept (t' := s3.toks) fun b ob q => Heap.get?_push_of_some _ q
 obtain ⟨T, id, hT, ht, hg⟩ := hr pins { s3 with heap := s3.heap.push { cls := .type "slice", data := .fields #[vl, vu, .none] } } σ H3 x v vl vu l u s3.heap.objs.size Q I4 r1 (Heap.IsSliceOf.new ..) pl pu q3
 show wpAny (model X.prog X.w) X.A (subscriptTail e (.Slice lo hi none p2) v (.ref s3.heap.objs.size)) (EP X pins σ Q) X.xe { s3 with heap := s3.heap.push { cls := .type "slice", data := .fields #[vl, vu, .none] } }
 exact tail_any (ops := [.ref s3.heap.objs.size, v]) ht hT hg (by with_unfolding_all rfl)
noncomputable def qg9 (xs : List V) (lo hi : Option Int) : List V := (xs.drop (HT.sIx xs.length 0 lo)).take (HT.sIx xs.length xs.length hi - HT.sIx xs.length 0 lo)
theorem wb5 (xs : List V) (lo hi : Option Int) : (qg9 xs lo hi).length <= xs.length := by
 unfold qg9
 rw [List.length_take, List.length_drop]
 omega
def yv6 (K : Fg) : V -> Option Int -> Option Int -> Hp -> VK -> Prop := fun x lo hi H Q => ∃ a xs, x = .ref a /\ SqT K H a xs /\
 ¬ (HT.sIx xs.length 0 lo = 0 /\ HT.sIx xs.length xs.length hi = xs.length) /\ ∀ p, H p = none -> Q (.ref p) (upd H p (.tup (qg9 xs lo hi)))
theorem yo0 : SlR X (yv6 X.K) := by
 intro pins s σ H x v vl vu lo hi sl Q I rx hs pl pu h
 obtain ⟨a, xs, rfl, hx, hw, q⟩ := h
 cases rx
 obtain ⟨its, r, ht, hz⟩ := I.tuple hx
 have hlen : its.toArray.size = xs.length := by rw [List.size_toArray]; exact r.length.symm
 refine ⟨"tuple", _, PyProof.Rows.slot_tuple_getitem.lookup, ht.typeIs, ?_⟩
 refine HT.qs3 ht hs pl pu (by rw [hlen]; exact hw) ?_ (by rw [hlen]; exact hz)
 rw [hlen]
 refine ⟨.ref s.heap.objs.size, _, I.laid (t' := s.toks) (o := .tup (qg9 xs lo hi)) (fun b ob q => Heap.get?_push_of_some _ q) (Nat.le_refl _) ?_, rfl, q _ (I.hok.fresh (Nat.le_refl _))⟩
 exact ⟨Nat.le_trans (wb5 xs lo hi) hz, _, (r.drop (HT.sIx xs.length 0 lo)).take (HT.sIx xs.length xs.length hi - HT.sIx xs.length 0 lo), IsTup.new _ _⟩
def yk9 (K : Fg) : R2 := fun x y H Q => ∃ a b xs ys, x = .ref a /\ y = .ref b /\ SqT K H a xs /\ SqT K H b ys /\ xs ≠ [] /\ xs.length + ys.length <= sizeLine /\
 (ys = [] -> Q (.ref a) H) /\ (ys ≠ [] -> ∀ p, H p = none -> Q (.ref p) (upd H p (.tup (xs ++ ys))))
theorem G4.nil_iff {xs : List V} {us : List Value} (r : G4 xs us) : us = [] ↔ xs = [] := by
 cases r with
 | nil => simp
 | cons _ _ => simp
theorem ye5 : OpR X (binaryOp .Add) (yk9 X.K) := by
 intro pins s σ H x y v u Q I rx ry h
 obtain ⟨a, b, xs, ys, rfl, rfl, ha, hb, hx, hz, q1, q2⟩ := h
 cases rx
 cases ry
 obtain ⟨its, r1, p1, _⟩ := I.tuple ha
 obtain ⟨its2, r2, p2, _⟩ := I.tuple hb
 refine HT.ye4 p1 p2 (fun z => hx (r1.nil_iff.mp z)) (fun z => ⟨.ref a, H, I, rfl, q1 (r2.nil_iff.mp z)⟩) (fun z => ?_) (by rw [<- r1.length, <- r2.length]; exact hz)
 refine ⟨.ref s.heap.objs.size, _, I.laid (t' := s.toks) (o := .tup (xs ++ ys)) (fun b ob q => Heap.get?_push_of_some _ q) (Nat.le_refl _) ?_, rfl, q2 (fun w => z (r2.nil_iff.mpr w)) _ (I.hok.fresh (Nat.le_refl _))⟩
 exact ⟨by rw [List.length_append]; exact hz, _, r1.append r2, IsTup.new _ _⟩
end
end L2
namespace L2
open PySem PySem.Spec PyProof.Rows
noncomputable def ixN (n : Nat) (i : Int) : Option Nat := if 0 <= i then (if i < n then some i.toNat else none) else if -(n : Int) <= i then some (i + n).toNat else none
noncomputable def atI {α : Type} (xs : List α) (i : Int) : Option α := (ixN xs.length i).bind fun j => xs[j]?
theorem xl9 {n : Nat} {i : Int} {j : Nat} (h : ixN n i = some j) : seqIndex? i n = some j /\ j < n /\ -(n : Int) <= i /\ i < n := by
 unfold ixN at h
 by_cases h0 : 0 <= i
 ·rw [if_pos h0] at h
  by_cases h1 : i < n
  ·rw [if_pos h1] at h
   have e : i.toNat = j := Option.some.inj h
   exact ⟨by rw [seqIndex_of h0 h1, e], by omega, by omega, h1⟩
  ·rw [if_neg h1] at h; cases h
 ·rw [if_neg h0] at h
  by_cases h1 : -(n : Int) <= i
  ·rw [if_pos h1] at h
   have e : (i + n).toNat = j := Option.some.inj h
   exact ⟨by rw [seqIndex_neg (by omega) h1, e], by omega, h1, by omega⟩
  ·rw [if_neg h1] at h; cases h
theorem wv8 {α : Type} {xs : List α} {i : Int} {v : α} (h : atI xs i = some v) : ∃ j, seqIndex? i xs.length = some j /\ xs[j]? = some v /\ j < xs.length /\ -(xs.length : Int) <= i /\ i < xs.length := by
 unfold atI at h
 cases e : ixN xs.length i with
 | none => rw [e] at h; cases h
 | some j =>
   rw [e] at h
   obtain ⟨h1, h2, h3, h4⟩ := xl9 e
   exact ⟨j, h1, h, h2, h3, h4⟩
theorem D7 {α : Type} {xs : List α} {j : Nat} {v : α} (h : xs[j]? = some v) : atI xs (j : Int) = some v := by
 have hj : j < xs.length := (List.getElem?_eq_some_iff.mp h).1
 have e : ixN xs.length (j : Int) = some j := by
  unfold ixN
  rw [if_pos (by omega), if_pos (by omega)]; simp
 unfold atI; rw [e]; exact h
def ye6 (b : Expr) : Prop := ∀ o i, subscripted b false o i = operate [o, i] (getItem o i)
def IxR (X : Cx) (r : R2) : Prop :=
 ∀ (value slice : Expr) (pins : List (Addr × Obj)) (s : Shared) (σ : St) (H : Hp) (x y : V) (v u : Value) (Q : VK), Inv X pins σ H s -> G8 x v -> G8 y u -> r x y H Q ->
  subscripted slice false v u = operate [v, u] (getItem v u) -> wpAny (model X.prog X.w) X.A (subscriptTail value slice v u) (EP X pins σ Q) X.xe s
def MtR (X : Cx) (id : String) (r : V -> List V -> Hp -> VK -> Prop) : Prop :=
 ∀ (pins : List (Addr × Obj)) (s : Shared) (σ : St) (H : Hp) (x : V) (xs : List V) (v : Value) (us : List Value) (Q : VK), Inv X pins σ H s -> G8 x v -> G4 xs us -> r x xs H Q ->
  wpAny (model X.prog X.w) X.A (call (.builtin id) (v :: us)) (EP X pins σ Q) X.xe s
section
variable {X : Cx} {a b : Expr} {ta tb : TE} {pos : Pos}
theorem IxR.or {r r' : R2} (h : IxR X r) (h' : IxR X r') : IxR X (fun x y H Q => r x y H Q \/ r' x y H Q) := by
 intro value slice pins s σ H x y v u Q I rx ry q hs
 rcases q with q | q
 ·exact h value slice pins s σ H x y v u Q I rx ry q hs
 ·exact h' value slice pins s σ H x y v u Q I rx ry q hs
theorem D9 {r : R2} (hr : IxR X r) (ha : PE X a ta) (hb : PE X b tb) (hs : ye6 b) : PE X (.Subscript a b pos) (tOp r ta tb) := by
 intro pins s σ H Q I h
 exact Subscript_ (yn4 ha hb I h fun v u s2 x y H2 I2 rx ry q => hr a b pins s2 σ H2 x y v u Q I2 rx ry q (hs _ _))
def yv7 (K : Fg) : R2 := fun x y H Q => ∃ p xs i v, x = .ref p /\ y = .int i /\ SqL K H p xs /\ atI xs i = some v /\ Q v H
def yv8 (K : Fg) : R2 := fun x y H Q => ∃ p xs i v, x = .ref p /\ y = .int i /\ SqT K H p xs /\ atI xs i = some v /\ Q v H
def yv9 : R2 := fun x y H Q => ∃ z i c, x = .str z /\ y = .int i /\ z.length <= sizeLine /\ atI z.cps.toList i = some c /\ Q (.str ⟨#[c]⟩) H
theorem ye7 : IxR X (yv7 X.K) := by
 intro value slice pins s σ H x y v u Q I rx ry h hs
 obtain ⟨p, xs, i, z, rfl, rfl, hq, he, q⟩ := h
 cases rx
 obtain ⟨t, rfl⟩ := ry
 obtain ⟨its, r, pl, hz⟩ := I.list hq
 obtain ⟨j, h1, h2, h3, h4, h5⟩ := wv8 he
 obtain ⟨w, ew, rw'⟩ := r.get h2
 have hl := r.length
 have hn := qx6
 have fin : EP X pins σ Q w s := ⟨z, H, I, rw', q⟩
 by_cases h0 : 0 <= i
 ·have hj : i.toNat = j := by
   rw [seqIndex_of h0 h5] at h1
   exact Option.some.inj h1
  exact item_listR pl.isList h0 (by omega) (by rw [hj]; simpa using ew) fin hs
 ·have hj : (i + (its.toArray.size : Int)).toNat = j := by
   rw [seqIndex_neg (by omega) h4] at h1
   rw [List.size_toArray, <- hl]
   exact Option.some.inj h1
  exact subscriptTail_builtinR (x := w) pl.isList.typeIs slot_list_getitem.lookup
   (wpAny_getItem_list_neg (Q := fun r s' => r = w /\ EP X pins σ Q r s') pl.isList (by omega) (by rw [List.size_toArray] <;> omega) (by omega) (by rw [hj]; simpa using ew) ⟨rfl, fin⟩) hs
theorem yo1 : IxR X (yv8 X.K) := by
 intro value slice pins s σ H x y v u Q I rx ry h hs
 obtain ⟨p, xs, i, z, rfl, rfl, hq, he, q⟩ := h
 cases rx
 obtain ⟨t, rfl⟩ := ry
 obtain ⟨its, r, pl, hz⟩ := I.tuple hq
 obtain ⟨j, h1, h2, h3, h4, h5⟩ := wv8 he
 obtain ⟨w, ew, rw'⟩ := r.get h2
 have hl := r.length
 have hn := qx6
 have fin : EP X pins σ Q w s := ⟨z, H, I, rw', q⟩
 exact subscriptTail_builtinR (x := w) pl.typeIs slot_tuple_getitem.lookup
  (getItem_tuple (j := j) (Q := fun r s' => r = w /\ EP X pins σ Q r s') pl (by omega) (by omega) (by rw [List.size_toArray, <- hl]; exact h1) (by simpa using ew) ⟨rfl, fin⟩) hs
theorem yo2 : IxR X yv9 := by
 intro value slice pins s σ H x y v u Q I rx ry h hs
 obtain ⟨z, i, c, rfl, rfl, hz, he, q⟩ := h
 obtain ⟨t, rfl⟩ := rx
 obtain ⟨t', rfl⟩ := ry
 obtain ⟨j, h1, h2, h3, h4, h5⟩ := wv8 he
 have hl : z.cps.toList.length = z.length := by simp [Str.length]
 rw [hl] at h1 h4 h5
 have hn := qx6
 exact tail_any (typeIs_str s z t) slot_str_getitem.lookup (getItem_str (c := c) (by
  have e1 : decide (i < -(2 ^ 63 : Int)) = false := decide_eq_false (by omega)
  have e2 : decide (i >= 2 ^ 63) = false := decide_eq_false (by omega)
  rw [e1, e2, Bool.or_false]) (by rw [h1]; simpa using h2) ⟨.str ⟨#[c]⟩, H, I.tok _, ⟨_, rfl⟩, q⟩) hs
def rIx (K : Fg) : R2 := fun x y H Q => yv7 K x y H Q \/ yv8 K x y H Q \/ yv9 x y H Q
theorem yo3 : IxR X (rIx X.K) := ye7.or (yo1.or yo2)
theorem xh3 (its : List Value) (n j : Nat) (u : Value) : Obj.mapSeq (·.setIfInBounds j u) { cls := .type "list", data := .seq its.toArray n } = { cls := .type "list", data := .seq (its.set j u).toArray n } := by
 simp [Obj.mapSeq]
theorem Inv.lst {pins : List (Addr × Obj)} {σ : St} {H : Hp} {s : Shared} {p : Addr} {xs : List V} (I : Inv X pins σ H s) (h : H p = some (.lst xs)) :
 ∃ (its : List Value) (n : Nat), G4 xs its /\ s.heap.get? p = some { cls := .type "list", data := .seq its.toArray n } /\ xs.length <= sizeLine := by
 obtain ⟨z, its, n, r, e⟩ := I.hok p _ h
 exact ⟨its, n, r, e, z⟩
theorem Inv.lstUpd {pins : List (Addr × Obj)} {σ : St} {H : Hp} {s : Shared} {p : Addr} {xs ys : List V} {its its' : List Value} {n n' : Nat} {f : Obj -> Obj} (I : Inv X pins σ H s) (h : H p = some (.lst xs))
 (ho : s.heap.get? p = some { cls := .type "list", data := .seq its.toArray n }) (hf : f { cls := .type "list", data := .seq its.toArray n } = { cls := .type "list", data := .seq its'.toArray n' }) (r : G4 ys its') (hz : ys.length <= sizeLine) (t' : Nat) (ht : autoParam (0 < t') zAt) :
 Inv X pins σ (upd H p (.lst ys)) { s with heap := s.heap.update p f, toks := t' } := by
 have e : (s.heap.update p f).get? p = some { cls := .type "list", data := .seq its'.toArray n' } := by
  rw [Heap.get?_update_self f ho (by rw [hf] <;> rfl), hf]
 refine I.write (x := p) (e := p) (by rw [h]; trivial) (.inl rfl) (fun b u hb q => (Heap.get?_update_other _ _ (Ne.symm hb)).trans q) ⟨_, e⟩ ?_
 exact ⟨hz, its', n', r, e⟩
def xv5 : V -> V -> V -> Hp -> (Hp -> Prop) -> Prop := fun o i v H Q => ∃ p xs k j, o = .ref p /\ i = .int k /\ H p = some (.lst xs) /\ ixN xs.length k = some j /\ Q (upd H p (.lst (xs.set j v)))
theorem xv6 : yn3 X xv5 := by
 intro pins s σ H o i v ov iv u Q I ro ri rv h
 obtain ⟨p, xs, k, j, rfl, rfl, hp, hj, q⟩ := h
 cases ro
 obtain ⟨t, rfl⟩ := ri
 obtain ⟨its, n, r, ho, hz⟩ := I.lst hp
 obtain ⟨h1, h2, h3, h4⟩ := xl9 hj
 have hl := r.length
 have hn := qx6
 have I' : Inv X pins σ (upd H p (.lst (xs.set j v))) { s with heap := s.heap.update p (Obj.mapSeq (·.setIfInBounds j u)) } :=
  I.lstUpd hp ho (xh3 its n j u) (r.set rv j) (by rw [List.length_set]; exact hz) s.toks
 by_cases h0 : 0 <= k
 ·have hk : k.toNat = j := by
   rw [seqIndex_of h0 h4] at h1
   exact Option.some.inj h1
  exact PySem.W.ki_setAt ho h0 (by omega) (by rw [List.size_toArray, <- hl]; exact h4) (by rw [hk]; exact ⟨_, I', q⟩)
 ·have hk : (k + (its.toArray.size : Int)).toNat = j := by
   rw [seqIndex_neg (by omega) h3] at h1
   rw [List.size_toArray, <- hl]
   exact Option.some.inj h1
  exact PySem.W.ki_setBack ho (by omega) (by rw [List.size_toArray, <- hl]; exact h3) (by omega) (by rw [hk]; exact ⟨_, I', q⟩)
theorem qh0 (lo hi : Option Int) (n : Nat) : (sliceBounds lo hi none n).1 = ((HT.sIx n 0 lo : Nat) : Int) /\ (sliceBounds lo hi none n).2.1 = ((HT.sIx n n hi : Nat) : Int) /\ (sliceBounds lo hi none n).2.2 = 1 := by
 refine ⟨?_, ?_, rfl⟩
 ·cases lo with
  | none => simp [sliceBounds, HT.sIx]
  | some i =>
    simp only [sliceBounds, HT.sIx, Option.getD_none, show (1 : Int) > 0 by decide, if_true]
    by_cases h : i < 0
    ·simp only [h, if_true] <;> omega
    ·simp only [h, if_false] <;> omega
 ·cases hi with
  | none => simp [sliceBounds, HT.sIx]
  | some i =>
    simp only [sliceBounds, HT.sIx, Option.getD_none, show (1 : Int) > 0 by decide, if_true]
    by_cases h : i < 0
    ·simp only [h, if_true] <;> omega
    ·simp only [h, if_false] <;> omega
theorem wn7 (its : List Value) (lo hi : Option Int) : slicePick its.toArray lo hi none = ((its.drop (HT.sIx its.length 0 lo)).take (HT.sIx its.length its.length hi - HT.sIx its.length 0 lo)).toArray := by
 obtain ⟨h1, h2, h3⟩ := qh0 lo hi its.toArray.size
 unfold slicePick
 rw [h1, h2, h3]
 simp only [sliceRange_one, pick_run, List.size_toArray] <;> rfl
def yw0 (K : Fg) : V -> Option Int -> Option Int -> Hp -> VK -> Prop := fun x lo hi H Q => ∃ a xs, x = .ref a /\ SqL K H a xs /\ ∀ p, H p = none -> Q (.ref p) (upd H p (.lst (qg9 xs lo hi)))
theorem ye8 : SlR X (yw0 X.K) := by
 intro pins s σ H x v vl vu lo hi sl Q I rx hs pl pu h
 obtain ⟨a, xs, rfl, hx, q⟩ := h
 cases rx
 obtain ⟨its, r, ht, hz⟩ := I.list hx
 have hlen := r.length
 refine ⟨"list", _, slot_list_getitem.lookup, ht.isList.typeIs, ?_⟩
 refine wpAny_getItem_list_slice ht.isList hs pl pu .none (by simp) ?_ (by rw [List.size_toArray] <;> omega)
 rw [wn7, <- hlen]
 refine ⟨.ref s.heap.objs.size, _, I.laid (t' := s.toks) (o := .lst (qg9 xs lo hi)) (fun b ob q => Heap.get?_push_of_some _ q) (Nat.le_refl _) ?_, rfl, q _ (I.hok.fresh (Nat.le_refl _))⟩
 exact ⟨Nat.le_trans (wb5 xs lo hi) hz, _, 0, (r.drop (HT.sIx xs.length 0 lo)).take (HT.sIx xs.length xs.length hi - HT.sIx xs.length 0 lo), Heap.get?_push_size _ rfl⟩
noncomputable def qc4 : V -> Bool
 | .non => true
 | .bl _ => true
 | .int _ => true
 | .str _ => true
 | _ => false
noncomputable def eqV : V -> V -> Bool
 | .non, .non => true
 | .bl a, .bl b => a == b
 | .bl a, .int b => (if a then 1 else 0) == b
 | .int a, .bl b => a == (if b then 1 else 0)
 | .int a, .int b => a == b
 | .str a, .str b => a == b
 | _, _ => false
theorem yo4 {A : Around} {s : Shared} {y x : V} {u v : Value} (ry : G8 y u) (rx : G8 x v) (fy : qc4 y = true) (fx : qc4 x = true) : SeqAt.EqAt A s u v (eqV y x) := by
 cases y with
 | non =>
   cases ry
   cases x with
   | non => cases rx; exact SeqAt.EqAt.same _
   | bl b => cases rx; exact SeqAt.EqAt.none_bool b
   | int b => obtain ⟨t, rfl⟩ := rx; exact SeqAt.EqAt.none_int b t
   | str b => obtain ⟨t, rfl⟩ := rx; exact SeqAt.EqAt.none_str b t
   | _ => exact absurd (show false = true from fx) Bool.false_ne_true
 | bl a =>
   cases ry
   cases x with
   | non => cases rx; exact SeqAt.EqAt.bool_none a
   | bl b => cases rx; exact SeqAt.EqAt.bool_bool a b
   | int b => obtain ⟨t, rfl⟩ := rx; exact SeqAt.EqAt.bool_int a b t
   | str b => obtain ⟨t, rfl⟩ := rx; exact SeqAt.EqAt.bool_str a b t
   | _ => exact absurd (show false = true from fx) Bool.false_ne_true
 | int a =>
   obtain ⟨t', rfl⟩ := ry
   cases x with
   | non => cases rx; exact SeqAt.EqAt.int_none a t'
   | bl b => cases rx; exact SeqAt.EqAt.int_bool a t' b
   | int b => obtain ⟨t, rfl⟩ := rx; exact SeqAt.EqAt.int_int a t' b t
   | str b => obtain ⟨t, rfl⟩ := rx; exact SeqAt.EqAt.int_str a t' b t
   | _ => exact absurd (show false = true from fx) Bool.false_ne_true
 | str a =>
   obtain ⟨t', rfl⟩ := ry
   cases x with
   | non => cases rx; exact SeqAt.EqAt.str_none a t'
   | bl b => cases rx; exact SeqAt.EqAt.str_bool a t' b
   | int b => obtain ⟨t, rfl⟩ := rx; exact SeqAt.EqAt.str_int a t' b t
   | str b => obtain ⟨t, rfl⟩ := rx; exact SeqAt.EqAt.str_str a t' b t
   | _ => exact absurd (show false = true from fx) Bool.false_ne_true
 | _ => exact absurd (show false = true from fy) Bool.false_ne_true
noncomputable def eqU (x : V) (u : Value) : Bool := match u with
 | .none => eqV .non x
 | .bool b => eqV (.bl b) x
 | .int i _ => eqV (.int i) x
 | .str z _ => eqV (.str z) x
 | _ => false
theorem xv7 {x y : V} {u : Value} (r : G8 y u) (f : qc4 y = true) : eqU x u = eqV y x := by
 cases y with
 | non => cases r; rfl
 | bl b => cases r; rfl
 | int i => obtain ⟨t, rfl⟩ := r; rfl
 | str z => obtain ⟨t, rfl⟩ := r; rfl
 | _ => exact absurd (show false = true from f) Bool.false_ne_true
theorem qs4 {x : V} : ∀ {xs : List V} {us : List Value}, G4 xs us -> xs.all qc4 = true -> us.any (eqU x) = xs.any fun y => eqV y x
 | _, _, .nil, _ => rfl
 | y :: xs, u :: us, .cons r t, f => by
   rw [List.all_cons, Bool.and_eq_true] at f
   rw [List.any_cons, List.any_cons, xv7 r f.1, qs4 t f.2]
theorem qk8 {A : Around} {s : Shared} {x : V} {v : Value} (rx : G8 x v) (fx : qc4 x = true) : ∀ {xs : List V} {us : List Value}, G4 xs us -> xs.all qc4 = true -> ∀ u ∈ us, SeqAt.EqAt A s u v (eqU x u)
 | _, _, .nil, _ => fun u hu => by cases hu
 | y :: xs, u :: us, .cons r t, f => fun u' hu => by
   rw [List.all_cons, Bool.and_eq_true] at f
   rcases List.mem_cons.mp hu with rfl | hu
   ·rw [xv7 r f.1]; exact yo4 r rx f.1 fx
   ·exact qk8 rx fx t f.2 u' hu
noncomputable def inV (x : V) (xs : List V) : Bool := xs.any fun y => eqV y x
def rIn (K : Fg) (neg : Bool) : R2 := fun x y H Q => ∃ p xs, y = .ref p /\ (SqL K H p xs \/ SqT K H p xs) /\ qc4 x = true /\ xs.all qc4 = true /\ Q (.bl (if neg then !inV x xs else inV x xs)) H
theorem xq8 : OpR X (compareOp .In) (rIn X.K false) := by
 intro pins s σ H x y v u Q I rx ry h
 obtain ⟨p, xs, rfl, hq, fx, fs, q⟩ := h
 cases ry
 rcases hq with hq | hq
 ·obtain ⟨its, r, pl, hz⟩ := I.list hq
  refine SeqAt.in_listAt (eqU x) pl.isList (fun w hw => qk8 rx fx r fs w (by simpa using hw)) ⟨.bl _, H, I, rfl, ?_⟩
  rw [show its.toArray.any (eqU x) = its.any (eqU x) by simp, qs4 r fs]
  exact q
 ·obtain ⟨its, r, pl, hz⟩ := I.tuple hq
  refine SeqAt.in_tupleAt (eqU x) pl (fun w hw => qk8 rx fx r fs w (by simpa using hw)) ⟨.bl _, H, I, rfl, ?_⟩
  rw [show its.toArray.any (eqU x) = its.any (eqU x) by simp, qs4 r fs]
  exact q
theorem wv9 : OpR X (compareOp .NotIn) (rIn X.K true) := by
 intro pins s σ H x y v u Q I rx ry h
 obtain ⟨p, xs, rfl, hq, fx, fs, q⟩ := h
 cases ry
 rcases hq with hq | hq
 ·obtain ⟨its, r, pl, hz⟩ := I.list hq
  refine SeqAt.notIn_listAt (eqU x) pl.isList (fun w hw => qk8 rx fx r fs w (by simpa using hw)) ⟨.bl _, H, I, rfl, ?_⟩
  rw [show its.toArray.any (eqU x) = its.any (eqU x) by simp, qs4 r fs]
  exact q
 ·obtain ⟨its, r, pl, hz⟩ := I.tuple hq
  refine SeqAt.notIn_tupleAt (eqU x) pl (fun w hw => qk8 rx fx r fs w (by simpa using hw)) ⟨.bl _, H, I, rfl, ?_⟩
  rw [show its.toArray.any (eqU x) = its.any (eqU x) by simp, qs4 r fs]
  exact q
theorem ww0 : OpR X (compareOp .NotIn) (fun x y H Q => ∃ i j, x = .str i /\ y = .str j /\ Q (.bl (!(!(Builtin.Str.occurrences j i 0 j.length 1).isEmpty))) H) := by
 intro pins s σ H x y v u Q I rx ry h
 obtain ⟨i, j, rfl, rfl, q⟩ := h
 obtain ⟨t, rfl⟩ := rx
 obtain ⟨t', rfl⟩ := ry
 exact notIn_str ⟨.bl _, H, I, rfl, q⟩
theorem ww1 : Q9 X (.builtin "len") (fun xs H Q => ∃ p ys, xs = [.ref p] /\ (SqL X.K H p ys \/ SqT X.K H p ys) /\ Q (.int ys.length) H) := by
 intro pins s σ H xs us Q I r h
 obtain ⟨p, ys, rfl, hq, q⟩ := h
 obtain ⟨u, rfl, rx⟩ := qf3 r
 cases rx
 have hn := qx6
 rcases hq with hq | hq
 ·obtain ⟨its, r', pl, hz⟩ := I.list hq
  have hlen := r'.length
  exact Calls.call_len_list pl.isList (by simp only [List.size_toArray] <;> omega) ⟨.int ys.length, H, I.tok _, ⟨s.toks + 1, by rw [List.size_toArray, hlen]⟩, q⟩
 ·obtain ⟨its, r', pl, hz⟩ := I.tuple hq
  have hlen := r'.length
  exact len_tuple pl (by simp only [List.size_toArray] <;> omega) ⟨.int ys.length, H, I.tok _, ⟨s.toks + 1, by rw [List.size_toArray, hlen]⟩, q⟩
theorem ww2 : Q9 X (.builtin "len") (fun xs H Q => ∃ z, xs = [.str z] /\ z.length <= sizeLine /\ Q (.int z.length) H) := by
 intro pins s σ H xs us Q I r h
 obtain ⟨z, rfl, hz, q⟩ := h
 obtain ⟨u, rfl, t, rfl⟩ := qf3 r
 have hn := qx6
 exact len_str (by omega) ⟨.int z.length, H, I.tok _, ⟨_, rfl⟩, q⟩
theorem Q9.or {f : Value} {r r' : List V -> Hp -> VK -> Prop} (h : Q9 X f r) (h' : Q9 X f r') : Q9 X f (fun xs H Q => r xs H Q \/ r' xs H Q) := by
 intro pins s σ H xs us Q I rs q
 rcases q with q | q
 ·exact h pins s σ H xs us Q I rs q
 ·exact h' pins s σ H xs us Q I rs q
theorem ww3 : Q9 X (.type "list") (fun xs H Q => ∃ p ys, xs = [.ref p] /\ (SqL X.K H p ys \/ SqT X.K H p ys) /\ ∀ l, H l = none -> Q (.ref l) (upd H l (.lst ys))) := by
 intro pins s σ H xs us Q I r h
 obtain ⟨p, ys, rfl, hq, q⟩ := h
 obtain ⟨u, rfl, rx⟩ := qf3 r
 cases rx
 have fin : ∀ (its : List Value), G4 ys its -> ys.length <= sizeLine -> ∀ (h' : Heap) (c' : Nat), (∀ b o', s.heap.get? b = some o' -> h'.get? b = some o') ->
  h'.get? s.heap.objs.size = some { cls := .type "list", dict := none, data := .seq its.toArray c', slots := #[] } -> EP X pins σ Q (.ref s.heap.objs.size) { s with heap := h' } := fun its r' hz h' c' kp e =>
  ⟨.ref s.heap.objs.size, _, I.laid (t' := s.toks) kp (Nat.le_refl _) (show M9 X.prog X.w _ h' _ (.lst ys) from ⟨hz, its, c', r', e⟩), rfl, q _ (I.hok.fresh (Nat.le_refl _))⟩
 rcases hq with hq | hq
 ·obtain ⟨its, r', pl, hz⟩ := I.list hq
  have hlen := r'.length
  obtain ⟨o, ho, hc, n, hd⟩ := pl.isList
  exact call_list_seq p (.inl rfl) ho hc hd (fun h' c' kp e => fin its r' hz h' c' kp e) (by simp only [List.size_toArray] <;> omega)
 ·obtain ⟨its, r', pl, hz⟩ := I.tuple hq
  have hlen := r'.length
  obtain ⟨o, ho, hc, n, hd⟩ := pl
  exact call_list_seq p (.inr rfl) ho hc hd (fun h' c' kp e => fin its r' hz h' c' kp e) (by simp only [List.size_toArray] <;> omega)
theorem wn8 : Q9 X (.type "tuple") (fun xs H Q => ∃ p ys, xs = [.ref p] /\ ((SqL X.K H p ys /\ ∀ l, H l = none -> Q (.ref l) (upd H l (.tup ys))) \/ (SqT X.K H p ys /\ Q (.ref p) H))) := by
 intro pins s σ H xs us Q I r h
 obtain ⟨p, ys, rfl, h⟩ := h
 obtain ⟨u, rfl, rx⟩ := qf3 r
 cases rx
 rcases h with ⟨hq, q⟩ | ⟨hq, q⟩
 ·obtain ⟨its, r', pl, hz⟩ := I.list hq
  have hlen := r'.length
  refine call_tuple_list pl.isList (fun h' kp => ?_) (by simp only [List.size_toArray] <;> omega)
  have I1 : Inv X pins σ H { s with heap := h' } := I.kept (t' := s.toks) kp
  have I2 : Inv X pins σ (upd H h'.objs.size (.tup ys)) { s with heap := h'.push { cls := .type "tuple", data := .seq its.toArray } } :=
   I1.laid (t' := s.toks) (fun b o e => Heap.get?_push_of_some _ e) (Nat.le_refl _) (show M9 X.prog X.w _ _ _ (.tup ys) from ⟨hz, its, r', IsTup.new _ _⟩)
  exact ⟨.ref h'.objs.size, _, I2, rfl, q _ (I1.hok.fresh (Nat.le_refl _))⟩
 ·obtain ⟨its, r', pl, hz⟩ := I.tuple hq
  exact call_tuple_same pl ⟨.ref p, H, I, rfl, q⟩
def tyV (K : Fg) (T : String) (x : V) (H : Hp) : Prop := match x with
 | .str _ => T = "str"
 | .int _ => T = "int"
 | .ref p => (T = "list" /\ ∃ xs, SqL K H p xs) \/ (T = "tuple" /\ ∃ o, K.lookup p = some o /\ o.cls = .type "tuple" /\ o.dict = none) \/
  (T = "dict" /\ ((∃ kvs, H p = some (.dK kvs)) \/ ∃ kvs, H p = some (.dT kvs))) \/ (T = "set" /\ ∃ S n, H p = some (.set S n))
 | _ => False
theorem xv8 {pins : List (Addr × Obj)} {σ : St} {H : Hp} {s : Shared} {T : String} {x : V} {v : Value} (I : Inv X pins σ H s) (r : G8 x v) (ty : tyV X.K T x H) :
 s.TypeIs v T /\ ∀ a, v = .ref a -> ∃ ob, s.heap.get? a = some ob /\ ob.dict = none := by
 cases x with
 | str z =>
   obtain ⟨t, rfl⟩ := r
   cases (show T = "str" from ty)
   exact ⟨typeIs_str s z t, fun _ e => nomatch e⟩
 | int i =>
   obtain ⟨t, rfl⟩ := r
   cases (show T = "int" from ty)
   exact ⟨typeIs_int s i t, fun _ e => nomatch e⟩
 | ref p =>
   cases r
   rcases ty with ⟨rfl, xs, hq⟩ | ⟨rfl, o, hk, hc, hd⟩ | ⟨rfl, hk⟩ | ⟨rfl, S, n, hk⟩
   ·obtain ⟨its, _, pl, _⟩ := I.list hq
    refine ⟨pl.isList.typeIs, fun a e => ?_⟩
    cases e
    obtain ⟨o, n, e, c, hd, _⟩ := pl
    exact ⟨o, e, hd⟩
   ·refine ⟨⟨o, I.kIn p o hk, hc⟩, fun a e => ?_⟩
    cases e
    exact ⟨o, I.kIn _ o hk, hd⟩
   ·have z : ∃ o, s.heap.get? p = some o /\ o.ExactDict := by
     rcases hk with ⟨kvs, hk⟩ | ⟨kvs, hk⟩
     ·obtain ⟨_, _, _, _, o, _, _, e, ex, _⟩ := I.hok p _ hk
      exact ⟨o, e, ex⟩
     ·obtain ⟨_, _, _, _, o, _, _, e, ex, _⟩ := I.hok p _ hk
      exact ⟨o, e, ex⟩
    obtain ⟨o, e, ex⟩ := z
    refine ⟨⟨o, e, ex.1⟩, fun a e2 => ?_⟩
    cases e2
    exact ⟨o, e, ex.2.1⟩
   ·obtain ⟨o, _, _, _, e, ex, _⟩ := I.hok p _ hk
    refine ⟨⟨o, e, ex.1⟩, fun a e2 => ?_⟩
    cases e2
    exact ⟨o, e, ex.2.1⟩
 | _ => exact False.elim ty
def tBM (K : Fg) (T : String) (r : V -> List V -> Hp -> VK -> Prop) (to : TE) (t : TA) : TE := fun σ H Q => to σ H fun x H1 => tyV K T x H1 /\ t σ H1 fun xs H2 => r x xs H2 Q
variable {o e : Expr} {es : List Expr} {to : TE} {t : TA} {name : Str} {apos cpos : Pos} {T id : String} {r : V -> List V -> Hp -> VK -> Prop}
theorem R5 (pa : PlainAttrs T) (slot : Slot T name id) (hty : typeOf (.builtin id) = pure (.type "method_descriptor")) (hm : MtR X id r) (ho : PE X o to) (ha : PA X (e :: es) t)
 (hbase : autoParam (attributeBase o name X.env (eval o X.env) = eval o X.env) zAr)
 (hfew : ((backTo cpos (starEach (e :: es) X.env)).all (fun x => !x.1) && (backToKw cpos (keywordEach [] X.env)).all (fun x => x.1.isSome)
  && decide ((e :: es).length + ([] : List Keyword).length + (if ([] : List Keyword).isEmpty then 0 else 1) < 30)) = true := by rfl)
 (hline : autoParam ((apos.endLine == cpos.line) = true) zAr) (hs : autoParam (starEach (e :: es) X.env = (false, eval e X.env) :: starEach es X.env) zAr) (hplain : autoParam ((backTo cpos (starEach es X.env)).any (·.1) = false) zAr) :
 PE X (.Call (.Attribute o name apos) (e :: es) [] cpos) (tBM X.K T r to t) := by
 intro pins s σ H Q I h
 refine wpAny_Call_method_late hbase hfew hline rfl (thn (ho pins s σ H _ I h) fun v s1 zq => ?_)
 obtain ⟨x, H1, I1, r1, ty, q1⟩ := zq
 obtain ⟨h1, h2⟩ := xv8 I1 r1 ty
 refine ⟨T, id, pa, slot, hty, h1, h2, ?_⟩
 have hA := ha cpos pins s1 σ H1 _ I1 q1
 rw [hs] at hA ⊢
 refine Calls.callWith_builtin (by show (false || (backTo cpos (starEach es X.env)).any (·.1)) = false; rw [hplain] <;> rfl) (Calls.evalArgs_plain ?_)
 exact thn hA fun us s2 ⟨vs, H2, I2, r2, q2⟩ => hm pins s2 σ H2 x vs v us Q I2 r1 r2 q2
end
end L2
namespace L2
open PySem PySem.Spec PyProof.Rows
def MtM (X : Cx) (id : String) (r : V -> List V -> Hp -> VK -> Prop) : Prop :=
 ∀ (pins : List (Addr × Obj)) (s : Shared) (σ : St) (H : Hp) (x : V) (xs : List V) (v : Value) (us : List Value) (Q : VK), Inv X pins σ H s -> G8 x v -> G4 xs us -> r x xs H Q ->
  wpAny (model X.prog X.w) X.A (call (.builtin id) (v :: us)) (EP X pins σ Q) X.xe s
theorem G4.one {x : V} {us : List Value} (r : G4 [x] us) : ∃ u, us = [u] /\ G8 x u := qf3 r
theorem G4.two {x y : V} {us : List Value} (r : G4 [x, y] us) : ∃ u v, us = [u, v] /\ G8 x u /\ G8 y v := xb9 r
theorem G4.rep {xs : List V} {us : List Value} (h : G4 xs us) : ∀ k : Nat, G4 (List.replicate k xs).flatten (List.replicate k us).flatten
 | 0 => .nil
 | k + 1 => by
   rw [List.replicate_succ, List.replicate_succ, List.flatten_cons, List.flatten_cons]
   exact G4.append h (G4.rep h k)
theorem wt2 (its : List Value) : ∀ (k : Nat) (acc : List Value),
 List.foldl (fun x1 x2 => x1 ++ x2) acc.toArray (List.replicate k its.toArray) = (acc ++ (List.replicate k its).flatten).toArray
 | 0, acc => by simp
 | k + 1, acc => by
   have e : acc.toArray ++ its.toArray = (acc ++ its).toArray := by simp
   have e2 : (acc ++ its) ++ (List.replicate k its).flatten = acc ++ (List.replicate (k + 1) its).flatten := by
    rw [List.replicate_succ, List.flatten_cons, List.append_assoc]
   rw [<- e2, <- wt2 its k (acc ++ its), <- e, List.replicate_succ, List.foldl_cons]
section
variable {X : Cx} {pins : List (Addr × Obj)} {σ : St} {H : Hp} {s : Shared} {l b : Addr} {xs ys zs : List V}
theorem Inv.lset {its its' : List Value} {n : Nat} {f : Array Value -> Array Value} {t' : Nat} (I : Inv X pins σ H s) (hH : H l = some (.lst xs))
 (e : s.heap.get? l = some { cls := .type "list", data := .seq its.toArray n }) (hf : f its.toArray = its'.toArray) (hv : G4 ys its') (hz : ys.length <= sizeLine) (ht : autoParam (0 < t') zAt) :
 Inv X pins σ (upd H l (.lst ys)) { s with heap := s.heap.update l (Obj.mapSeq f), toks := t' } := by
 have q := PySem.IsL.update e f
 rw [hf] at q
 refine I.write (x := l) (e := l) (by rw [hH]; exact trivial) (.inl rfl) (fun b' u hb hu => (Heap.get?_update_other s.heap (Obj.mapSeq f) (Ne.symm hb)).trans hu) ⟨_, q⟩ ?_
 exact ⟨hz, its', _, hv, q⟩
theorem Inv.lnew {its : List Value} {t' : Nat} (I : Inv X pins σ H s) (hv : G4 ys its) (hz : ys.length <= sizeLine) (ht : autoParam (0 < t') zAt) :
 Inv X pins σ (upd H s.heap.objs.size (.lst ys)) { s with heap := s.heap.push { cls := .type "list", data := .seq its.toArray }, toks := t' } :=
 I.laid (fun _ _ q => Heap.get?_push_of_some _ q) (Nat.le_refl _) ⟨hz, its, 0, hv, Heap.get?_push_size _ rfl⟩
theorem Inv.fresh (I : Inv X pins σ H s) : H s.heap.objs.size = none := I.hok.fresh (Nat.le_refl _)
theorem Inv.lstM (I : Inv X pins σ H s) (hH : H l = some (.lst xs)) : xs.length <= sizeLine /\ ∃ (its : List Value) (n : Nat), G4 xs its /\ xs.length = its.length /\ s.heap.get? l = some { cls := .type "list", data := .seq its.toArray n } := by
 obtain ⟨z, its, n, r, e⟩ := I.hok l _ hH
 exact ⟨z, its, n, r, r.length, e⟩
theorem xv9 {n : Nat} (h : n <= sizeLine) : Builtin.List.listTooLong n = false := by
 unfold Builtin.List.listTooLong
 exact decide_eq_false (by omega)
end
section
variable {X : Cx}
def W0 : V -> List V -> Hp -> VK -> Prop := fun x vs H Q => ∃ l xs y, x = .ref l /\ vs = [y] /\ H l = some (.lst xs) /\ xs.length < sizeLine /\ Q .non (upd H l (.lst (xs ++ [y])))
theorem qa4 : MtM X "list.append" W0 := by
 intro pins s σ H x vs v us Q I rx rv h
 obtain ⟨l, xs, y, rfl, rfl, hH, hz, q⟩ := h
 cases rx
 obtain ⟨u, rfl, ru⟩ := rv.one
 obtain ⟨z, its, n, r, hl, e⟩ := I.lstM hH
 refine call_meets F.slot_list_append ⟨_, e, rfl⟩ F.entry_list_append (F.args_list_append_2 _ _) (PySem.list_append l its.toArray n u (by rw [List.size_toArray]; omega)) ⟨e, ?_⟩
 refine ⟨.non, _, I.lset (its' := its ++ [u]) hH e (by simp) (r.append (.cons ru .nil)) ?_, rfl, q⟩
 rw [List.length_append, List.length_singleton]
 omega
def yw1 : R2 := fun x y H Q => ∃ l b xs zs, x = .ref l /\ y = .ref b /\ H l = some (.lst xs) /\ H b = some (.lst zs) /\ xs.length + zs.length <= sizeLine /\ ∀ p, H p = none -> Q (.ref p) (upd H p (.lst (xs ++ zs)))
theorem yo5 : OpR X (binaryOp .Add) yw1 := by
 intro pins s σ H x y v u Q I rx ry h
 obtain ⟨l, b, xs, zs, rfl, rfl, hH, hB, hz, q⟩ := h
 cases rx
 cases ry
 obtain ⟨z, its, n, r, hl, e⟩ := I.lstM hH
 obtain ⟨z2, its2, n2, r2, hl2, e2⟩ := I.lstM hB
 refine PySem.P.add_list e e2 ?_ (by rw [List.size_toArray, List.size_toArray]; omega)
 have ea : its.toArray ++ its2.toArray = (its ++ its2).toArray := by simp
 rw [ea]
 exact ⟨.ref _, _, I.lnew (t' := s.toks) (r.append r2) (by rw [List.length_append]; omega), rfl, q _ I.fresh⟩
def yw2 : R2 := fun x y H Q => ∃ l k xs, x = .ref l /\ y = .int k /\ H l = some (.lst xs) /\ -(2 ^ 63) <= k /\ k < 2 ^ 63 /\ xs.length * k.toNat <= sizeLine /\
 ∀ p, H p = none -> Q (.ref p) (upd H p (.lst (List.replicate k.toNat xs).flatten))
theorem ye9 {α : Type} (xs : List α) (k : Nat) : (List.replicate k xs).flatten.length = k * xs.length := by
 induction k with
 | zero => simp
 | succ k ih => rw [List.replicate_succ, List.flatten_cons, List.length_append, ih, Nat.succ_mul, Nat.add_comm]
theorem yo6 : OpR X (binaryOp .Mult) yw2 := by
 intro pins s σ H x y v u Q I rx ry h
 obtain ⟨l, k, xs, rfl, rfl, hH, h1, h2, hz, q⟩ := h
 cases rx
 obtain ⟨t, rfl⟩ := ry
 obtain ⟨z, its, n, r, hl, e⟩ := I.lstM hH
 have hlen : its.toArray.size * k.toNat <= sizeLine := by rw [List.size_toArray, <- hl]; exact hz
 have hcap : ¬ its.toArray.size * k.toNat > (2 ^ 63 - 1) / 8 := by
  have : (sizeLine : Nat) <= (2 ^ 63 - 1) / 8 := by decide
  omega
 have hfit : ¬ (!Builtin.List.listFitsIndex k) = true := by
  rw [fitsIndex_both h1 h2]
  exact Bool.false_ne_true
 have hlong : ¬ Builtin.List.listTooLong (its.toArray.size * k.toNat) = true := by
  rw [xv9 hlen]
  exact Bool.false_ne_true
 have hnew : List.foldl (fun x1 x2 => x1 ++ x2) #[] (List.replicate (if its.toArray.isEmpty = true then 0 else k.toNat) its.toArray) = (List.replicate k.toNat its).flatten.toArray := by
  have f0 : ∀ m : Nat, List.foldl (fun x1 x2 => x1 ++ x2) #[] (List.replicate m its.toArray) = (List.replicate m its).flatten.toArray := fun m => by
   have := wt2 its m []
   rw [List.nil_append] at this
   exact this
  rw [f0]
  cases its with
  | nil => simp
  | cons a r' => rw [if_neg (by simp)]
 refine wpAny_binaryOp_repeat_ref (T := "list") (U := "int") (by decide) ⟨_, e, rfl⟩ (fun s' => typeIs_int s' k t) noFill_list_mul F.fills_int_mul F.slot_int_rmul repeat_list F.slot_int_index.lookup
  (call_meets F.slot_int_rmul (typeIs_int s k t) F.entry_int_rmul (F.args_int_rmul_2 _ _) (int___rmul___int_list k t l its.toArray n)
   ⟨e, rfl, ⟨_, e, rfl⟩, call_meets F.slot_list_mul ⟨_, e, rfl⟩ F.entry_list_mul (F.args_list_mul_2 _ _) (AutoListH.list___mul___list_int_3 l its.toArray n k t hfit hcap hlong) ⟨e, ?_⟩⟩)
 rw [hnew]
 exact ⟨.ref _, _, I.lnew (t' := s.toks) (r.rep k.toNat) (by rw [ye9, Nat.mul_comm]; exact hz), rfl, q _ I.fresh⟩
end
end L2
namespace L2
open PySem PySem.Spec PyProof.Rows
section
variable {κ : Type} [DecidableEq κ]
noncomputable def wn9 (kvs : List (κ × V)) (k : κ) : Option V := (kvs.find? fun kv => decide (kv.1 = k)).map (·.2)
noncomputable def qf5 (kvs : List (κ × V)) (k : κ) (v : V) : List (κ × V) :=
 if (kvs.any fun kv => decide (kv.1 = k)) = true then kvs.map (fun kv => if kv.1 = k then (kv.1, v) else kv) else kvs ++ [(k, v)]
theorem wf5 {p : κ × V} {r : List (κ × V)} {k : κ} (e : p.1 = k) : wn9 (p :: r) k = some p.2 := by simp [wn9, List.find?_cons, e]
theorem wf6 {p : κ × V} {r : List (κ × V)} {k : κ} (e : ¬ p.1 = k) : wn9 (p :: r) k = wn9 r k := by simp [wn9, List.find?_cons, e]
theorem xc1 (k : κ) : ∀ kvs : List (κ × V), (kvs.any fun kv => decide (kv.1 = k)) = (wn9 kvs k).isSome
 | [] => rfl
 | p :: r => by
   rw [List.any_cons]
   by_cases e : p.1 = k
   ·simp only [wf5 e, decide_eq_true e, Bool.true_or, Option.isSome_some]
   ·rw [wf6 e, decide_eq_false e, Bool.false_or]; exact xc1 k r
theorem qc5 (kvs : List (κ × V)) (k : κ) (v : V) : (qf5 kvs k v).length <= kvs.length + 1 := by
 unfold qf5
 split
 ·rw [List.length_map]; omega
 ·rw [List.length_append, List.length_cons, List.length_nil]; omega
theorem we7.isSome_eq {o : Option V} {u : Option Value} (r : we7 o u) : o.isSome = u.isSome := by
 cases o with
 | none => cases u with
   | none => rfl
   | some _ => exact (show False from r).elim
 | some _ => cases u with
   | none => exact (show False from r).elim
   | some _ => rfl
theorem KV.val {kvs : List (κ × V)} {vs : List (κ × Value)} (r : KV kvs vs) (k : κ) : we7 (wn9 kvs k) (valueAt vs k) := by
 unfold KV at r
 induction r with
 | nil => exact True.intro
 | @cons p q ps qs h t ih =>
   obtain ⟨h1, h2⟩ := h
   by_cases e : p.1 = k
   ·have e' : q.1 = k := h1.symm.trans e
    have b : valueAt (q :: qs) k = some q.2 := by simp [valueAt, List.find?_cons, e']
    rw [wf5 e, b]; exact h2
   ·have e' : ¬ q.1 = k := fun z => e (h1.trans z)
    have b : valueAt (q :: qs) k = valueAt qs k := by simp [valueAt, List.find?_cons, e']
    rw [wf6 e, b]; exact ih
theorem KV.any {kvs : List (κ × V)} {vs : List (κ × Value)} (r : KV kvs vs) (k : κ) : (kvs.any fun kv => decide (kv.1 = k)) = vs.any fun kv => decide (kv.1 = k) := by
 unfold KV at r
 induction r with
 | nil => rfl
 | cons h t ih => rw [List.any_cons, List.any_cons, ih, h.1]
theorem KV.repl {kvs : List (κ × V)} {vs : List (κ × Value)} (r : KV kvs vs) (k : κ) {y : V} {u : Value} (ry : G8 y u) :
 KV (kvs.map fun kv => if kv.1 = k then (kv.1, y) else kv) (vs.map fun kv => if kv.1 = k then (kv.1, u) else kv) := by
 unfold KV at r ⊢
 induction r with
 | nil => exact .nil
 | @cons p q ps qs h t ih =>
   rw [List.map_cons, List.map_cons]
   refine .cons ?_ ih
   obtain ⟨h1, h2⟩ := h
   by_cases e : p.1 = k
   ·rw [if_pos e, if_pos (h1.symm.trans e)]; exact ⟨h1, ry⟩
   ·rw [if_neg e, if_neg (fun z => e (h1.trans z))]; exact ⟨h1, h2⟩
theorem KV.put {kvs : List (κ × V)} {vs : List (κ × Value)} (r : KV kvs vs) (k : κ) {y : V} {u : Value} (ry : G8 y u) : KV (qf5 kvs k y) (stored vs k u) := by
 unfold qf5 stored
 rw [r.any k]
 by_cases e : (vs.any fun kv => decide (kv.1 = k)) = true
 ·rw [if_pos e, if_pos e]; exact r.repl k ry
 ·rw [if_neg e, if_neg e]; exact Paired.snoc r ⟨rfl, ry⟩
theorem KV.keys {kvs : List (κ × V)} {vs : List (κ × Value)} (r : KV kvs vs) : kvs.map (·.1) = vs.map (·.1) := by
 unfold KV at r
 induction r with
 | nil => rfl
 | cons h t ih => rw [List.map_cons, List.map_cons, ih, h.1]
theorem KV.length {kvs : List (κ × V)} {vs : List (κ × Value)} (r : KV kvs vs) : kvs.length = vs.length := Paired.length r
end
theorem xc2 {P : Program} {w : World} {k : Key} {u : Value} (r : G8 (kV k) u) : (O1 P w).is k u = true := by
 cases k with
 | inl i => obtain ⟨t, e⟩ := (show ∃ t, u = Value.int i t from r); subst e; exact xb2 P w i t
 | inr x => obtain ⟨t, e⟩ := (show ∃ t, u = Value.str x t from r); subst e; exact xb3 P w x t
theorem wt3 {P : Program} {w : World} : ∀ {ks : List Key} {us : List Value}, G4 (ks.map kV) us -> ItemsAre (O1 P w) ks us
 | [], _, r => by rw [List.map_nil] at r; cases r; exact .nil
 | k :: ks, _, r => by
   rw [List.map_cons] at r
   cases r with
   | cons h t => exact .cons (xc2 h) (wt3 t)
abbrev KT (H : Hp) : List (List Key × V) -> List (List Key × Addr × Value) -> Prop := Paired fun p q => p.1 = q.1 /\ H q.2.1 = some (.tup (p.1.map kV)) /\ G8 p.2 q.2.2
theorem KT.val {H : Hp} {kvs : List (List Key × V)} {xs : List (List Key × Addr × Value)} (r : KT H kvs xs) (k : List Key) : we7 (wn9 kvs k) ((atKey xs k).map (·.2)) := by
 induction r with
 | nil => exact True.intro
 | @cons p q ps qs h t ih =>
   obtain ⟨h1, _, h2⟩ := h
   by_cases e : p.1 = k
   ·have e' : q.1 = k := h1.symm.trans e
    have b : atKey (q :: qs) k = some q.2 := by simp [atKey, List.find?_cons, e']
    rw [wf5 e, b]; exact h2
   ·have e' : ¬ q.1 = k := fun z => e (h1.trans z)
    have b : atKey (q :: qs) k = atKey qs k := by simp [atKey, List.find?_cons, e']
    rw [wf6 e, b]; exact ih
theorem KT.repl {H : Hp} {kvs : List (List Key × V)} {xs : List (List Key × Addr × Value)} (r : KT H kvs xs) (k : List Key) {y : V} {u : Value} (ry : G8 y u) :
 KT H (kvs.map fun kv => if kv.1 = k then (kv.1, y) else kv) (xs.map (putAt k u)) := by
 induction r with
 | nil => exact .nil
 | @cons p q ps qs h t ih =>
   rw [List.map_cons, List.map_cons]
   refine .cons ?_ ih
   obtain ⟨h1, h2, h3⟩ := h
   unfold putAt
   by_cases e : p.1 = k
   ·rw [if_pos e, if_pos (h1.symm.trans e)]; exact ⟨h1, h2, ry⟩
   ·rw [if_neg e, if_neg (fun z => e (h1.trans z))]; exact ⟨h1, h2, h3⟩
theorem KT.put {H : Hp} {kvs : List (List Key × V)} {xs : List (List Key × Addr × Value)} (r : KT H kvs xs) (k : List Key) {b : Addr} {y : V} {u : Value} (hb : H b = some (.tup (k.map kV))) (ry : G8 y u) :
 KT H (qf5 kvs k y) (storedH xs k b u) := by
 have e : (kvs.any fun kv => decide (kv.1 = k)) = (atKey xs k).isSome := by
  rw [xc1, (r.val k).isSome_eq, Option.isSome_map]
 unfold qf5 storedH
 rw [e]
 by_cases q : (atKey xs k).isSome = true
 ·rw [if_pos q, if_pos q]; exact r.repl k ry
 ·rw [if_neg q, if_neg q]; exact Paired.snoc r ⟨rfl, hb, ry⟩
theorem KT.keeps {H H' : Hp} {kvs : List (List Key × V)} {xs : List (List Key × Addr × Value)} (r : KT H kvs xs) (ht : ∀ b ys, H b = some (.tup ys) -> H' b = some (.tup ys)) : KT H' kvs xs :=
 Paired.mapP r fun _ _ z => ⟨z.1, ht _ _ z.2.1, z.2.2⟩
section
variable {P : Program} {w : World} {H : Hp} {h : Heap} {a : Addr}
theorem yl0 {u : HO} (ok : HOk P w H h) (e : Rd H a u) : M9 P w H h a u := e.ok ok
theorem xc3 {kvs : List (Key × V)} (ok : HOk P w H h) (e : Rd H a (.dK kvs)) : kvs.length <= sizeLine /\ (a == sysModules) = false /\ ∃ vs, KV kvs vs /\ h.DictOf (O1 P w) a vs :=
 show M9 P w H h a (.dK kvs) from yl0 ok e
theorem yl1 {kvs : List (Key × V)} (ok : HOk P w H h) (e : H a = some (.dK kvs)) : kvs.length <= sizeLine /\ (a == sysModules) = false /\ ∃ vs, KV kvs vs /\ h.DictOf (O1 P w) a vs := xc3 ok (.inl e)
theorem ww4 {ks : List Key} (ok : HOk P w H h) (e : H a = some (.tup (ks.map kV))) : (tupleKind (O1 P w)).is h ks a := by
 obtain ⟨_, its, r, o, h1, h2, n, h3⟩ := (show M9 P w H h a (.tup (ks.map kV)) from ok a _ e)
 exact ⟨o, its.toArray, n, h1, h2, h3, by simpa using wt3 r⟩
theorem xw0 {kvs : List (List Key × V)} (ok : HOk P w H h) (e : Rd H a (.dT kvs)) : kvs.length <= sizeLine /\ (a == sysModules) = false /\
 ∃ xs, KT H kvs xs /\ h.DictOfH (tupleKind (O1 P w)) a xs := by
 obtain ⟨z, y, xs, r, o, es, ep, h1, h2, h3, h4, h5⟩ := (show M9 P w H h a (.dT kvs) from yl0 ok e)
 refine ⟨z, y, xs, r, o, es, ep, h1, h2, h3, h4, fun x hx => ?_, h5⟩
 have all : ∀ {l : List (List Key × V)} {m : List (List Key × Addr × Value)}, KT H l m -> ∀ x ∈ m, (tupleKind (O1 P w)).is h x.1 x.2.1 := by
  intro l m q
  induction q with
  | nil => intro x hx; exact nomatch hx
  | @cons p q ps qs hq t ih =>
    intro x hx
    rcases List.mem_cons.mp hx with e | hx
    ·subst e
     exact ww4 ok (by rw [<- hq.1]; exact hq.2.1)
    ·exact ih x hx
 exact all r x hx
theorem yw3 {kvs : List (List Key × V)} (ok : HOk P w H h) (e : H a = some (.dT kvs)) : kvs.length <= sizeLine /\ (a == sysModules) = false /\
 ∃ xs, KT H kvs xs /\ h.DictOfH (tupleKind (O1 P w)) a xs := xw0 ok (.inl e)
end
def yo7 (H : Hp) (a : Addr) (y : V) (r : Option V) : Prop :=
 (∃ kvs k, Rd H a (.dK kvs) /\ y = kV k /\ r = wn9 kvs k) \/ ∃ kvs k b, Rd H a (.dT kvs) /\ y = .ref b /\ H b = some (.tup (k.map kV)) /\ r = wn9 kvs k
def xw1 (H : Hp) (a : Addr) (y v : V) (H' : Hp) : Prop :=
 (∃ kvs k, H a = some (.dK kvs) /\ y = kV k /\ kvs.length < sizeLine /\ H' = upd H a (.dK (qf5 kvs k v))) \/
 ∃ kvs k b, H a = some (.dT kvs) /\ y = .ref b /\ H b = some (.tup (k.map kV)) /\ kvs.length < sizeLine /\ H' = upd H a (.dT (qf5 kvs k v))
theorem xw1.k {H : Hp} {a : Addr} {kvs : List (Key × V)} {k : Key} {v : V} (e : H a = some (.dK kvs)) (hl : kvs.length < sizeLine) : xw1 H a (kV k) v (upd H a (.dK (qf5 kvs k v))) := .inl ⟨kvs, k, e, rfl, hl, rfl⟩
section
variable {X : Cx} {pins : List (Addr × Obj)} {σ : St} {H : Hp} {s : Shared} {a : Addr} {y v : V} {u r : Value} {o : Option V} {A : Around} {E : Value -> Shared -> Prop}
theorem Inv.big (I : Inv X pins σ H s) : sysModules < s.heap.objs.size := by
 have h : mainGlobals < s.heap.objs.size := (I.mod.glob.keeps I.bk).lt
 exact Nat.lt_trans (by decide) h
theorem za5 {Q : Value -> Shared -> Prop} (hu : A.units + 1 < cLine) (I : Inv X pins σ H s) (g : yo7 H a y o) (ry : G8 y u) (h : ∀ s', Inv X pins σ H s' -> Q (.bool o.isSome) s') :
 wpAny (model X.prog X.w) A (compareOp .In u (.ref a)) Q E s := by
 rcases g with ⟨kvs, k, e, ey, l⟩ | ⟨kvs, k, b, e, ey, eb, l⟩
 ·subst ey
  obtain ⟨z, hd, vs, rel, dd⟩ := xc3 I.hok e
  refine wpAny_in_of (xc2 ry) hd dd.mapOf ?_
  rw [<- (rel.val k).isSome_eq, <- l]
  exact h _ (I.tok _)
 ·subst ey
  cases (show u = Value.ref b from ry)
  obtain ⟨z, hd, xs, rel, dd⟩ := xw0 I.hok e
  refine wpAny_in_heap (tupleKind_room_in1 hu) (ww4 I.hok eb) hd dd ?_
  have q := (rel.val k).isSome_eq
  rw [Option.isSome_map] at q
  rw [<- q, <- l]
  exact h _ (I.tok _)
theorem yf0 {Q : Value -> Shared -> Prop} (hu : A.units + 1 < cLine) (I : Inv X pins σ H s) (g : yo7 H a y o) (ry : G8 y u) (h : ∀ s', Inv X pins σ H s' -> Q (.bool (!o.isSome)) s') :
 wpAny (model X.prog X.w) A (compareOp .NotIn u (.ref a)) Q E s := by
 rcases g with ⟨kvs, k, e, ey, l⟩ | ⟨kvs, k, b, e, ey, eb, l⟩
 ·subst ey
  obtain ⟨z, hd, vs, rel, dd⟩ := xc3 I.hok e
  refine wpAny_notIn_of (xc2 ry) hd dd.mapOf ?_
  rw [<- (rel.val k).isSome_eq, <- l]
  exact h _ (I.tok _)
 ·subst ey
  cases (show u = Value.ref b from ry)
  obtain ⟨z, hd, xs, rel, dd⟩ := xw0 I.hok e
  refine wpAny_notIn_heap (tupleKind_room_in1 hu) (ww4 I.hok eb) hd dd ?_
  have q := (rel.val k).isSome_eq
  rw [Option.isSome_map] at q
  rw [<- q, <- l]
  exact h _ (I.tok _)
theorem ww5 {h' : Heap} {t' : Nat} {ob : HO} (I : Inv X pins σ H s) (mu : Mut (H a)) (hs : Heap.SameBut a s.heap h') (he : ∃ q, h'.get? a = some q) (new : M9 X.prog X.w (upd H a ob) h' a ob) (ht : autoParam (0 < t') zAt) :
 Inv X pins σ (upd H a ob) { s with heap := h', toks := t' } :=
 I.write (x := a) (e := a) mu (.inl rfl) (fun b q hb z => (hs.2 b hb).trans z) he new
theorem xw2 {P : Program} {w : World} {H' : Hp} {h' : Heap} {kvs : List (Key × V)} {vs : List (Key × Value)} (z : kvs.length <= sizeLine) (hd : (a == sysModules) = false) (rel : KV kvs vs) (dd : h'.DictOf (O1 P w) a vs) :
 M9 P w H' h' a (.dK kvs) := ⟨z, hd, vs, rel, dd⟩
theorem xq9 {H' : Hp} {Q : Unit -> Shared -> Prop} (hu : A.units + 1 < cLine) (I : Inv X pins σ H s) (g : xw1 H a y v H') (ry : G8 y u) (rv : G8 v r) (h : ∀ s', Inv X pins σ H' s' -> Q () s') :
 wpAny (model X.prog X.w) A (setItem (.ref a) u r) Q E s := by
 rcases g with ⟨kvs, k, e, ey, l, eH⟩ | ⟨kvs, k, b, e, ey, eb, l, eH⟩
 ·subst ey eH
  obtain ⟨z, hd, vs, rel, dd⟩ := yl1 I.hok e
  have hz : vs.length <= sizeLine := by rw [<- rel.length]; exact z
  have hl : (qf5 kvs k v).length <= sizeLine := by have := qc5 kvs k v; omega
  refine wpAny_setItem_pairs (hsz := hz) (xc2 ry) dd fun h' dd' hs => h _ ?_
  have he : ∃ q, h'.get? a = some q := let ⟨q, _, _, hq, _⟩ := dd'; ⟨q, hq⟩
  exact ww5 I (by rw [e]; exact True.intro) hs he (xw2 hl hd (rel.put k rv) dd')
 ·subst ey eH
  cases (show u = Value.ref b from ry)
  obtain ⟨z, hd, xs, rel, dd⟩ := yw3 I.hok e
  have hz : xs.length <= sizeLine := by rw [<- Paired.length rel]; exact z
  have hl : (qf5 kvs k v).length <= sizeLine := by have := qc5 kvs k v; omega
  refine wpAny_setItem_heap (hsz := hz) (tupleKind_room_in1 hu) (ww4 I.hok eb) dd fun h' dd' hs => h _ ?_
  obtain ⟨q, es, ep, hq, h2, h3, h4, _, h5⟩ := dd'
  refine ww5 I (by rw [e]; exact True.intro) hs ⟨q, hq⟩ ⟨hl, hd, _, (rel.put k eb rv).keeps fun c ys ec => ?_, q, es, ep, hq, h2, h3, h4, h5⟩
  rw [B8 (yu9 ec e (fun z => nomatch z))]
  exact ec
end
section
variable {X : Cx} {pins : List (Addr × Obj)} {σ : St} {H : Hp} {s : Shared} {a : Addr} {kvs : List (Key × V)} {k : Key} {u : Value} {A : Around} {E : Value -> Shared -> Prop}
theorem yw4 {Q : Value -> Shared -> Prop} (I : Inv X pins σ H s) (e : Rd H a (.dK kvs)) (h : ∀ t s', Inv X pins σ H s' -> Q (.int kvs.length t) s') : wpAny (model X.prog X.w) A (call (.builtin "len") [.ref a]) Q E s := by
 obtain ⟨z, hd, vs, rel, dd⟩ := xc3 I.hok e
 refine call_len_dict hd dd (by rw [<- rel.length]; rw [sizeLine_eq] at z; omega) ?_
 rw [<- rel.length]
 exact h _ _ (I.tok _)
end
theorem xc4 {P : Program} {w : World} {H : Hp} (h : Heap) (hb : sysModules < h.objs.size) : M9 P w H (h.push { cls := .type "dict", data := .dict #[] }) h.objs.size (.dK []) :=
 ⟨Nat.zero_le _, beq_eq_false_iff_ne.mpr (Ne.symm (Nat.ne_of_lt hb)), [], .nil, Heap.DictOf.new h⟩
def xh4 : TE := fun _ H Q => ∀ p, H p = none -> Q (.ref p) (upd H p (.dK []))
section
variable {X : Cx} {pos : Pos}
theorem xw3 : PE X (.Dict [] [] pos) xh4 := fun pins s σ H Q I h =>
 wpAny_Dict_empty ⟨.ref s.heap.objs.size, _, I.laid (a := s.heap.objs.size) (o := .dK []) (t' := s.toks) (fun _ _ q => Heap.get?_push_of_some _ q) (Nat.le_refl _) (xc4 s.heap I.big), rfl, h _ (I.hok.fresh (Nat.le_refl _))⟩
end
def wf7 : List (TE × TE) -> St -> Hp -> (List (V × V) -> Hp -> Prop) -> Prop
 | [], _, H, Q => Q [] H
 | (tk, tv) :: r, σ, H, Q => tk σ H fun x H1 => tv σ H1 fun y H2 => wf7 r σ H2 fun ps H3 => Q ((x, y) :: ps) H3
abbrev VV : List (V × V) -> List (Value × Value) -> Prop := Paired fun p q => G8 p.1 q.1 /\ G8 p.2 q.2
def PPs (X : Cx) (pos : Pos) (keys : List (Option Expr)) (values : List Expr) (trs : List (TE × TE)) : Prop :=
 ∀ (pins : List (Addr × Obj)) (s : Shared) (σ : St) (H : Hp) (Q : List (V × V) -> Hp -> Prop), Inv X pins σ H s -> wf7 trs σ H Q ->
  wpAny (model X.prog X.w) X.A (evalPairs (pairTrees keys values X.env pos)) (fun vs s' => ∃ ps H', Inv X pins σ H' s' /\ VV ps vs /\ Q ps H') X.xe s
theorem yf1 {X : Cx} {pos : Pos} : PPs X pos [] [] [] := fun pins s σ H Q I h => pairTrees_nil_walk ⟨[], H, I, .nil, h⟩
theorem xw4 {X : Cx} {pos : Pos} {k v : Expr} {ks : List (Option Expr)} {vs : List Expr} {tk tv : TE} {trs : List (TE × TE)} (hk : PE X k tk) (hv : PE X v tv) (hr : PPs X pos ks vs trs) :
 PPs X pos (some k :: ks) (v :: vs) ((tk, tv) :: trs) := fun pins s σ H Q I h =>
 pairTrees_cons_walk (thn (hk pins s σ H _ I h) fun u s1 ⟨x, H1, I1, rx, q1⟩ => thn (hv pins s1 σ H1 _ I1 q1) fun w2 s2 ⟨y, H2, I2, ry, q2⟩ =>
  thn (hr pins s2 σ H2 _ I2 q2) fun ws s3 ⟨ps, H3, I3, rel, q3⟩ => ⟨(x, y) :: ps, H3, I3, .cons ⟨rx, ry⟩ rel, q3⟩)
noncomputable def qh1 (kvs more : List (Key × V)) : List (Key × V) := more.foldl (fun acc kv => qf5 acc kv.1 kv.2) kvs
theorem KV.merge : ∀ {more : List (Key × V)} {rs : List (Key × Value)} {kvs : List (Key × V)} {vs : List (Key × Value)}, KV more rs -> KV kvs vs -> KV (qh1 kvs more) (merged vs rs) := by
 intro more rs kvs vs r
 unfold KV at r
 induction r generalizing kvs vs with
 | nil => intro q; exact q
 | @cons p q ps qs h t ih =>
   intro r0
   have e : KV (qf5 kvs p.1 p.2) (stored vs q.1 q.2) := by
    have := r0.put p.1 h.2
    rw [<- h.1]; exact this
   exact ih e
theorem qo1 : ∀ (more kvs : List (Key × V)), (qh1 kvs more).length <= kvs.length + more.length
 | [], kvs => by show kvs.length <= kvs.length + 0; omega
 | p :: r, kvs => by
   have h1 := qo1 r (qf5 kvs p.1 p.2)
   have h2 := qc5 kvs p.1 p.2
   show (qh1 (qf5 kvs p.1 p.2) r).length <= _
   rw [List.length_cons]; omega
theorem wf8 {P : Program} {w : World} : ∀ {kvs : List (Key × V)} {ws : List (Value × Value)}, VV (kvs.map fun kv => (kV kv.1, kv.2)) ws -> ∃ rs, Carries (O1 P w) ws rs /\ KV kvs rs
 | [], _, r => by rw [List.map_nil] at r; cases r; exact ⟨[], True.intro, .nil⟩
 | p :: kvs, _, r => by
   rw [List.map_cons] at r
   cases r with
   | @cons a b as bs h t =>
     obtain ⟨rs, c, q⟩ := wf8 (P := P) (w := w) t
     obtain ⟨b1, b2⟩ := b
     exact ⟨(p.1, b2) :: rs, ⟨xc2 h.1, rfl, c⟩, .cons ⟨rfl, h.2⟩ q⟩
def xw5 (trs : List (TE × TE)) : TE := fun σ H Q => ∀ p, H p = none -> wf7 trs σ (upd H p (.dK [])) fun ps H2 => H2 p = some (.dK []) /\ ∃ kvs : List (Key × V), ps = kvs.map (fun kv => (kV kv.1, kv.2)) /\ kvs.length <= 15 /\ Q (.ref p) (upd H2 p (.dK (qh1 [] kvs)))
theorem yf2 {X : Cx} {pos : Pos} {keys : List (Option Expr)} {values : List Expr} {trs : List (TE × TE)} (h : PPs X pos keys values trs) (hall : keys.all (·.isSome) = true) (hl : keys.length = values.length) (h0 : keys ≠ [])
 (h15 : keys.length <= 15) : PE X (.Dict keys values pos) (xw5 trs) := by
 intro pins s σ H Q I q
 have hn := I.hok.fresh (Nat.le_refl s.heap.objs.size)
 have I1 := I.laid (a := s.heap.objs.size) (o := .dK []) (h' := s.heap.push { cls := .type "dict", data := .dict #[] }) (t' := s.toks) (fun _ _ q => Heap.get?_push_of_some _ q) (Nat.le_refl _) (xc4 s.heap I.big)
 refine wpAny_Dict_walk (knd := O1 X.prog X.w) hall hl h0 h15 (thn (h pins _ σ _ _ I1 (q _ hn)) fun ws s2 zq => ?_)
 obtain ⟨ps, H2, I2, rel, e, kvs, ep, lk, q2⟩ := zq
 subst ep
 obtain ⟨rs, c, rk⟩ := wf8 (P := X.prog) (w := X.w) rel
 obtain ⟨z, hd, vs0, r0, dd⟩ := yl1 I2.hok e
 cases r0
 refine ⟨rs, c, dd, fun h' dd' hs => ⟨.ref s.heap.objs.size, _, ?_, rfl, q2⟩⟩
 have hz : (qh1 [] kvs).length <= sizeLine := by
  have h1 := qo1 kvs []
  rw [List.length_nil] at h1
  rw [sizeLine_eq]; omega
 have he : ∃ q, h'.get? s.heap.objs.size = some q := let ⟨q, _, _, hq, _⟩ := dd'; ⟨q, hq⟩
 exact ww5 I2 (by rw [e]; exact True.intro) hs he (xw2 hz hd (rk.merge .nil) dd') (Nat.lt_of_lt_of_le I2.tk (Nat.le_add_right _ _))
end L2
namespace Att
open PySem PySem.W PySem.Calls PyProof.Rows
theorem wc6 {P : Params} {h : Heap} : ∀ (ns : List Int) (vs : List Value), WellAll P h vs (ns.map WData.int) -> IntsAre vs ns := by
 intro ns
 induction ns with
 | nil =>
   intro vs w
   rw [List.map_nil] at w
   cases w
   exact .nil
 | cons n ns ih =>
   intro vs w
   rw [List.map_cons] at w
   cases w with
   | cons a b =>
     cases a
     exact .cons _ _ (ih _ b)
theorem script_of {l : OpenLaw} {n : Nat} (hn : l.most = some n) {P : Params} {h : Heap} {args : List WData} {vals : List Value}
 (hpre : l.row.toRowW.claim.pre args = true) (hwl : WellAll P h vals args) :
 ∃ a vs ns, vals = [Value.ref a] /\ args = [WData.list (ns.map WData.int)] /\ h.get? a = some { cls := .type "list", data := .seq vs.toArray } /\ IntsAre vs ns /\ ns.length <= n := by
 have hsh : WShape.hasAll [] args [.list .int] = true := (pre_splitW hpre).1
 have hc : l.pre.holds [] { args := args } = true := (pre_splitW hpre).2
 obtain ⟨d, r, rfl, h1, h2⟩ := hasAllW_cons hsh
 obtain rfl := hasAllW_nil h2
 obtain ⟨xs, rfl, h3⟩ := hasW_list h1
 obtain ⟨ns, rfl⟩ := items_int h3
 have hlen : ns.length <= n := by
  unfold OpenLaw.pre at hc
  have h4 : (WTm.not (.lt (.lit (.int (n : Int))) (.len (.arg 0)))).holds [] { args := [.list (ns.map .int)] } = true := by
   have h4 := (holds_andW hc).1
   rw [hn] at h4
   exact h4
  have h5 := condW_of h4 (w_not (w_lt w_lit (w_len_list (w_arg rfl))))
  rw [List.length_map] at h5
  refine Nat.le_of_not_lt fun q => ?_
  have q' : (n : Int) < ((ns.length : Nat) : Int) := by omega
  first
   | (rw [decide_eq_true q'] at h5; exact absurd h5 (by decide))
   | (simp at h5; omega)
 cases hwl with
 | cons w1 w2 =>
   cases w2
   cases w1 with
   | list ho hall => exact ⟨_, _, ns, rfl, rfl, ho, wc6 ns _ hall, hlen⟩
theorem post_true (l : OpenLaw) (args : List WData) : l.row.toRowW.claim.post args (.bool true) args = true :=
 postW_of (r := l.row.toRowW) (X := (true == true))
  (show WShape.has [] (.bool true) .bool = true by first | rfl | decide | simp [WShape.has, WShape.arms, WShape.armsAll])
  (show (WTm.eq .res (.lit (.bool true))).value [] { args := args, res := some (.bool true), after := args } = some (.bool (true == true)) from w_eq_bool (w_res rfl) w_lit) rfl
end Att
namespace L2
open PySem PySem.Spec PyProof.Rows
theorem wt4 : ∀ {vs : List Value} {ns : List Int}, IntsAre vs ns -> G4 (ns.map V.int) vs
 | _, _, .nil => .nil
 | _, _, .cons n t h => .cons ⟨t, rfl⟩ (wt4 h)
def yo8 (H : Hp) : Prop := ∀ b, H b = none \/ ∃ o xs, H b = some (.frz o (.lst xs))
theorem xw6 {P : Program} {w : World} {K : Fg} {mg mb : Str -> Option Value} {CX : CXT} {k : Nat} {fa a : Addr} {fd : FuncData} {x : Str} {sp : Sp} {s₁ : Shared} {vs : List Value} {ns : List Int}
 (KX : K.In s₁.heap) (hns : s₁.heap.Ns mainGlobals mg) (hb : s₁.heap.Ns builtinsNs mb) (hbb : ∀ x : Str, x ≠ "__name__" -> mb x = bootBuiltins x) (hlim : s₁.heap.NoLimit) (hg : s₁.gens = #[]) (htk : 0 < s₁.toks)
 (ha : s₁.heap.get? a = some { cls := .type "list", data := .seq vs.toArray }) (hi : IntsAre vs ns) (hl : ns.length <= sizeLine) (hr : X8 k callerA)
 (F : ∀ base : Heap, K.In base -> base.Ns mainGlobals mg -> O2 P w K mg base CX k fa fd [x] sp) (hbind : ∀ (s : Shared) (u : Value), BindsTo s fd ⟨[u], []⟩ [(x, u)])
 (hsp : ∀ H : Hp, yo8 H -> SqL K H a (ns.map V.int) -> sp [.ref a] H (fun v _ => v = .bl true) fun _ _ _ => False)
 (hCX : ∀ H e s', CX [] H s₁ (fun _ _ _ => False) e s' -> False) :
 codeAny (model P w) callerA (.call (.ref fa) ⟨[.ref a], []⟩) (fun r s' => r = .ok (.ret (.bool true)) /\ OldK s₁.heap s'.heap /\ s'.os = s₁.os /\ AllBare s'.gens) s₁ := by
 have rv := wt4 hi
 have lenV := hi.length
 have core : ∀ H : Hp, yo8 H -> SqL K H a (ns.map V.int) -> HOk P w H s₁.heap -> (∀ b, H b ≠ none -> b = a) -> (H a ≠ none -> K.lookup a = none) ->
  codeAny (model P w) callerA (.call (.ref fa) ⟨[.ref a], []⟩) (fun r s' => r = .ok (.ret (.bool true)) /\ OldK s₁.heap s'.heap /\ s'.os = s₁.os /\ AllBare s'.gens) s₁ := by
  intro H hO hS hok hA hK
  have base_of : ∀ {b : Addr} {o : Obj}, s₁.heap.get? b = some o -> H b = none -> (wv3 s₁.heap H).get? b = some o := fun e n => xu6 e n
  have noA : ∀ {b : Addr} {o : Obj} {es : Array DictEntry} {ep : Nat}, s₁.heap.get? b = some o -> o.data = .dict es ep -> H b = none := fun {b o es ep} e d => by
   cases q : H b with
   | none => rfl
   | some u =>
     have e' : b = a := hA b (by rw [q]; simp)
     subst e'
     rw [ha] at e; cases e
     have d' : Data.seq vs.toArray _ = Data.dict es ep := d
     cases d'
  have nsK : ∀ {b : Addr} {m : Str -> Option Value}, s₁.heap.Ns b m -> (wv3 s₁.heap H).Ns b m := fun {b m} ⟨o, es, ep, e, d, r⟩ => ⟨o, es, ep, base_of e (noA e d), d, r⟩
  have hKb : K.In (wv3 s₁.heap H) := fun b o e => base_of (KX b o e) (by
   cases q : H b with
   | none => rfl
   | some u =>
     have e' : b = a := hA b (by rw [q]; simp)
     subst e'
     rw [hK (by rw [q]; simp)] at e; cases e)
  have hM : Mod K mg (wv3 s₁.heap H) := ⟨hKb, nsK hns, ⟨mb, nsK hb, hbb⟩, let ⟨mc, h1, h2⟩ := hlim; ⟨mc, nsK h1, h2⟩⟩
  have e0 : xg9 P w K mg (wv3 s₁.heap H) callerA [] s₁ H := ⟨rfl, hM, fun b o e => yd7 e, Nat.le_of_eq (xp6 _ _), trivial, fun b hb => absurd (show b ∈ ([] : List Addr) from hb) (by simp), hok, .of_eq hg, htk⟩
  refine codeAny_mono ((F _ hKb (nsK hns)).run callerA [] s₁ H ⟨[.ref a], []⟩ [.ref a] [.ref a] _ _ hr e0 (hbind s₁ (.ref a)) (.cons rfl .nil) (hsp H hO hS)) fun r s' h => ?_
  cases r with
  | error e => exact (hCX H e s' h).elim
  | ok fl =>
    cases fl with
    | next => exact False.elim h
    | brk => exact False.elim h
    | cont => exact False.elim h
    | ret u =>
      obtain ⟨v, H', _, os, bare, un, hok', r', q⟩ := h
      have q' : v = .bl true := q
      subst q'
      obtain rfl : u = Value.bool true := r'
      refine ⟨rfl, OldK.of_keep fun b o e => ?_, os, bare⟩
      cases q : H b with
      | none => exact un.keep b o e q (by intro z; exact absurd (show b ∈ ([] : List Addr) from z) (by simp)) (by simp)
      | some u =>
        rcases hO b with z | ⟨ob, xs, z⟩
        ·rw [q] at z; cases z
        ·have z2 := un.frzs b ob _ z
         obtain ⟨e1, _⟩ := hok b _ z
         obtain ⟨e2, _⟩ := hok' b _ z2
         rw [e] at e1; cases e1
         exact e2
 cases hk : K.lookup a with
 | some o =>
   have e := KX a o hk
   rw [ha] at e
   cases e
   refine core (fun _ => none) (fun _ => .inl rfl) (.inr ⟨_, vs.toArray, _, hk, rfl, rfl, rfl, by rw [List.size_toArray, lenV]; exact hl, by simpa using rv⟩) (fun b u z => by have z' : (none : Option HO) = some u := z; cases z') (fun b z => absurd rfl z) fun z => absurd rfl z
 | none =>
   refine core (fun b => if b = a then some (.frz { cls := .type "list", data := .seq vs.toArray } (.lst (ns.map V.int))) else none) (fun b => ?_) (.inl (.inr ⟨{ cls := .type "list", data := .seq vs.toArray }, if_pos rfl⟩)) (fun b u z => ?_) (fun b z => ?_) fun _ => hk
   ·by_cases hb : b = a
    ·exact .inr ⟨_, _, if_pos hb⟩
    ·exact .inl (if_neg hb)
   ·by_cases hb : b = a
    ·have z' := (if_pos hb).symm.trans z
     cases z'
     subst hb
     exact ⟨ha, by rw [List.length_map]; exact hl, vs, _, rv, ha⟩
    ·have z' := (if_neg hb).symm.trans z
     cases z'
   ·by_cases hb : b = a
    ·exact hb
    ·exact absurd (if_neg hb) z
end L2
namespace L2
open PySem PySem.Spec PyProof.Rows
theorem wf9 : ∀ ns : List Int, PySem.W.ofPys (ns.map PyData.int) = ns.map PySem.W.WData.int
 | [] => by simp [PySem.W.ofPys]
 | n :: ns => by simp only [List.map_cons, PySem.W.ofPys, PySem.W.ofPy]; rw [wf9 ns]
theorem yf3 {l : PySem.W.OpenLaw} {n k : Nat} {q : Program} {loose : List Str} {XP : (Str -> Option Value) -> Heap -> Prop} {as : List Addr} {z t : Nat} {d : DefRec} {K : Params -> Fg} {CX : World -> CXT} {sp : World -> Sp} {x : Str}
 (hn : l.most = some n) (hn2 : n <= sizeLine) (hdf : d.params.defaults = []) (hr : X8 k callerA) (hk : ∀ P, as = (K P).map (·.1)) (h0 : 0 < t)
 (F : ∀ (w : World) (mg : Str -> Option Value) (fa : Addr) (h : Heap), (K w.params).In h -> h.Ns mainGlobals mg -> mg d.name = some (.ref fa) ->
  ∃ fd : FuncData, (∀ (s : Shared) (u : Value), BindsTo s fd ⟨[u], []⟩ [(x, u)]) /\
   ∀ base : Heap, (K w.params).In base -> base.Ns mainGlobals mg -> O2 l.prog w (K w.params) mg base (CX w) k fa fd [x] (sp w))
 (hsp : ∀ (w : World) (H : Hp) (a : Addr) (ns : List Int), ns.length <= n -> yo8 H -> SqL (K w.params) H a (ns.map V.int) -> sp w [.ref a] H (fun v _ => v = .bl true) fun _ _ _ => False)
 (hCX : ∀ (w : World) (H : Hp) (s : Shared) (e : Value) (s' : Shared), CX w [] H s (fun _ _ _ => False) e s' -> False) :
 PySem.W.WalkX q loose XP (PySem.W.X.obsZ as) (PySem.W.X.valZ K z t) l.row.toRowW d [] (fun f vs => PySem.call f vs) := by
 intro w s₀ s₁ mg mb G y fa o pm cd doc dV kV ho hd hcd hD hmg hg args vals aa L hpre hlay hrd hwl hlo
 obtain rfl : dV = .none := PySem.W.Dflts.none hD hdf
 obtain rfl : kV = .none := PySem.W.Dflts.noKw hD
 obtain ⟨a, vs, ns, rfl, rfl, hobj, hints, hlen⟩ := Att.script_of hn hpre hwl
 obtain ⟨_, KI, _, htk⟩ := PySem.W.X.z_facts hk y
 have KX := PySem.W.InK.keeps w _ _ KI L.keeps
 have tk : 0 < s₁.toks := Nat.lt_of_lt_of_le h0 (PySem.W.X.script_toks (ns := ns) (a := a) (by rw [PySem.W.ofPy, wf9]; exact L) htk)
 obtain ⟨fd, hb, hF⟩ := F w mg fa _ KX G.T.g hmg
 refine PySem.W.enter_call (codeAny_mono (xw6 KX G.T.g G.T.b G.T.builtins G.T.nolimit hg tk hobj hints (Nat.le_trans hlen hn2) hr hF hb (fun H hO hS => hsp w H a ns hlen hO hS) fun H e s' => hCX w H s₁ e s') fun r s' hq => ?_)
 obtain ⟨rfl, h2, h3, h4⟩ := hq
 exact ⟨.inl ⟨.bool true, .bool true, [], rfl, fun _ => rfl, .bool true, Att.post_true l _, fun _ => ⟨List.Pairwise.nil, fun _ hm => (nomatch hm)⟩⟩, h2, h3, h4⟩
end L2
namespace L2
open PySem PySem.Spec PyProof.Rows
noncomputable def qs5 (s : Stmt) : Arguments := match s with
 | .FunctionDef _ a _ _ _ _ _ _ _ _ => a
 | _ => { posonlyargs := [], args := [], vararg := none, kwonlyargs := [], kw_defaults := [], kwarg := none, defaults := [] }
noncomputable def qh2 (s : Stmt) : List Stmt := match s with
 | .FunctionDef _ _ b _ _ _ _ _ _ _ => b
 | _ => []
noncomputable def B9 (s : Stmt) : Scope := match s with
 | .FunctionDef _ _ _ _ _ _ sc _ _ _ => sc
 | _ => { kind := .function, names := [], isGenerator := false, isCoroutine := false }
abbrev CX0 : CXT := fun _ _ _ _ _ _ => False
abbrev E0 : XK := fun _ _ _ => False
theorem E6 {X : Cx} : wv7 CX0 X E0 := fun _ _ _ _ _ _ _ h => h.elim
structure Fun (K : Fg) (x qual : Str) (st : Stmt) (f : Addr) (fd : FuncData) : Prop where
 ex : ∃ (oc : Value) (od : Option Addr) (kV doc pm : Value) (an : Option Addr) (cdv ct : Value) (osl : Array (Option Value)),
  fd = PySem.W.fnOf x qual (qs5 st) (qh2 st) (B9 st) .none kV doc pm an cdv ct /\ K.lookup f = some ⟨oc, od, .func fd, osl⟩ /\ PySem.W.codeIn K cdv qual = true
 kp : PySem.W.keepIn K (.ref f) = true
section
variable {P : Program} {w : World} {K : Fg} {mg : Str -> Option Value} {base : Heap}
theorem Fun.ok {x qual : Str} {st : Stmt} {f : Addr} {fd : FuncData} {N ps : List Str} {k : Nat} {sp : Sp} (F : Fun K x qual st f fd) (S : G1 N ps (B9 st)) (len : ∀ vs H Q E, sp vs H Q E -> vs.length = ps.length)
 (hbody : ∀ (cdv : Value) (A : Around) (outer : List Env) (s : Shared) (H : Hp) (vs : List V) (Q : VK) (E : XK), X8 k (A.deeper (envOfC qual (B9 st) s.heap.objs.size f cdv)) -> sp vs H Q E ->
  ∃ t, PSs (qs2 CX0 P w K mg base N qual (B9 st) f cdv A outer s H E).nox (qh2 st) t /\ t { nx := fun _ H' => Q .non H', rt := Q } (M2 N vs) H) : O2 P w K mg base CX0 (k + 1) f fd ps sp := by
 obtain ⟨oc, od, kV, doc, pm, an, cdv, ct, osl, rfl, lk, hcd⟩ := F.ex
 refine yk8 lk hcd S len fun A outer s H vs Q E hr hsp => ?_
 obtain ⟨t, h, q⟩ := hbody cdv A outer s H vs Q E hr hsp
 exact ⟨t, h.nox, q⟩
theorem Fun.binds {x qual : Str} {st : Stmt} {f : Addr} {fd : FuncData} {ps : List Str} (F : Fun K x qual st f fd)
 (h : ∀ (kV doc pm : Value) (an : Option Addr) (cdv ct : Value) (us : List Value), us.length = ps.length -> bindArgs (PySem.W.fnOf x qual (qs5 st) (qh2 st) (B9 st) .none kV doc pm an cdv ct) ⟨us, []⟩ = pure (ps.zip us)) : qs1 K fd ps [] := by
 obtain ⟨oc, od, kV, doc, pm, an, cdv, ct, osl, rfl, lk, hcd⟩ := F.ex
 exact .all (h kV doc pm an cdv ct)
theorem yo9 {x qual : Str} {st : Stmt} {f : Addr} {oc : Value} {od an : Option Addr} {osl : Array (Option Value)} {kV doc pm cdv ct : Value} (l : K.lookup f = some ⟨oc, od, .func (PySem.W.fnOf x qual (qs5 st) (qh2 st) (B9 st) .none kV doc pm an cdv ct), osl⟩)
 (c : PySem.W.codeIn K cdv qual = true) (k : PySem.W.keepIn K (.ref f) = true) : Fun K x qual st f (PySem.W.fnOf x qual (qs5 st) (qh2 st) (B9 st) .none kV doc pm an cdv ct) := ⟨⟨oc, od, kV, doc, pm, an, cdv, ct, osl, rfl, l, c⟩, k⟩
end
theorem C7 {A : Around} {k : Nat} (hr : X8 k A) : A.units + 1 < cLine := Nat.lt_of_le_of_lt (Nat.add_le_add_left (by decide : 1 <= 64) _) hr.units
theorem xr0 {n : Nat} (h : n <= 1000) : n < sizeLine := Nat.lt_of_le_of_lt h (by decide)
section
variable {X : Cx}
theorem pv (i : Nat) {x : Str} {pos : Pos} (hN : autoParam (X.N[i]? = some x) zAr) (hv : Vis X.env.scope x := by first | exact Or.inl rfl | exact Or.inr (Or.inl rfl) | exact Or.inr (Or.inr rfl)) (hd : autoParam ((x == ("__debug__" : Str)) = false) zAd)
 (hcd : autoParam ((x == ("__classdict__" : Str)) = false) zAd) : PE X (.Name x pos) (A7 i) := yn2 hN hv hd hcd
end
theorem qn7 {A B : Prop} (h : B) : if false = true then A else B := by
 rw [if_neg Bool.false_ne_true]
 exact h
theorem qx7 {A B : Prop} (h : A) : if true = true then A else B := by
 rw [if_pos rfl]
 exact h
def B1 (H H' : Hp) : Prop := ∀ b o, H b = some o -> H' b = some o
theorem B1.refl (H : Hp) : B1 H H := fun _ _ h => h
theorem B1.trans {H H1 H2 : Hp} (a : B1 H H1) (b : B1 H1 H2) : B1 H H2 := fun c o h => b c o (a c o h)
theorem B1.free {H H' : Hp} (e : B1 H H') {l : Addr} (h : H' l = Option.none) : H l = Option.none := by
 cases q : H l with
 | none => rfl
 | some o =>
   rw [e l o q] at h
   cases h
theorem B1.seq {K : Fg} {H H' : Hp} {a : Addr} {xs : List V} (e : B1 H H') (h : SqL K H a xs) : SqL K H' a xs := by
 rcases h with (h | ⟨o, h⟩) | h
 ·exact .inl (.inl (e _ _ h))
 ·exact .inl (.inr ⟨o, e _ _ h⟩)
 ·exact .inr h
section
variable {X : Cx}
theorem xr1 : Q9 X (.builtin "len") (fun xs H Q => ∃ a kvs, xs = [V.ref a] /\ H a = some (.dK kvs) /\ Q (.int kvs.length) H) := by
 intro pins s σ H xs us Q I r h
 obtain ⟨a, kvs, rfl, ha, q⟩ := h
 obtain ⟨u, rfl, ru⟩ := qf3 r
 cases ru
 exact yw4 I (.inl ha) fun t s' I' => ⟨.int kvs.length, H, I', ⟨t, rfl⟩, q⟩
end
end L2
namespace L2
open PySem PySem.Spec PyProof.Rows
theorem noE {α : Type} {t : Sem α} {Q : α -> Shared -> Prop} {M : Model} {A : Around} {E : Value -> Shared -> Prop} {s : Shared} (h : wpAny M A t Q (fun _ _ => False) s) : wpAny M A t Q E s :=
 wpAny_mono h (fun _ _ q => q) fun _ _ z => False.elim z
theorem qp4 {env : Env} : ∀ (names : List (Str × NameKind)) (acc : List (Str × Addr)), (∀ y ∈ names, y.2 = .free -> ∃ c, env.cells.lookup y.1 = some c) -> (∀ x c, acc.lookup x = some c -> env.cells.lookup x = some c) ->
 ∃ cl, (forIn names acc fun (x : Str × NameKind) (r : List (Str × Addr)) =>
  (if (x.2 == .free) = true then (do let a <- cellOf env x.1; pure (ForInStep.yield ((x.1, a) :: r))) else pure (ForInStep.yield r) : Sem (ForInStep (List (Str × Addr))))) = (pure cl : Sem (List (Str × Addr))) /\
  (∀ x c, cl.lookup x = some c -> env.cells.lookup x = some c) /\ (∀ x, (∃ c, acc.lookup x = some c) -> ∃ c, cl.lookup x = some c) /\ ∀ y ∈ names, y.2 = .free -> ∃ c, cl.lookup y.1 = some c
 | [], acc, _, h2 => ⟨acc, by rw [List.forIn_nil], h2, fun _ h => h, fun _ h => by cases h⟩
 | (n, k) :: r, acc, h1, h2 => by
   by_cases hk : k = .free
   ·subst hk
    obtain ⟨c, hc⟩ := h1 (n, .free) List.mem_cons_self rfl
    obtain ⟨cl, e, q1, q2, q3⟩ := qp4 r ((n, c) :: acc) (fun y hy => h1 y (List.mem_cons_of_mem _ hy)) (fun x d hd => by
     rw [List.lookup_cons] at hd
     cases hx : x == n with
     | true => rw [hx] at hd; cases hd; rw [beq_iff_eq.mp hx]; exact hc
     | false => rw [hx] at hd; exact h2 x d hd)
    refine ⟨cl, ?_, q1, fun x hx => q2 x ?_, fun y hy hf => ?_⟩
    ·rw [List.forIn_cons]
     have e0 : cellOf env n = pure c := by unfold cellOf; rw [hc]
     simp only [beq_self_eq_true, if_true, e0]
     exact e
    ·rw [List.lookup_cons]
     cases x == n with
     | true => exact ⟨c, rfl⟩
     | false => exact hx
    ·rcases List.mem_cons.mp hy with rfl | hy
     ·exact q2 n ⟨c, by rw [List.lookup_cons]; simp⟩
     ·exact q3 y hy hf
   ·obtain ⟨cl, e, q1, q2, q3⟩ := qp4 r acc (fun y hy => h1 y (List.mem_cons_of_mem _ hy)) h2
    refine ⟨cl, ?_, q1, q2, fun y hy hf => ?_⟩
    ·rw [List.forIn_cons]
     have hb : (k == NameKind.free) = false := by simpa using hk
     simp only [hb, Bool.false_eq_true, if_false]
     exact e
    ·rcases List.mem_cons.mp hy with rfl | hy
     ·exact absurd hf hk
     ·exact q3 y hy hf
theorem qo2 {env : Env} {scope : Scope} (h : ∀ y ∈ scope.names, y.2 = .free -> ∃ c, env.cells.lookup y.1 = some c) :
 ∃ cl, closureFor scope env = pure cl /\ (∀ x c, cl.lookup x = some c -> env.cells.lookup x = some c) /\ ∀ y ∈ scope.names, y.2 = .free -> ∃ c, cl.lookup y.1 = some c := by
 obtain ⟨cl, e, q1, _, q3⟩ := qp4 (env := env) scope.names [] h (fun x c hc => by simp at hc)
 refine ⟨cl, ?_, q1, q3⟩
 unfold closureFor
 simp only []
 rw [show (forIn scope.names ([] : List (Str × Addr)) fun (x : Str × NameKind) (r : List (Str × Addr)) =>
  (match x with | (name, kind) => if (kind == .free) = true then (do let a <- cellOf env name; pure (ForInStep.yield ((name, a) :: r))) else pure (ForInStep.yield r) : Sem (ForInStep (List (Str × Addr))))) = (pure cl : Sem (List (Str × Addr))) from e]
 rfl
theorem Y2 {env : Env} : ∀ {names : List (Str × NameKind)} {x : Str}, names.lookup x = some .free ->
 (names.map fun (n, k) => if (k == NameKind.free && env.scope.kind == .function && env.kindOf n == some .cell) then (n, NameKind.cell) else (n, k)).lookup x = some .cell \/
 (names.map fun (n, k) => if (k == NameKind.free && env.scope.kind == .function && env.kindOf n == some .cell) then (n, NameKind.cell) else (n, k)).lookup x = some .free
 | [], _, h => by simp at h
 | (n, k) :: r, x, h => by
   have ih := @Y2 env r x
   show List.lookup x ((if (k == NameKind.free && env.scope.kind == .function && env.kindOf n == some .cell) = true then (n, NameKind.cell) else (n, k)) :: _) = _ \/ List.lookup x ((if (k == NameKind.free && env.scope.kind == .function && env.kindOf n == some .cell) = true then (n, NameKind.cell) else (n, k)) :: _) = _
   cases hx : x == n with
   | true =>
     simp only [List.lookup_cons, hx] at h
     cases h
     by_cases hc : (NameKind.free == NameKind.free && env.scope.kind == .function && env.kindOf n == some .cell) = true
     ·rw [if_pos hc]; exact .inl (by simp only [List.lookup_cons, hx])
     ·rw [if_neg hc]; exact .inr (by simp only [List.lookup_cons, hx])
   | false =>
     simp only [List.lookup_cons, hx] at h
     by_cases hc : (k == NameKind.free && env.scope.kind == .function && env.kindOf n == some .cell) = true
     ·rw [if_pos hc]; simp only [List.lookup_cons, hx]; exact ih h
     ·rw [if_neg hc]; simp only [List.lookup_cons, hx]; exact ih h
theorem R1 {env : Env} : ∀ {names : List (Str × NameKind)} {x : Str} {k : NameKind},
 (names.map fun (n, k) => if (k == NameKind.free && env.scope.kind == .function && env.kindOf n == some .cell) then (n, NameKind.cell) else (n, k)).lookup x = some k ->
 names.lookup x = some k \/ (k = .cell /\ names.lookup x = some .free)
 | [], _, _, h => by simp at h
 | (n, j) :: r, x, k, h => by
   have ih := @R1 env r x k
   have h : List.lookup x ((if (j == NameKind.free && env.scope.kind == .function && env.kindOf n == some .cell) = true then (n, NameKind.cell) else (n, j)) :: _) = some k := h
   by_cases hc : (j == NameKind.free && env.scope.kind == .function && env.kindOf n == some .cell) = true
   ·rw [if_pos hc] at h
    cases hx : x == n with
    | true =>
      simp only [List.lookup_cons, hx] at h ⊢
      cases h
      have : j = .free := by
       cases j <;> simp at hc ⊢
      exact .inr ⟨rfl, by rw [this]⟩
    | false => simp only [List.lookup_cons, hx] at h ⊢; exact ih h
   ·rw [if_neg hc] at h
    cases hx : x == n with
    | true => simp only [List.lookup_cons, hx] at h ⊢; exact .inl h
    | false => simp only [List.lookup_cons, hx] at h ⊢; exact ih h
theorem qk9 {prog : Program} {w : World} {A : Around} {R : Result -> Shared -> Prop} {s : Shared} {elt target iter : Expr} {ifs : List Expr} {scope : Scope} {pos : Pos} {it acc : Value} {env : Env} (I : Nat -> Shared -> Prop)
 (turn : ∀ n s, I n s -> wpAny (model prog w) A (pyNext it) (fun r s₁ => match r with
  | none => R (.ok .next) s₁
  | some v => wpAny (model prog w) A (letOwnedTupleGo target it v) (fun _ s₁' => wpAny (model prog w) A (assign target env v) (fun _ s₂ =>
   wpAny (model prog w) A (forIn ifs true fun c r => if r = true then do let ok <- isTrue c env (eval c env); pure (ForInStep.yield ok) else pure (ForInStep.yield r)) (fun ok s₃ =>
    if ok = true then wpAny (model prog w) A (eval elt env) (fun x s₄ =>
     wpAny (model prog w) A (call (.builtin "list.append") [acc, x]) (fun _ s₅ => ∃ m, m < n /\ I m s₅) (notedBy (model prog w) A env fun e s' => R (.error e) s') s₄) (notedBy (model prog w) A env fun e s' => R (.error e) s') s₃
    else ∃ m, m < n /\ I m s₃) (notedBy (model prog w) A env fun e s' => R (.error e) s') s₂) (notedBy (model prog w) A env fun e s' => R (.error e) s') s₁') (notedBy (model prog w) A env fun e s' => R (.error e) s') s₁)
  (notedBy (model prog w) A env fun e s' => R (.error e) s') s)
 (n : Nat) (h : I n s) :
 codeAny (model prog w) A (.compLoop (.ListComp elt [⟨target, iter, ifs, 0⟩] scope pos) 0 it acc env) R s := by
 refine codeAny_loop rfl I (fun n s hI => ?_) n h
 show wpAny _ A ((compTurn (.ListComp elt [⟨target, iter, ifs, 0⟩] scope pos) 0 it acc env).onRaise (fun x => do noteFrame x env; theTreesLotGoes x)) _ _ s
 refine wpAny_noted ?_
 rw [compTurn_list]
 refine wpAny_bind (wpAny_standAt (wpAny_bind (wpAny_mono (turn n s hI) (fun r s₁ h₁ => ?_) fun _ _ h' => h')))
 cases r with
 | none => exact wpAny_pure h₁
 | some v =>
   refine wpAny_bind (wpAny_mono h₁ (fun _ s₁' h₁' => ?_) fun _ _ h' => h')
   refine wpAny_bind (wpAny_mono h₁' (fun _ s₂ h₂ => wpAny_bind (wpAny_mono h₂ (fun ok s₃ h₃ => ?_) fun _ _ h' => h')) fun _ _ h' => h')
   cases ok with
   | false => exact wpAny_pure ⟨rfl, h₃⟩
   | true =>
     exact wpAny_bind (wpAny_bind (wpAny_mono h₃ (fun x s₄ h₄ => wpAny_bind (wpAny_mono h₄ (fun _ s₅ h₅ => wpAny_pure (wpAny_pure ⟨rfl, h₅⟩)) fun _ _ h' => h')) fun _ _ h' => h'))
noncomputable def blk (X : Cx) (N : List Str) (scope : Scope) (cl : List (Str × Addr)) (C : Addr) (s₂ : Shared) (H₂ : Hp) (fp : List Addr) (pn : List (Addr × Obj)) : Cx :=
 { X with N := N, s₀ := s₂, H₀ := H₂, env := compEnvC scope cl C X.env, outer := X.stack, stack := X.stack, ex := fp, fn := fun _ => false, pn := pn, xe := fun _ _ => False }
noncomputable def qe7 (fr : List (Option Nat)) (σ : St) : St := fr.map fun o => match o with | some i => (σ[i]?).join | none => none
theorem xc5 {fr : List (Option Nat)} {σ : St} {j : Nat} {v : V} (h : (qe7 fr σ)[j]? = some (some v)) : ∃ i, fr[j]? = some (some i) /\ σ[i]? = some (some v) := by
 unfold qe7 at h
 rw [List.getElem?_map] at h
 cases e : fr[j]? with
 | none => rw [e] at h; cases h
 | some o =>
   rw [e] at h
   cases o with
   | none => cases h
   | some i =>
     refine ⟨i, rfl, ?_⟩
     have h' : (σ[i]?).join = some v := Option.some.inj h
     cases e2 : σ[i]? with
     | none => rw [e2] at h'; cases h'
     | some x => rw [e2] at h'; cases x with
       | none => cases h'
       | some y => cases h'; rfl
def xw7 (fr : List (Option Nat)) (g : TG) : Prop := ∀ (x : V) (σ : St) (H : Hp) (Q : St -> Hp -> Prop), g x σ H Q -> g x σ H fun σ2 H2 => Q σ2 H2 /\ ∀ (j i : Nat), fr[j]? = some (some i) -> σ2[j]? = σ[j]?
def xm0 (fr : List (Option Nat)) (g : TGs) : Prop := ∀ (xs : List V) (σ : St) (H : Hp) (Q : St -> Hp -> Prop), g xs σ H Q -> g xs σ H fun σ2 H2 => Q σ2 H2 /\ ∀ (j i : Nat), fr[j]? = some (some i) -> σ2[j]? = σ[j]?
theorem P5 {fr : List (Option Nat)} {i : Nat} (h : autoParam (fr[i]? = some none) zAr) : xw7 fr (B7 i) := fun x σ H Q q => ⟨q, fun j k hj => by
 have : i ≠ j := by rintro rfl; rw [h] at hj; cases hj
 rw [List.getElem?_set_ne this]⟩
theorem yp0 {fr : List (Option Nat)} : xm0 fr xb4 := fun xs σ H Q ⟨e, q⟩ => ⟨e, q, fun _ _ _ => rfl⟩
theorem xm1 {fr : List (Option Nat)} {i : Nat} {u : TGs} (h : fr[i]? = some none) (hu : xm0 fr u) : xm0 fr (X3 (B7 i) u) := fun xs σ H Q ⟨v, r, e, q⟩ => by
 refine ⟨v, r, e, ?_⟩
 have q : u r (σ.set i (some v)) H Q := q
 have e2 := hu _ _ _ _ q
 have k : ∀ j k, fr[j]? = some (some k) -> (σ.set i (some v))[j]? = σ[j]? := fun j k hj => by
  have : i ≠ j := by rintro rfl; rw [h] at hj; cases hj
  rw [List.getElem?_set_ne this]
 have e3 : (fun (σ2 : St) (H2 : Hp) => Q σ2 H2 /\ ∀ (j k : Nat), fr[j]? = some (some k) -> σ2[j]? = σ[j]?) = (fun (σ2 : St) (H2 : Hp) => Q σ2 H2 /\ ∀ (j k : Nat), fr[j]? = some (some k) -> σ2[j]? = (σ.set i (some v))[j]?) := by
  funext σ2 H2
  refine propext ⟨fun ⟨a, b⟩ => ⟨a, fun j m hj => (b j m hj).trans (k j m hj).symm⟩, fun ⟨a, b⟩ => ⟨a, fun j m hj => (b j m hj).trans (k j m hj)⟩⟩
 show u r (σ.set i (some v)) H _
 rw [e3]
 exact e2
theorem yp1 {fr : List (Option Nat)} {K : Fg} {n : Nat} {u : TGs} (hu : xm0 fr u) : xw7 fr (xb5 K n u) := fun x σ H Q ⟨a, xs, e1, e2, e3, q⟩ => ⟨a, xs, e1, e2, e3, hu _ _ _ _ q⟩
def PTs (X : Cx) (ifs : List Expr) (t : TT) : Prop :=
 ∀ (pins : List (Addr × Obj)) (s : Shared) (σ : St) (H : Hp) (Q : Bool -> Hp -> Prop), Inv X pins σ H s -> t σ H Q ->
  wpAny (model X.prog X.w) X.A (forIn ifs true fun c r => if r = true then do let ok <- isTrue c X.env (eval c X.env); pure (ForInStep.yield ok) else pure (ForInStep.yield r)) (TP X pins σ Q) X.xe s
def tTT : TT := fun _ H Q => Q true H
theorem W4 {X : Cx} : PTs X [] tTT := fun _ _ _ H _ I h => wpAny_tests_nil ⟨H, I, h⟩
theorem qm9 {X : Cx} {c : Expr} {t : TT} (h : PT X c t) : PTs X [c] t := fun pins s σ H Q I hq => wpAny_tests_one (h pins s σ H Q I hq)
structure qn0 (X : Cx) (scope : Scope) (N : List Str) (fr : List (Option Nat)) : Prop where
 kind : scope.kind = .function
 nocell : ∀ y ∈ scope.names, y.2 ≠ .cell
 names : ∀ y ∈ scope.names, y.2 = .local -> scope.names.lookup y.1 = some .local
 free : ∀ y ∈ scope.names, y.2 = .free -> X.env.scope.names.lookup y.1 = some .cell \/ X.env.scope.names.lookup y.1 = some .free
 len : N.length = fr.length
 at_ : ∀ (j i : Nat) (x : Str), fr[j]? = some (some i) -> N[j]? = some x -> X.N[i]? = some x /\ scope.names.lookup x = some .free
noncomputable def xm2 (osc : Scope) (ON : List Str) (scope : Scope) (N : List Str) (fr : List (Option Nat)) : Bool :=
 decide (scope.kind = .function) && scope.names.all (fun y => decide (y.2 ≠ .cell)) && scope.names.all (fun y => decide (y.2 ≠ .local) || decide (scope.names.lookup y.1 = some .local)) &&
 scope.names.all (fun y => decide (y.2 ≠ .free) || decide (osc.names.lookup y.1 = some .cell) || decide (osc.names.lookup y.1 = some .free)) && decide (N.length = fr.length) &&
 (fr.zip N).all (fun p => match p.1 with | some i => decide (ON[i]? = some p.2) && decide (scope.names.lookup p.2 = some .free) | none => true)
theorem L6 {X : Cx} {osc : Scope} {ON : List Str} {scope : Scope} {N : List Str} {fr : List (Option Nat)} (h : xm2 osc ON scope N fr = true) (e1 : X.env.scope = osc) (e2 : X.N = ON) : qn0 X scope N fr := by
 subst e1 e2
 unfold xm2 at h
 simp only [Bool.and_eq_true, List.all_eq_true, Bool.or_eq_true, decide_eq_true_eq] at h
 obtain ⟨⟨⟨⟨⟨h1, h2⟩, h3⟩, h4⟩, h5⟩, h6⟩ := h
 refine ⟨h1, h2, fun y hy e => (h3 y hy).resolve_left fun z => z e, fun y hy e => ?_, h5, fun j i x e1 e2 => ?_⟩
 ·rcases h4 y hy with (z | z) | z
  ·exact absurd e z
  ·exact .inl z
  ·exact .inr z
 ·have hm : (some i, x) ∈ fr.zip N := by
   apply List.mem_of_getElem? (i := j)
   rw [List.getElem?_zip_eq_some]
   exact ⟨e1, e2⟩
  have := h6 _ hm
  simpa using this
def P7 (fr : List (Option Nat)) (wi : TI) (g : TG) (tt : TT) (te : TE) : TE := fun σ H Q => wi σ H fun J H1 =>
 ∃ W : Nat -> Nat -> List V -> Hp -> Prop, (∃ m, W 0 m [] H1) /\ ∀ i m ys H, W i m ys H -> ys.length <= sizeLine /\
  ((J.stop i H /\ ∀ p, H p = none -> Q (.ref p) (upd H p (.lst ys))) \/
   (J.go i H /\ ∃ NN : List V -> Hp -> Prop, (∀ ys' H', NN ys' H' -> ∃ m', m' < m /\ W (i + 1) m' ys' H') /\ ∀ x H', J.yld i H x H' -> g x (qe7 fr σ) H' fun σ2 H2 => tt σ2 H2 fun b H3 =>
    if b = true then te σ2 H3 fun y H4 => NN (ys ++ [y]) H4 else NN ys H3))
structure yp2 (X : Cx) (pins : List (Addr × Obj)) (σ : St) (Q : VK) (C D : Addr) (s' : Shared) : Prop where
 ex : ∃ (ys : List V) (H : Hp), H D = none /\ (∃ m, s'.heap.Ns C m) /\ D ≠ C /\ C ≠ X.env.locals /\ (∀ x c, X.env.cells.lookup x = some c -> c ≠ C) /\ (∀ p ∈ X.pn ++ pins, p.1 ≠ C) /\ X.s₀.heap.objs.size <= C /\ C ∉ X.fs /\
  (upd H D (.lst ys)) C = none /\
  (∀ h', Heap.SameBut C s'.heap h' -> Inv X pins σ (upd H D (.lst ys)) { s' with heap := h' }) /\ Q (.ref D) (upd H D (.lst ys))
theorem wg0 {X : Cx} {elt iter tg : Expr} {ifs : List Expr} {scope : Scope} {pos : Pos} {N : List Str} {fr : List (Option Nat)} {g : TG} {tt : TT} {te : TE} {cl : List (Str × Addr)}
 (hcalm : X.calm = true) (S : qn0 X scope N fr) (hclS : ∀ x c, cl.lookup x = some c -> X.env.cells.lookup x = some c) (hclH : ∀ y ∈ scope.names, y.2 = .free -> ∃ c, cl.lookup y.1 = some c)
 (hg : ∀ C s₂ H₂ fp pn, PG (blk X N scope cl C s₂ H₂ fp pn) tg g) (hgo : xw7 fr g) (ht : ∀ C s₂ H₂ fp pn, PTs (blk X N scope cl C s₂ H₂ fp pn) ifs tt) (he : ∀ C s₂ H₂ fp pn, PE (blk X N scope cl C s₂ H₂ fp pn) elt te)
 {pins : List (Addr × Obj)} {s2 : Shared} {σ : St} {H2 : Hp} {Q : VK} {it : Addr} {fp : List Addr} {tn : Nat -> Heap -> Prop} {J : It} (I2 : Inv X pins σ H2 s2) (T : wn6 X.prog X.w X.K tg J fp it tn) (st2 : tn 0 s2.heap) (f2 : ∀ b ∈ fp, wn5 X pins H2 b)
 (W : Nat -> Nat -> List V -> Hp -> Prop) (w0 : ∃ m, W 0 m [] H2)
 (turn : ∀ i m ys H, W i m ys H -> ys.length <= sizeLine /\
 ((J.stop i H /\ ∀ p, H p = none -> Q (.ref p) (upd H p (.lst ys))) \/
  (J.go i H /\ ∃ NN : List V -> Hp -> Prop, (∀ ys' H', NN ys' H' -> ∃ m', m' < m /\ W (i + 1) m' ys' H') /\ ∀ x H', J.yld i H x H' -> g x (qe7 fr σ) H' fun σ2 H2 => tt σ2 H2 fun b H3 =>
   if b = true then te σ2 H3 fun y H4 => NN (ys ++ [y]) H4 else NN ys H3)))
 {E : Value -> Shared -> Prop} {RR : Value -> Addr -> Result -> Shared -> Prop} (hRR : ∀ C D s', yp2 X pins σ Q C D s' -> RR (.ref D) C (.ok .next) s') :
 wpAny (model X.prog X.w) X.A (newList []) (fun acc s₃ => wpAny (model X.prog X.w) X.A (newFunctionEnv scope X.env.globals cl [] X.env.qual none .none (some X.env)) (fun cenv s₄ =>
  codeAny (model X.prog X.w) X.A (.compStart (.ListComp elt [⟨tg, iter, ifs, 0⟩] scope pos) 0 (.ref it) acc { cenv with scope := relabel scope X.env }) (RR acc cenv.locals) s₄) E s₃) E s2 := by
 obtain ⟨m0, w0⟩ := w0
 refine wpAny_newObj_type (wpAny_newFunctionEnv S.nocell (by intro y hy; simp at hy) (fun h₁ hns₁ hsb₁ => ?_) S.kind)
 dsimp only at hns₁ hsb₁ ⊢
 generalize hHH : s2.heap.push { cls := .type "list", dict := none, data := .seq ([] : List Value).toArray } = HH at hns₁ hsb₁ ⊢
 have hC : HH.objs.size = s2.heap.objs.size + 1 := by rw [<- hHH, Heap.size_push]
 generalize hDD : s2.heap.objs.size = D at *
 generalize hCC : HH.objs.size = C at *
 have hDlt : Nat.lt D C := by show D < C; rw [hC]; exact Nat.lt_succ_self _
 have hDC : D ≠ C := Nat.ne_of_lt hDlt
 have neD : ∀ {b : Addr}, Nat.lt b D -> b ≠ D := fun h => Nat.ne_of_lt h
 have neC : ∀ {b : Addr}, Nat.lt b D -> b ≠ C := fun h => Nat.ne_of_lt (Nat.lt_trans h hDlt)
 have below : ∀ (b : Addr) (o : Obj), s2.heap.get? b = some o -> Nat.lt b D := fun b o e => by rw [<- hDD]; exact Heap.lt_size e
 have old : ∀ b o, s2.heap.get? b = some o -> h₁.get? b = some o := fun b o e => hsb₁.extBut b o (neC (below b o e)) (Heap.get?_push_of_some _ (hHH ▸ Heap.get?_push_of_some _ e))
 have hacc : h₁.get? D = some { cls := .type "list", data := .seq ([] : List Value).toArray } := hsb₁.extBut _ _ hDC (Heap.get?_push_of_some _ (by rw [<- hHH, <- hDD]; exact Heap.get?_push_size _ rfl))
 have Lt : Nat.lt X.env.locals D := by rw [<- hDD]; exact I2.lt
 have cellLt : ∀ x c, X.env.cells.lookup x = some c -> Nat.lt c D := fun x c e => by
  obtain ⟨v, q⟩ := I2.cell x c e
  rw [<- hDD]; exact q.lt
 have pinLt : ∀ p ∈ X.pn ++ pins, Nat.lt p.1 D := fun p hp => below p.1 p.2 (I2.pin p hp).1
 have freshH : ∀ b : Addr, Nat.le D b -> H2 b = none := fun b hb => I2.hok.fresh (by rw [hDD]; exact hb)
 let X' : Cx := blk X N scope cl C s2 H2 fp (X.pn ++ pins)
 have okX : X'.Ok := by
  refine ⟨I2.ok.mod, S.kind, I2.ok.glob, I2.ok.blt, by show s2.heap.objs.size <= C; rw [hDD]; exact Nat.le_of_lt hDlt, fun x y c e1 e2 => I2.ok.inj x y c (hclS _ _ e1) (hclS _ _ e2), fun x hx => ?_, fun x c hf _ => (by cases hf), I2.ok.hd, I2.ok.frames, .inl rfl, fun b hb => ⟨?_, fun x c e => (f2 b hb).2.2.2.2.1 x c (hclS _ _ e)⟩, I2.bs, Nat.le_trans I2.ok.bsz I2.sz, fun b o e hb => ?_, fun b hb hm => ?_, I2.stack, I2.stkFree⟩
  ·have hx : (relabel scope X.env).names.lookup x = some .cell \/ (relabel scope X.env).names.lookup x = some .free := hx
   have hf : scope.names.lookup x = some .free := by
    rcases hx with hx | hx
    ·rcases R1 hx with h | ⟨_, h⟩
     ·exact absurd rfl (S.nocell _ (PySem.mem_of_lookup h))
     ·exact h
    ·rcases R1 hx with h | ⟨h, _⟩
     ·exact h
     ·cases h
   exact hclH _ (PySem.mem_of_lookup hf) rfl
  ·obtain ⟨o, e, _⟩ := T.obj 0 _ st2 b hb
   exact neC (below b o e)
  ·obtain ⟨_, _, _, h, _⟩ := f2 b hb
   rcases h with h | h
   ·exact I2.ok.noex b o e h
   ·have := Heap.lt_size (I2.ok.bs b o e).1
    exact absurd (Nat.lt_of_lt_of_le this h) (Nat.lt_irrefl _)
  ·rcases List.mem_cons.mp (I2.stkSub b hm) with h | h
   ·exact (f2 b hb).2.1 h
   ·exact (f2 b hb).2.2.1 h
 have I4 : ∀ tk, 0 < tk -> Inv X' [(D, { cls := .type "list", data := .seq ([] : List Value).toArray })] (qe7 fr σ) H2 { s2 with heap := h₁, toks := tk } := fun tk htk => by
  refine ⟨okX, rfl, I2.bare, Un.kept old, ⟨_, hns₁, fun j x v e1 e2 e3 => ?_⟩, fun x c e => ?_, freshH C (Nat.le_of_lt hDlt), fun x c e => I2.freeC x c (hclS _ _ e), fun p hp => ?_, I2.hok.kept old, ?_, htk⟩
  ·obtain ⟨i, q1, q2⟩ := xc5 e2
   obtain ⟨a1, a2⟩ := S.at_ j i x q1 e1
   obtain ⟨m, hn, hl⟩ := I2.loc
   have vis : Vis X.env.scope x := by
    rcases S.free _ (PySem.mem_of_lookup a2) rfl with h | h
    ·exact .inr (.inl h)
    ·exact .inr (.inr h)
   obtain ⟨u, r, l⟩ := hl i x v a1 q2 vis
   refine ⟨u, r, .inr ⟨?_, ?_⟩⟩
   ·exact Y2 (env := X.env) a2
   ·rcases l with ⟨hk, _⟩ | ⟨_, c, hc, hcell⟩
    ·have hk : X.env.scope.names.lookup x = some .local := hk
     rcases S.free _ (PySem.mem_of_lookup a2) rfl with h | h
     ·have h : X.env.scope.names.lookup x = some .cell := h
      rw [hk] at h; cases h
     ·have h : X.env.scope.names.lookup x = some .free := h
      rw [hk] at h; cases h
    ·obtain ⟨c', hc'⟩ := hclH _ (PySem.mem_of_lookup a2) rfl
     have : c = c' := by
      have := hclS _ _ hc'
      rw [hc] at this
      exact Option.some.inj this
     subst this
     obtain ⟨o, ho, hd⟩ := hcell
     exact ⟨c, hc', o, old c o ho, hd⟩
  ·obtain ⟨v, o, ho, hd⟩ := I2.cell x c (hclS _ _ e)
   exact ⟨v, o, old c o ho, hd⟩
  ·rcases List.mem_append.mp hp with hp | hp
   ·obtain ⟨e, n, ne, nf, d⟩ := I2.pin p hp
    refine ⟨old _ _ e, n, ?_, fun hm => ?_, d⟩
    ·exact neC (pinLt p hp)
    ·rcases List.mem_cons.mp (I2.stkSub _ hm) with h | h
     ·exact ne h
     ·exact nf h
   ·have hp : p = (D, { cls := .type "list", data := .seq ([] : List Value).toArray }) := by simpa using hp
    subst hp
    refine ⟨hacc, freshH D (Nat.le_refl _), hDC, fun hm => ?_, fun v z => by cases z⟩
    rcases List.mem_cons.mp (I2.stkSub _ hm) with h | h
    ·exact neD Lt h.symm
    ·exact I2.nofs (by rw [hDD]; exact Nat.le_refl _) h
  ·show (qe7 fr σ).length = N.length
   unfold qe7
   rw [List.length_map, S.len]
 have fpLt : ∀ b ∈ fp, Nat.lt b D := fun b hb => by
  obtain ⟨o, e, _⟩ := T.obj 0 _ st2 b hb
  exact below b o e
 have fpk : ∀ {H : Hp} {oD : Obj}, (∀ b ∈ fp, H b = none) -> ∀ b ∈ fp, wn5 X' [(D, oD)] H b := fun {H oD} hn b hb => by
  refine ⟨hn b hb, ?_, fun hm => ?_, .inl hb, fun x c e => (f2 b hb).2.2.2.2.1 x c (hclS _ _ e), fun p hp => ?_⟩
  ·exact neC (fpLt b hb)
  ·rcases List.mem_cons.mp (I2.stkSub b hm) with h | h
   ·exact (f2 b hb).2.1 h
   ·exact (f2 b hb).2.2.1 h
  ·rcases List.mem_append.mp hp with hp | hp
   ·exact (f2 b hb).2.2.2.2.2 p hp
   ·have hp : p = (D, oD) := by simpa using hp
    subst hp
    exact (neD (fpLt b hb)).symm
 have loop : ∀ s₃ : Shared, s₃ = { s2 with heap := h₁, toks := s2.toks + ([] : List (Str × Value)).length } ->
  codeAny (model X.prog X.w) X.A (.compLoop (.ListComp elt [⟨tg, iter, ifs, 0⟩] scope pos) 0 (.ref it) (.ref D) (compEnvC scope cl C X.env)) (RR (.ref D) C) s₃ := by
  rintro s₃ rfl
  refine qk9 (fun n s' => ∃ i ys its k H', Inv X' [(D, ({ cls := .type "list", data := .seq its k } : Obj))] (qe7 fr σ) H' s' /\ tn i s'.heap /\ (∀ b ∈ fp, H' b = none) /\ G4 ys its.toList /\ W i n ys H') ?_ m0
   ⟨0, [], #[], _, H2, I4 _ (by first | exact I2.tk | exact Nat.succ_pos _), T.keep 0 _ _ st2 (fun b _ o e => old b o e), fun b hb => (f2 b hb).1, .nil, w0⟩
  rintro n s3 ⟨i, ys, its, k, H3, I3, st3, fr3, vy, w3⟩
  obtain ⟨hsz, h⟩ := turn i n ys H3 w3
  rcases h with ⟨stop, qn⟩ | ⟨go, NN, hNN, step⟩
  ·refine noE (thn (T.done X' rfl rfl rfl hcalm i [(D, _)] s3 (qe7 fr σ) H3 _ I3 (fpk fr3) st3 stop) fun r s4 zq => ?_)
   obtain ⟨hr, I4⟩ := zq
   subst hr
   refine hRR C D s4 ⟨ys, H3, ?_⟩
   obtain ⟨pD, nD, _, _, _⟩ := I4.pin (D, _) (List.mem_append_right _ (List.mem_singleton.mpr rfl))
   have pD : s4.heap.get? D = some { cls := .type "list", data := .seq its k } := pD
   have nD : H3 D = none := nD
   have nC : H3 C = none := I4.free
   obtain ⟨mC, hnC, _⟩ := I4.loc
   refine ⟨nD, ⟨mC, hnC⟩, hDC, (neC Lt).symm, fun x c e z => ?_, fun p hp z => ?_, ?_, fun hm => ?_, ?_, fun h' hsb => ?_, qn D nD⟩
   ·exact neC (cellLt x c e) z
   ·exact neC (pinLt p hp) z
   ·have := I2.sz; rw [hDD] at this; exact Nat.le_trans this (Nat.le_of_lt hDlt)
   ·exact I2.nofs (by rw [hDD]; exact Nat.le_of_lt hDlt) hm
   ·rw [B8 (Ne.symm hDC)]; exact nC
   ·have un : Un (frs X.stack) fp H2 (upd H3 D (.lst ys)) s2.heap h' := by
     have u := I4.base
     have neC : ∀ (b : Addr) (o : Obj), s2.heap.get? b = some o -> b ≠ C := fun b o e => neC (below b o e)
     have neD : ∀ (b : Addr) (o : Obj), s2.heap.get? b = some o -> b ≠ D := fun b o e => neD (below b o e)
     have trkNe : ∀ b (o : HO), H3 b = some o -> b ≠ D := fun b o e z => by rw [z, nD] at e; cases e
     refine ⟨fun b o e n hb hx => hsb.extBut b o (neC b o e) (u.keep b o e n hb hx), fun b o e n hb hx => ?_, fun b o e n hx => by rw [B8 (neD b o e)]; exact u.free b o e n hx, fun b o e hx => ?_, fun b xs e => ?_, fun b o xs e => ?_, fun b ps e => ?_⟩
     ·obtain ⟨sl, q⟩ := u.slot b o e n hb hx
      exact ⟨sl, hsb.extBut b _ (neC b o e) q⟩
     ·obtain ⟨o', q⟩ := u.there b o e hx
      exact ⟨o', hsb.extBut b _ (neC b o e) q⟩
     ·have q := u.tups b xs e
      rw [B8 (trkNe b _ q)]; exact q
     ·have q := u.frzs b o xs e
      rw [B8 (trkNe b _ q)]; exact q
     ·obtain ⟨more, q⟩ := u.tbls b ps e
      exact ⟨more, by rw [B8 (trkNe b _ q)]; exact q⟩
    have hok : HOk X.prog X.w (upd H3 D (.lst ys)) h' := fun b u e => by
     by_cases hb : b = D
     ·rw [hb, A8] at e
      cases e
      rw [hb]
      exact ⟨hsz, its.toList, k, vy, by simpa using hsb.extBut D _ hDC pD⟩
     ·rw [B8 hb] at e
      refine (I4.hok b u e).stay (fun c v hc q => hsb.extBut c v ?_ q) (fun c q => ?_) fun c xs q => ?_
      ·rcases hc with rfl | hc
       ·rintro rfl; rw [nC] at e; cases e
       ·rintro rfl; rw [nC] at hc; cases hc
      ·rw [B8 (D8 q nD)]; exact q
      ·rw [B8 (D8 q nD)]; exact q
    obtain ⟨hh, gg, dd, tt', os'⟩ := s4
    obtain rfl : os' = s2.os := I4.os
    refine (show Inv X pins σ (upd H3 D (.lst ys)) { s2 with heap := h', gens := gg, drawn := dd, toks := tt' } from I2.call (h' := h') (g' := gg) (d' := dd) (t' := tt') (ch := fp) un hok I4.bare fun b hb => ?_)
    obtain ⟨_, f1, _, f3, f4, f5⟩ := f2 b hb
    exact ⟨f3, f1, f4, f5⟩
  ·refine noE (thn (T.item X' rfl rfl rfl hcalm i [(D, _)] s3 (qe7 fr σ) H3 _ I3 (fpk fr3) st3 go) fun r s4 zq => ?_)
   obtain ⟨u, hr, h4⟩ := zq
   subst hr
   refine noE (thn h4 fun _ s5 zq => ?_)
   obtain ⟨x, H5, I5, r5, y5, st5, fr5⟩ := zq
   have I5' := I5.pinned (fpk fr5) (T.obj _ _ st5)
   refine noE (thn (hg C s2 H2 fp (X.pn ++ pins) _ s5 (qe7 fr σ) H5 x u _ I5' r5 (hgo _ _ _ _ (step x H5 y5))) fun _ s6 zq => ?_)
   obtain ⟨σ6, H6, I6, q6, k6⟩ := zq
   refine noE (thn (ht C s2 H2 fp (X.pn ++ pins) _ s6 σ6 H6 _ I6 q6) fun b s7 zq => ?_)
   obtain ⟨H7, I7, q7⟩ := zq
   have back : ∀ {s8 : Shared} {H8 : Hp}, Inv X' ([(D, ({ cls := .type "list", data := .seq its k } : Obj))] ++ wf3 fp s5.heap) σ6 H8 s8 -> Inv X' [(D, ({ cls := .type "list", data := .seq its k } : Obj))] (qe7 fr σ) H8 s8 /\ tn (i + 1) s8.heap /\ ∀ b ∈ fp, H8 b = none := fun {s8 H8} I8 => by
    refine ⟨(I8.unpinned).weak ?_ fun j v e => ?_, T.keep _ _ _ st5 fun b hb o e => (I8.pin (b, o) (List.mem_append_right _ (List.mem_append_right _ (qg7 hb e)))).1, fun b hb => ?_⟩
    ·rw [I8.len]; show (qe7 fr σ).length = N.length; unfold qe7; rw [List.length_map, S.len]
    ·obtain ⟨i', q1, _⟩ := xc5 e
     rw [k6 j i' q1]; exact e
    ·obtain ⟨o, e, d⟩ := T.obj _ _ st5 b hb
     exact (I8.pin (b, o) (List.mem_append_right _ (List.mem_append_right _ (qg7 hb e)))).2.1
   cases b with
   | false =>
     rw [if_neg Bool.false_ne_true] at q7 ⊢
     obtain ⟨m', hm, w7⟩ := hNN _ _ q7
     obtain ⟨J1, J2, J3⟩ := back I7
     exact ⟨m', hm, i + 1, ys, its, k, H7, J1, J2, J3, vy, w7⟩
   | true =>
     rw [if_pos rfl] at q7 ⊢
     refine noE (thn (he C s2 H2 fp (X.pn ++ pins) _ s7 σ6 H7 _ I7 q7) fun y s8 zq => ?_)
     obtain ⟨yv, H8, I8, r8, n8⟩ := zq
     obtain ⟨m', hm, w8⟩ := hNN _ _ n8
     obtain ⟨J1, J2, J3⟩ := back I8
     obtain ⟨pD, nD, _, _, _⟩ := J1.pin (D, _) (List.mem_append_right _ (List.mem_singleton.mpr rfl))
     have pD : s8.heap.get? D = some { cls := .type "list", data := .seq its k } := pD
     have nD : H8 D = none := nD
     have hz' : its.size <= sizeLine := by
      have e1 : its.size = ys.length := by rw [vy.length]; simp
      rw [e1]; exact hsz
     refine wpAny_list_append_plain (hsz := hz') ⟨k, pD⟩ fun h' ⟨k', hl'⟩ hsb => ?_
     ·refine ⟨m', hm, i + 1, ys ++ [yv], its.push y, k', H8, ?_, T.keep _ _ _ J2 fun b hb o e => ?_, J3, ?_, w8⟩
      ·have K0 : Inv X' [] (qe7 fr σ) H8 s8 := J1.pins_of fun p hp => by cases hp
       have K1 : Inv X' [] (qe7 fr σ) H8 { s8 with heap := h' } := by
        refine K0.turned (it := D) (t' := s8.toks) (fun b o hb e => hsb.extBut b o hb e) nD hDC (.inr (by show s2.heap.objs.size <= D; rw [hDD]; exact Nat.le_refl _)) (fun x c e z => ?_) fun p hp z => ?_
        ·exact neD (cellLt x c (hclS _ _ e)) z
        ·have hp : p ∈ X.pn ++ pins := by
          rcases List.mem_append.mp hp with hp | hp
          ·exact hp
          ·cases hp
         exact neD (pinLt p hp) z
       refine K1.pins_of fun p hp => ?_
       have hp : p = (D, ({ cls := .type "list", data := .seq (its.push y) k' } : Obj)) := by simpa using hp
       subst hp
       refine ⟨hl', nD, hDC, fun hm => ?_, fun v z => by cases z⟩
       rcases List.mem_cons.mp (I2.stkSub _ hm) with h | h
       ·exact neD Lt h.symm
       ·exact I2.nofs (by rw [hDD]; exact Nat.le_refl _) h
      ·exact hsb.extBut b o (neD (fpLt b hb)) e
      ·rw [Array.toList_push]
       exact G4.append vy (.cons r8 .nil)
 exact codeAny_compStart_list (loop _ rfl) (T.self _ 0 _ _ _ (T.keep 0 _ _ st2 fun b _ o e => old b o e) (loop _ rfl))
theorem qc6 {X : Cx} {elt iter tg : Expr} {ifs : List Expr} {scope : Scope} {pos : Pos} {N : List Str} {fr : List (Option Nat)} {wi : TI} {g : TG} {tt : TT} {te : TE}
 (hcalm : X.calm = true) (S : qn0 X scope N fr) (hi : PI X tg iter wi)
 (hg : ∀ cl C s₂ H₂ fp pn, PG (blk X N scope cl C s₂ H₂ fp pn) tg g) (hgo : xw7 fr g) (ht : ∀ cl C s₂ H₂ fp pn, PTs (blk X N scope cl C s₂ H₂ fp pn) ifs tt) (he : ∀ cl C s₂ H₂ fp pn, PE (blk X N scope cl C s₂ H₂ fp pn) elt te)
 (hs : autoParam (∀ x, foldedSetIterable iter X.env x = pure x) zAi) : PE X (.ListComp elt [⟨tg, iter, ifs, 0⟩] scope pos) (P7 fr wi g tt te) := by
 intro pins s σ H Q I h
 obtain ⟨cl, hclos, hclS, hclH⟩ := qo2 (env := X.env) (scope := scope) fun y hy hf => I.ok.has y.1 (S.free y hy hf)
 rw [eval_ListComp]
 refine wpAny_comprehension_free (use := none) rfl hs hclos S.kind S.names (thn (hi pins s σ H _ I h) fun v s1 h1 => thn h1 fun itv s2 h2 => ?_)
 obtain ⟨it, fp, tn, J, H2, e, I2, T, st2, f2, W, w0, turn⟩ := h2
 subst e
 refine wg0 (RR := fun acc C => compPost (model X.prog X.w) X.A X.xe none (EP X pins σ Q) acc C) hcalm S hclS hclH (hg cl) hgo (ht cl) (he cl) I2 T st2 f2 W w0 turn fun C D s' B => ?_
 obtain ⟨ys, H', nD, hC, _, _, _, _, _, _, _, hI, q⟩ := B.ex
 obtain ⟨m, hn⟩ := hC
 exact ⟨m, hn, fun h' hs' => ⟨.ref D, _, hI h' hs', rfl, q⟩⟩
theorem qc7 {X : Cx} {elt iter tg : Expr} {ifs : List Expr} {scope : Scope} {pos spos py : Pos} {N : List Str} {fr : List (Option Nat)} {wi : TI} {g : TG} {tt : TT} {te : TE} {i : Nat} {y : Str}
 (hN : X.N.Nodup) (hy : X.N[i]? = some y) (hly : X.env.scope.names.lookup y = some .local)
 (hcalm : X.calm = true) (S : qn0 X scope N fr) (hi : PI X tg iter wi)
 (hg : ∀ cl C s₂ H₂ fp pn, PG (blk X N scope cl C s₂ H₂ fp pn) tg g) (hgo : xw7 fr g) (ht : ∀ cl C s₂ H₂ fp pn, PTs (blk X N scope cl C s₂ H₂ fp pn) ifs tt) (he : ∀ cl C s₂ H₂ fp pn, PE (blk X N scope cl C s₂ H₂ fp pn) elt te)
 (hsw : autoParam (swapsWith (.ListComp elt [⟨tg, iter, ifs, 0⟩] scope pos) (some (.Name y py)) spos.line X.env = pure true) zAr)
 (hs : autoParam (∀ x, foldedSetIterable iter X.env x = pure x) zAi) : PS X (.Assign [.Name y py] (.ListComp elt [⟨tg, iter, ifs, 0⟩] scope pos) spos) (G0 (P7 fr wi g tt te) (B7 i)) := by
 intro pins s σ H D I h
 obtain ⟨cl, hclos, hclS, hclH⟩ := qo2 (env := X.env) (scope := scope) fun y hy hf => I.ok.has y.1 (S.free y hy hf)
 rw [exec_Assign_Name_used _ _ _ _ hsw]
 refine wpAny_bind (wpAny_standAt (wpAny_bind ?_))
 show wpAny _ X.A (do let _ <- comprehension (.ListComp elt [⟨tg, iter, ifs, 0⟩] scope pos) scope X.env _ (newList []) false (eval iter X.env) (some (assign (.Name y py) X.env))) _ _ s
 refine wpAny_bind (wpAny_mono (wpAny_comprehension_free (use := some (assign (.Name y py) X.env)) (Q := fun _ s' => SP X pins D .next s') rfl hs hclos S.kind S.names
  (thn (hi pins s σ H _ I h) fun v s1 h1 => thn h1 fun itv s2 h2 => ?_)) (fun _ s' hq => wpAny_pure (wpAny_pure hq)) fun _ _ e => e)
 obtain ⟨it, fp, tn, J, H2, e, I2, T, st2, f2, W, w0, turn⟩ := h2
 subst e
 refine wg0 (Q := fun x H1 => B7 i x σ H1 D.nx) (RR := fun acc C => compPost (model X.prog X.w) X.A X.xe (some (assign (.Name y py) X.env)) (fun _ s' => SP X pins D .next s') acc C) hcalm S hclS hclH (hg cl) hgo (ht cl) (he cl) I2 T st2 f2 W w0 turn fun C D' s' B => ?_
 obtain ⟨ys, H', nD, hC, hDC, hCL, hCc, hCp, hCs, hCf, hCn, hI, q⟩ := B.ex
 obtain ⟨m, hn⟩ := hC
 have I1 : Inv X pins σ (upd H' D' (.lst ys)) s' := by
  have := hI s'.heap (.refl ..)
  obtain ⟨hh, gg, dd, tt', os'⟩ := s'
  exact this
 show wpAny _ X.A (assign (.Name y py) X.env (.ref D')) _ _ _
 refine wpAny_assign_Name (ws7 I1 hN hy (.inl hly) (v := .ref D') rfl (fun s2 I3 zq => ?_) (.inr hly))
 obtain ⟨a, sb, ha⟩ := zq
 have hCa : C ≠ a := by
  rcases ha with rfl | ha
  ·exact hCL
  ·exact fun z => hCc y a ha z.symm
 refine ⟨m, hn.sameBut sb hCa, fun h3 hs3 => ?_⟩
 exact ⟨_, _, I3.turned (it := C) (t' := s2.toks) (fun b o hb e => hs3.extBut b o hb e) hCn hCL (.inr hCs) hCc hCp, q⟩
end L2
namespace L2
open PySem PySem.Spec PyProof.Rows
mutual
def Dv (K : Fg) (H : Hp) : PyData -> V -> Prop
 | .none, v => v = .non
 | .bool b, v => v = .bl b
 | .int i, v => v = .int i
 | .str x, v => v = .str x
 | .list ds, v => ∃ a vs, v = .ref a /\ SqL K H a vs /\ Dvs K H ds vs
 | .tuple ds, v => ∃ a vs, v = .ref a /\ SqT K H a vs /\ Dvs K H ds vs
 | .dict _, _ => False
def Dvs (K : Fg) (H : Hp) : List PyData -> List V -> Prop
 | [], vs => vs = []
 | d :: ds, vs => ∃ v r, vs = v :: r /\ Dv K H d v /\ Dvs K H ds r
end
section
variable {K : Fg} {H H' : Hp}
theorem Dvs.length : ∀ {ds : List PyData} {vs : List V}, Dvs K H ds vs -> vs.length = ds.length
 | [], _, h => by rw [Dvs] at h; subst h; rfl
 | d :: ds, _, h => by
   rw [Dvs] at h
   obtain ⟨v, r, rfl, _, h⟩ := h
   rw [List.length_cons, List.length_cons, Dvs.length h]
theorem Dvs.get' : ∀ {ds : List PyData} {vs : List V} {i : Nat} {v : V}, Dvs K H ds vs -> vs[i]? = some v -> ∃ d, ds[i]? = some d /\ Dv K H d v
 | [], _, _, _, h, e => by rw [Dvs] at h; subst h; simp at e
 | d :: ds, _, 0, _, h, e => by
   rw [Dvs] at h
   obtain ⟨v, r, rfl, h, _⟩ := h
   cases e
   exact ⟨d, rfl, h⟩
 | d :: ds, _, i + 1, _, h, e => by
   rw [Dvs] at h
   obtain ⟨v, r, rfl, _, h⟩ := h
   exact Dvs.get' (i := i) h (by simpa using e)
theorem Q5 : Dvs K H [] [] := by rw [Dvs]
theorem M7 {d : PyData} {ds : List PyData} {v : V} {vs : List V} (h : Dv K H d v) (t : Dvs K H ds vs) : Dvs K H (d :: ds) (v :: vs) := by rw [Dvs]; exact ⟨v, vs, rfl, h, t⟩
theorem qs6 {v : V} : Dv K H .none v ↔ v = .non := by rw [Dv]
theorem qs7 {b : Bool} {v : V} : Dv K H (.bool b) v ↔ v = .bl b := by rw [Dv]
theorem qx8 {i : Int} {v : V} : Dv K H (.int i) v ↔ v = .int i := by rw [Dv]
theorem R3 {x : Str} {v : V} : Dv K H (.str x) v ↔ v = .str x := by rw [Dv]
theorem W5 {ds : List PyData} {v : V} : Dv K H (.list ds) v ↔ ∃ a vs, v = .ref a /\ SqL K H a vs /\ Dvs K H ds vs := by rw [Dv]
theorem N0 {ds : List PyData} {v : V} : Dv K H (.tuple ds) v ↔ ∃ a vs, v = .ref a /\ SqT K H a vs /\ Dvs K H ds vs := by rw [Dv]
noncomputable def sDa (xs : List Str) : List PyData := xs.map .str
noncomputable def B2 (xs : List Str) : List V := xs.map .str
theorem R7 : ∀ {xs : List Str} {vs : List V}, Dvs K H (sDa xs) vs ↔ vs = B2 xs
 | [], _ => by show Dvs K H [] _ ↔ _ = []; rw [Dvs]
 | x :: xs, vs => by
   show Dvs K H (.str x :: sDa xs) vs ↔ vs = V.str x :: B2 xs
   rw [Dvs]
   constructor
   ·rintro ⟨v, r, rfl, h1, h2⟩
    rw [R3.mp h1, R7.mp h2]
   ·rintro rfl
    exact ⟨_, _, rfl, R3.mpr rfl, R7.mpr rfl⟩
end
def qn8 (H H' : Hp) : Prop := (∀ b xs, H b = some (.tup xs) -> H' b = some (.tup xs)) /\ ∀ b o xs, H b = some (.frz o (.tup xs)) -> H' b = some (.frz o (.tup xs))
theorem B1.tupK {H H' : Hp} (h : B1 H H') : qn8 H H' := ⟨fun b xs e => h b _ e, fun b o xs e => h b _ e⟩
theorem qn8.trans {H H1 H2 : Hp} (a : qn8 H H1) (b : qn8 H1 H2) : qn8 H H2 := ⟨fun c xs e => b.1 c xs (a.1 c xs e), fun c o xs e => b.2 c o xs (a.2 c o xs e)⟩
theorem qn8.sqT {K : Fg} {H H' : Hp} {a : Addr} {xs : List V} (e : qn8 H H') (h : SqT K H a xs) : SqT K H' a xs := by
 rcases h with (h | ⟨o, h⟩) | h
 ·exact .inl (.inl (e.1 _ _ h))
 ·exact .inl (.inr ⟨o, e.2 _ _ _ h⟩)
 ·exact .inr h
theorem B1.sqT {K : Fg} {H H' : Hp} {a : Addr} {xs : List V} (e : B1 H H') (h : SqT K H a xs) : SqT K H' a xs := e.tupK.sqT h
theorem B1.sqL {K : Fg} {H H' : Hp} {a : Addr} {xs : List V} (e : B1 H H') (h : SqL K H a xs) : SqL K H' a xs := e.seq h
theorem B1.new {H : Hp} {p : Addr} (h : H p = none) (o : HO) : B1 H (upd H p o) := fun b u q => by rw [B8 (D8 q h)]; exact q
def But (ps : List Addr) (H H' : Hp) : Prop := ∀ b o, H b = some o -> b ∉ ps -> H' b = some o
theorem But.refl (ps : List Addr) (H : Hp) : But ps H H := fun _ _ e _ => e
theorem But.trans {ps : List Addr} {H H1 H2 : Hp} (a : But ps H H1) (b : But ps H1 H2) : But ps H H2 := fun c o e n => b c o (a c o e n) n
theorem But.upd {ps : List Addr} {H : Hp} {p : Addr} (h : p ∈ ps) (o : HO) : But ps H (upd H p o) := fun b u q n => by rw [B8 (by rintro rfl; exact n h)]; exact q
mutual
/-- data without lists -/
noncomputable def fix : PyData -> Bool
 | .none => true | .bool _ => true | .int _ => true | .str _ => true
 | .list _ => false
 | .tuple ds => qp5 ds
 | .dict _ => false
noncomputable def qp5 : List PyData -> Bool
 | [] => true
 | d :: ds => fix d && qp5 ds
end
mutual
theorem Dv.tupK {K : Fg} {H H' : Hp} (k : qn8 H H') : ∀ (d : PyData) (v : V), fix d = true -> Dv K H d v -> Dv K H' d v
 | .none, _, _, h => qs6.mpr (qs6.mp h)
 | .bool _, _, _, h => qs7.mpr (qs7.mp h)
 | .int _, _, _, h => qx8.mpr (qx8.mp h)
 | .str _, _, _, h => R3.mpr (R3.mp h)
 | .list _, _, f, _ => by rw [fix] at f; cases f
 | .tuple ds, v, f, h => by
   rw [fix] at f
   obtain ⟨a, vs, rfl, hq, h⟩ := N0.mp h
   exact N0.mpr ⟨a, vs, rfl, k.sqT hq, Dvs.tupK k ds vs f h⟩
 | .dict _, _, f, _ => by rw [fix] at f; cases f
theorem Dvs.tupK {K : Fg} {H H' : Hp} (k : qn8 H H') : ∀ (ds : List PyData) (vs : List V), qp5 ds = true -> Dvs K H ds vs -> Dvs K H' ds vs
 | [], _, _, h => by rw [Dvs] at h ⊢; exact h
 | d :: ds, vs, f, h => by
   rw [qp5, Bool.and_eq_true] at f
   rw [Dvs] at h ⊢
   obtain ⟨v, r, e, h1, h2⟩ := h
   exact ⟨v, r, e, Dv.tupK k d v f.1 h1, Dvs.tupK k ds r f.2 h2⟩
end
mutual
theorem Dv.same {K : Fg} {H H' : Hp} (k : B1 H H') : ∀ (d : PyData) (v : V), Dv K H d v -> Dv K H' d v
 | .none, _, h => qs6.mpr (qs6.mp h)
 | .bool _, _, h => qs7.mpr (qs7.mp h)
 | .int _, _, h => qx8.mpr (qx8.mp h)
 | .str _, _, h => R3.mpr (R3.mp h)
 | .list ds, v, h => by
   obtain ⟨a, vs, rfl, hq, h⟩ := W5.mp h
   exact W5.mpr ⟨a, vs, rfl, k.sqL hq, Dvs.same k ds vs h⟩
 | .tuple ds, v, h => by
   obtain ⟨a, vs, rfl, hq, h⟩ := N0.mp h
   exact N0.mpr ⟨a, vs, rfl, k.sqT hq, Dvs.same k ds vs h⟩
 | .dict _, _, h => by rw [Dv] at h; exact h.elim
theorem Dvs.same {K : Fg} {H H' : Hp} (k : B1 H H') : ∀ (ds : List PyData) (vs : List V), Dvs K H ds vs -> Dvs K H' ds vs
 | [], _, h => by rw [Dvs] at h ⊢; exact h
 | d :: ds, vs, h => by
   rw [Dvs] at h ⊢
   obtain ⟨v, r, e, h1, h2⟩ := h
   exact ⟨v, r, e, Dv.same k d v h1, Dvs.same k ds r h2⟩
end
mutual
theorem Dv.reads {X : Cx} {pins : List (Addr × Obj)} {σ : St} {H : Hp} {s : Shared} (I : Inv X pins σ H s) : ∀ (d : PyData) (v : V) (u : Value), Dv X.K H d v -> G8 v u -> ∃ as, Reads s.heap u d as
 | .none, _, _, h, r => by rw [qs6.mp h] at r; cases r; exact ⟨_, .none⟩
 | .bool b, _, _, h, r => by rw [qs7.mp h] at r; cases r; exact ⟨_, .bool b⟩
 | .int i, _, _, h, r => by rw [qx8.mp h] at r; obtain ⟨t, rfl⟩ := r; exact ⟨_, .int i t⟩
 | .str x, _, _, h, r => by rw [R3.mp h] at r; obtain ⟨t, rfl⟩ := r; exact ⟨_, .str x t⟩
 | .list ds, _, _, h, r => by
   obtain ⟨a, vs, rfl, hq, h⟩ := W5.mp h
   cases r
   obtain ⟨its, rv, pl, _⟩ := I.list hq
   obtain ⟨o, e, c, n, d⟩ := pl.isList
   obtain ⟨as, ra⟩ := Dvs.reads I ds vs its h rv
   exact ⟨_, .list e c d (by simpa using ra)⟩
 | .tuple ds, _, _, h, r => by
   obtain ⟨a, vs, rfl, hq, h⟩ := N0.mp h
   cases r
   obtain ⟨its, rv, pl, _⟩ := I.tuple hq
   obtain ⟨o, e, c, n, d⟩ := pl
   obtain ⟨as, ra⟩ := Dvs.reads I ds vs its h rv
   exact ⟨_, .tuple e c d (by simpa using ra)⟩
 | .dict _, _, _, h, _ => by rw [Dv] at h; exact h.elim
theorem Dvs.reads {X : Cx} {pins : List (Addr × Obj)} {σ : St} {H : Hp} {s : Shared} (I : Inv X pins σ H s) : ∀ (ds : List PyData) (vs : List V) (us : List Value), Dvs X.K H ds vs -> G4 vs us -> ∃ as, ReadsAll s.heap us ds as
 | [], _, _, h, r => by rw [Dvs] at h; subst h; cases r; exact ⟨_, .nil⟩
 | d :: ds, _, _, h, r => by
   rw [Dvs] at h
   obtain ⟨v, r', rfl, h1, h2⟩ := h
   cases r with
   | cons r1 r2 =>
     obtain ⟨as, a1⟩ := Dv.reads I d v _ h1 r1
     obtain ⟨bs, a2⟩ := Dvs.reads I ds r' _ h2 r2
     exact ⟨_, .cons a1 a2⟩
end
end L2
namespace L2
open PySem PySem.Spec PyProof.Rows PySem.SeqAt
mutual
noncomputable def nd : PyData -> Bool
 | .none => true | .bool _ => true | .int _ => true | .str _ => true
 | .list ds => nds ds
 | .tuple ds => nds ds
 | .dict _ => false
noncomputable def nds : List PyData -> Bool
 | [] => true
 | d :: ds => nd d && nds ds
end
mutual
theorem Dv.nd {K : Fg} {H : Hp} : ∀ (d : PyData) (v : V), Dv K H d v -> nd d = true
 | .none, _, _ => by rw [L2.nd]
 | .bool _, _, _ => by rw [L2.nd]
 | .int _, _, _ => by rw [L2.nd]
 | .str _, _, _ => by rw [L2.nd]
 | .list ds, _, h => by
   obtain ⟨a, vs, _, _, h⟩ := W5.mp h
   rw [L2.nd]; exact Dvs.nd ds vs h
 | .tuple ds, _, h => by
   obtain ⟨a, vs, _, _, h⟩ := N0.mp h
   rw [L2.nd]; exact Dvs.nd ds vs h
 | .dict _, _, h => by rw [Dv] at h; exact h.elim
theorem Dvs.nd {K : Fg} {H : Hp} : ∀ (ds : List PyData) (vs : List V), Dvs K H ds vs -> nds ds = true
 | [], _, _ => by rw [nds]
 | d :: ds, vs, h => by
   rw [Dvs] at h
   obtain ⟨v, r, _, h1, h2⟩ := h
   rw [nds, Dv.nd d v h1, Dvs.nd ds r h2]; rfl
end
mutual
theorem wg1 {h : Heap} : ∀ (d d' : PyData) (v : Value) (as as' : List Addr), nd d = true -> Reads h v d as -> Reads h v d' as' -> d = d'
 | .none, _, _, _, _, _, r, q => by cases r; cases q; rfl
 | .bool _, _, _, _, _, _, r, q => by cases r; cases q; rfl
 | .int _, _, _, _, _, _, r, q => by cases r; cases q; rfl
 | .str _, _, _, _, _, _, r, q => by cases r; cases q; rfl
 | .dict _, _, _, _, _, n, _, _ => by rw [L2.nd] at n; cases n
 | .list xs, d', _, _, _, n, r, q => by
   rw [L2.nd] at n
   cases r with
   | list a1 a2 a3 a4 =>
     cases q with
     | list b1 b2 b3 b4 => rw [a1] at b1; cases b1; rw [a3] at b3; cases b3; rw [qx9 xs _ _ _ _ n a4 b4]
     | tuple b1 b2 b3 b4 => rw [a1] at b1; cases b1; rw [a2] at b2; exact absurd b2 (by simp)
     | dict b1 b2 => rw [a1] at b1; cases b1; rw [a2] at b2; exact absurd b2 (by simp)
 | .tuple xs, d', _, _, _, n, r, q => by
   rw [L2.nd] at n
   cases r with
   | tuple a1 a2 a3 a4 =>
     cases q with
     | tuple b1 b2 b3 b4 => rw [a1] at b1; cases b1; rw [a3] at b3; cases b3; rw [qx9 xs _ _ _ _ n a4 b4]
     | list b1 b2 b3 b4 => rw [a1] at b1; cases b1; rw [a2] at b2; exact absurd b2 (by simp)
     | dict b1 b2 => rw [a1] at b1; cases b1; rw [a2] at b2; exact absurd b2 (by simp)
theorem qx9 {h : Heap} : ∀ (xs ys : List PyData) (vs : List Value) (as as' : List Addr), nds xs = true -> ReadsAll h vs xs as -> ReadsAll h vs ys as' -> xs = ys
 | [], _, _, _, _, _, r, q => by cases r; cases q; rfl
 | x :: xs, _, _, _, _, n, r, q => by
   rw [nds, Bool.and_eq_true] at n
   cases r with
   | cons r1 r2 =>
     cases q with
     | cons q1 q2 => rw [wg1 x _ _ _ _ n.1 r1 q1, qx9 xs _ _ _ _ n.2 r2 q2]
end
mutual
theorem wg2 : ∀ d : PyData, nd d = true -> PyData.eqv d d = true
 | .none, _ => rfl
 | .bool b, _ => by simp [PyData.eqv]
 | .int i, _ => by simp [PyData.eqv]
 | .str x, _ => by simp [PyData.eqv]
 | .list xs, h => by rw [PyData.eqv]; rw [L2.nd] at h; exact qy0 xs h
 | .tuple xs, h => by rw [PyData.eqv]; rw [L2.nd] at h; exact qy0 xs h
 | .dict _, h => by rw [L2.nd] at h; cases h
theorem qy0 : ∀ xs : List PyData, nds xs = true -> PyData.eqvAll xs xs = true
 | [], _ => rfl
 | x :: xs, h => by
   rw [nds, Bool.and_eq_true] at h
   rw [PyData.eqvAll, wg2 x h.1, qy0 xs h.2]; rfl
end
theorem L0 {h : Heap} : ∀ {xs : List PyData} {vs : List Value} {as : List Addr}, ReadsAll h vs xs as -> vs.length = xs.length
 | [], _, _, r => by cases r; rfl
 | _ :: xs, _, _, r => by
   cases r with
   | cons _ r' => rw [List.length_cons, List.length_cons, L0 r']
mutual
theorem xw8 : ∀ (da db : PyData) (A : Around) (s : Shared) (a b : Value) (as bs : List Addr), Reads s.heap a da as -> Reads s.heap b db bs -> nd da = true -> nd db = true -> A.units + min da.depth db.depth < cLine -> EqAt A s a b (PyData.eqv da db)
 | .none, db, A, s, _, _, _, _, ra, rb, _, hb, hu => by
   cases ra
   cases rb with
   | none => exact EqAt.same _
   | bool y => exact EqAt.none_bool y
   | int y u => exact EqAt.none_int y u
   | str y u => exact EqAt.none_str y u
   | list k1 k2 k3 k4 => exact EqAt.none_list ⟨_, k1, k2, _, k3⟩ (room_here hu)
   | tuple k1 k2 k3 k4 => exact EqAt.none_tuple ⟨_, k1, k2, _, k3⟩ (room_here hu)
   | dict => rw [L2.nd] at hb; cases hb
 | .bool x, db, A, s, _, _, _, _, ra, rb, _, hb, hu => by
   cases ra
   cases rb with
   | none => exact EqAt.bool_none x
   | bool y => exact EqAt.bool_bool x y
   | int y u => exact EqAt.bool_int x y u
   | str y u => exact EqAt.bool_str x y u
   | list k1 k2 k3 k4 => exact EqAt.bool_list x ⟨_, k1, k2, _, k3⟩ (room_here hu)
   | tuple k1 k2 k3 k4 => exact EqAt.bool_tuple x ⟨_, k1, k2, _, k3⟩ (room_here hu)
   | dict => rw [L2.nd] at hb; cases hb
 | .int x, db, A, s, _, _, _, _, ra, rb, _, hb, hu => by
   cases ra
   cases rb with
   | none => exact EqAt.int_none x _
   | bool y => exact EqAt.int_bool x _ y
   | int y u => exact EqAt.int_int x _ y u
   | str y u => exact EqAt.int_str x _ y u
   | list k1 k2 k3 k4 => exact EqAt.int_list x _ ⟨_, k1, k2, _, k3⟩ (room_here hu)
   | tuple k1 k2 k3 k4 => exact EqAt.int_tuple x _ ⟨_, k1, k2, _, k3⟩ (room_here hu)
   | dict => rw [L2.nd] at hb; cases hb
 | .str x, db, A, s, _, _, _, _, ra, rb, _, hb, hu => by
   cases ra
   cases rb with
   | none => exact EqAt.str_none x _
   | bool y => exact EqAt.str_bool x _ y
   | int y u => exact EqAt.str_int x _ y u
   | str y u => exact EqAt.str_str x _ y u
   | list k1 k2 k3 k4 => exact EqAt.str_list x _ ⟨_, k1, k2, _, k3⟩ (room_here hu)
   | tuple k1 k2 k3 k4 => exact EqAt.str_tuple x _ ⟨_, k1, k2, _, k3⟩ (room_here hu)
   | dict => rw [L2.nd] at hb; cases hb
 | .list xs, db, A, s, _, _, _, _, ra, rb, ha, hb, hu => by
   have ra0 := ra
   have rb0 := rb
   cases ra with
   | @list l o1 vs1 n1 xs as h1 h2 h3 h4 =>
     cases rb with
     | none => exact EqAt.list_none ⟨_, h1, h2, _, h3⟩ (room_here hu)
     | bool y => exact EqAt.list_bool y ⟨_, h1, h2, _, h3⟩ (room_here hu)
     | int y u => exact EqAt.list_int y u ⟨_, h1, h2, _, h3⟩ (room_here hu)
     | str y u => exact EqAt.list_str y u ⟨_, h1, h2, _, h3⟩ (room_here hu)
     | tuple k1 k2 k3 k4 => exact EqAt.list_tuple ⟨_, h1, h2, _, h3⟩ ⟨_, k1, k2, _, k3⟩ (room_here hu)
     | @list b o vs2 n2 ys bs k1 k2 k3 k4 =>
       by_cases e : l = b
       ·subst e
        rw [wg1 _ _ _ _ _ ha ra0 rb0, wg2 _ hb]
        exact EqAt.same _
       ·refine EqAt.of_refs e ?_
        have l1 := L0 h4
        have l2 := L0 k4
        rw [L2.nd] at ha hb
        by_cases hz : xs.length = ys.length
        ·have := RcAt.lists (A := A) (s := s) (e := pairEq xs ys) ⟨_, h1, h2, _, h3⟩ ⟨_, k1, k2, _, k3⟩ (by simp at l1 l2; omega) (room_here hu) (fun j h1 h2 => by have q := S0 xs ys A.in1 s _ _ _ _ h4 k4 ha hb (room_in (by rw [PyData.depth, PyData.depth] at hu; exact hu)) j (by simpa using h1) (by simpa using h2); rw [Array.getElem_toList, Array.getElem_toList] at q; exact q)
         rw [show PyData.eqv (.list xs) (.list ys) = PyData.eqvAll xs ys by rw [PyData.eqv], <- eqvAll_same_length hz]
         have e1 : vs1.size = xs.length := by simpa using l1
         rw [e1] at this
         exact this
        ·rw [show PyData.eqv (.list xs) (.list ys) = PyData.eqvAll xs ys by rw [PyData.eqv], eqvAll_other_length hz]
         exact RcAt.lists_lengths ⟨_, h1, h2, _, h3⟩ ⟨_, k1, k2, _, k3⟩ (by simp at l1 l2; simp; omega) (room_here hu)
     | dict => rw [L2.nd] at hb; cases hb
 | .tuple xs, db, A, s, _, _, _, _, ra, rb, ha, hb, hu => by
   have ra0 := ra
   have rb0 := rb
   cases ra with
   | @tuple l o1 vs1 n1 xs as h1 h2 h3 h4 =>
     cases rb with
     | none => exact EqAt.tuple_none ⟨_, h1, h2, _, h3⟩ (room_here hu)
     | bool y => exact EqAt.tuple_bool y ⟨_, h1, h2, _, h3⟩ (room_here hu)
     | int y u => exact EqAt.tuple_int y u ⟨_, h1, h2, _, h3⟩ (room_here hu)
     | str y u => exact EqAt.tuple_str y u ⟨_, h1, h2, _, h3⟩ (room_here hu)
     | list k1 k2 k3 k4 => exact EqAt.tuple_list ⟨_, h1, h2, _, h3⟩ ⟨_, k1, k2, _, k3⟩ (room_here hu)
     | @tuple b o vs2 n2 ys bs k1 k2 k3 k4 =>
       by_cases e : l = b
       ·subst e
        rw [wg1 _ _ _ _ _ ha ra0 rb0, wg2 _ hb]
        exact EqAt.same _
       ·refine EqAt.of_refs e ?_
        have l1 := L0 h4
        have l2 := L0 k4
        rw [L2.nd] at ha hb
        have := RcAt.tuples (A := A) (s := s) (e := pairEq xs ys) ⟨_, h1, h2, _, h3⟩ ⟨_, k1, k2, _, k3⟩ (room_here hu) (fun j h1 h2 => by have q := S0 xs ys A.in1 s _ _ _ _ h4 k4 ha hb (room_in (by rw [PyData.depth, PyData.depth] at hu; exact hu)) j (by simpa using h1) (by simpa using h2); rw [Array.getElem_toList, Array.getElem_toList] at q; exact q)
        rw [show PyData.eqv (.tuple xs) (.tuple ys) = PyData.eqvAll xs ys by rw [PyData.eqv], <- eqvAll_eq xs ys]
        have e1 : vs1.size = xs.length := by simpa using l1
        have e2 : vs2.size = ys.length := by simpa using l2
        rw [e1, e2] at this
        exact this
     | dict => rw [L2.nd] at hb; cases hb
 | .dict _, _, _, _, _, _, _, _, _, _, ha, _, _ => by rw [L2.nd] at ha; cases ha
theorem S0 : ∀ (xs ys : List PyData) (A : Around) (s : Shared) (us ws : List Value) (as bs : List Addr), ReadsAll s.heap us xs as -> ReadsAll s.heap ws ys bs -> nds xs = true -> nds ys = true -> A.units + min (PyData.depthAll xs) (PyData.depthAll ys) < cLine ->
 ∀ j (h1 : j < us.length) (h2 : j < ws.length), EqAt A s us[j] ws[j] (pairEq xs ys j)
 | [], _, _, _, _, _, _, _, r, _, _, _, _ => by cases r; intro j h1; simp at h1
 | x :: xs, ys, A, s, _, ws, _, _, r, q, ha, hb, hu => by
   cases r with
   | @cons u us d ds as1 as2 r1 r2 =>
     cases q with
     | nil => intro j h1 h2; simp at h2
     | @cons w ws y ys bs1 bs2 q1 q2 =>
       rw [nds, Bool.and_eq_true] at ha hb
       rw [PyData.depthAll, PyData.depthAll] at hu
       intro j h1 h2
       cases j with
       | zero => exact xw8 x y A s u w _ _ r1 q1 ha.1 hb.1 (room_head hu)
       | succ j =>
         exact S0 xs ys A s us ws _ _ r2 q2 ha.2 hb.2 (room_tail hu) j (by simpa using h1) (by simpa using h2)
end
theorem yp3 {da db : PyData} {A : Around} {s : Shared} {a b : Value} {as bs : List Addr} (ra : Reads s.heap a da as) (rb : Reads s.heap b db bs) (ha : nd da = true) (hb : nd db = true) (hu : A.units + min da.depth db.depth < cLine) : RcAt A s a b (PyData.eqv da db) := by
 cases ra with
 | none =>
   cases rb with
   | none => exact RcAt.none_none
   | bool y => exact RcAt.none_bool y
   | int y u => exact RcAt.none_int y u
   | str y u => exact RcAt.none_str y u
   | @list l2 o2 ws n2 ys bs k1 k2 k3 k4 => exact RcAt.none_list ⟨_, k1, k2, _, k3⟩ (room_here hu)
   | @tuple l2 o2 ws n2 ys bs k1 k2 k3 k4 => exact RcAt.none_tuple ⟨_, k1, k2, _, k3⟩ (room_here hu)
   | dict => rw [L2.nd] at hb; cases hb
 | bool x =>
   cases rb with
   | none => exact RcAt.bool_none x
   | bool y => exact RcAt.bool_bool x y
   | int y u => exact RcAt.bool_int x y u
   | str y u => exact RcAt.bool_str x y u
   | @list l2 o2 ws n2 ys bs k1 k2 k3 k4 => exact RcAt.bool_list x ⟨_, k1, k2, _, k3⟩ (room_here hu)
   | @tuple l2 o2 ws n2 ys bs k1 k2 k3 k4 => exact RcAt.bool_tuple x ⟨_, k1, k2, _, k3⟩ (room_here hu)
   | dict => rw [L2.nd] at hb; cases hb
 | int x t =>
   cases rb with
   | none => exact RcAt.int_none x t
   | bool y => exact RcAt.int_bool x t y
   | int y u => exact RcAt.int_int x t y u
   | str y u => exact RcAt.int_str x t y u
   | @list l2 o2 ws n2 ys bs k1 k2 k3 k4 => exact RcAt.int_list x t ⟨_, k1, k2, _, k3⟩ (room_here hu)
   | @tuple l2 o2 ws n2 ys bs k1 k2 k3 k4 => exact RcAt.int_tuple x t ⟨_, k1, k2, _, k3⟩ (room_here hu)
   | dict => rw [L2.nd] at hb; cases hb
 | str x t =>
   cases rb with
   | none => exact RcAt.str_none x t
   | bool y => exact RcAt.str_bool x t y
   | int y u => exact RcAt.str_int x t y u
   | str y u => exact RcAt.str_str x t y u
   | @list l2 o2 ws n2 ys bs k1 k2 k3 k4 => exact RcAt.str_list x t ⟨_, k1, k2, _, k3⟩ (room_here hu)
   | @tuple l2 o2 ws n2 ys bs k1 k2 k3 k4 => exact RcAt.str_tuple x t ⟨_, k1, k2, _, k3⟩ (room_here hu)
   | dict => rw [L2.nd] at hb; cases hb
 | @list l o vs n xs as h1 h2 h3 h4 =>
   cases rb with
   | none => exact RcAt.list_none ⟨_, h1, h2, _, h3⟩ (room_here hu)
   | bool y => exact RcAt.list_bool y ⟨_, h1, h2, _, h3⟩ (room_here hu)
   | int y u => exact RcAt.list_int y u ⟨_, h1, h2, _, h3⟩ (room_here hu)
   | str y u => exact RcAt.list_str y u ⟨_, h1, h2, _, h3⟩ (room_here hu)
   | @list l2 o2 ws n2 ys bs k1 k2 k3 k4 =>
     have l1 : vs.size = xs.length := by simpa using L0 h4
     have l2 : ws.size = ys.length := by simpa using L0 k4
     rw [L2.nd] at ha hb
     rw [PyData.depth, PyData.depth] at hu
     have hi : ∀ j (h1 : j < vs.size) (h2 : j < ws.size), EqAt A.in1 s vs[j] ws[j] (pairEq xs ys j) := fun j h1 h2 => by
      have q := S0 xs ys A.in1 s _ _ _ _ h4 k4 ha hb (room_in hu) j (by simpa using h1) (by simpa using h2)
      rw [Array.getElem_toList, Array.getElem_toList] at q
      exact q
     have hu' : A.units < cLine := room_here hu
     rw [show PyData.eqv (.list xs) (.list ys) = PyData.eqvAll xs ys by rw [PyData.eqv]]
     by_cases hz : xs.length = ys.length
     ·have q := RcAt.lists (A := A) (s := s) (e := pairEq xs ys) ⟨_, h1, h2, _, h3⟩ ⟨_, k1, k2, _, k3⟩ (by omega) hu' hi
      rw [l1, eqvAll_same_length hz] at q
      exact q
     ·rw [eqvAll_other_length hz]
      exact RcAt.lists_lengths ⟨_, h1, h2, _, h3⟩ ⟨_, k1, k2, _, k3⟩ (by simp; omega) hu'
   | @tuple l2 o2 ws n2 ys bs k1 k2 k3 k4 => exact RcAt.list_tuple ⟨_, h1, h2, _, h3⟩ ⟨_, k1, k2, _, k3⟩ (room_here hu)
   | dict => rw [L2.nd] at hb; cases hb
 | @tuple l o vs n xs as h1 h2 h3 h4 =>
   cases rb with
   | none => exact RcAt.tuple_none ⟨_, h1, h2, _, h3⟩ (room_here hu)
   | bool y => exact RcAt.tuple_bool y ⟨_, h1, h2, _, h3⟩ (room_here hu)
   | int y u => exact RcAt.tuple_int y u ⟨_, h1, h2, _, h3⟩ (room_here hu)
   | str y u => exact RcAt.tuple_str y u ⟨_, h1, h2, _, h3⟩ (room_here hu)
   | @list l2 o2 ws n2 ys bs k1 k2 k3 k4 => exact RcAt.tuple_list ⟨_, h1, h2, _, h3⟩ ⟨_, k1, k2, _, k3⟩ (room_here hu)
   | @tuple l2 o2 ws n2 ys bs k1 k2 k3 k4 =>
     have l1 : vs.size = xs.length := by simpa using L0 h4
     have l2 : ws.size = ys.length := by simpa using L0 k4
     rw [L2.nd] at ha hb
     rw [PyData.depth, PyData.depth] at hu
     have hi : ∀ j (h1 : j < vs.size) (h2 : j < ws.size), EqAt A.in1 s vs[j] ws[j] (pairEq xs ys j) := fun j h1 h2 => by
      have q := S0 xs ys A.in1 s _ _ _ _ h4 k4 ha hb (room_in hu) j (by simpa using h1) (by simpa using h2)
      rw [Array.getElem_toList, Array.getElem_toList] at q
      exact q
     have hu' : A.units < cLine := room_here hu
     rw [show PyData.eqv (.tuple xs) (.tuple ys) = PyData.eqvAll xs ys by rw [PyData.eqv]]
     have q := RcAt.tuples (A := A) (s := s) (e := pairEq xs ys) ⟨_, h1, h2, _, h3⟩ ⟨_, k1, k2, _, k3⟩ hu' hi
     rw [l1, l2, eqvAll_eq xs ys] at q
     exact q
   | dict => rw [L2.nd] at hb; cases hb
 | dict => rw [L2.nd] at ha; cases ha
theorem xw9 {da db : PyData} {A : Around} {s : Shared} {a b : Value} {as bs : List Addr} (ra : Reads s.heap a da as) (rb : Reads s.heap b db bs) (ha : nd da = true) (hb : nd db = true) (hu : A.units + min da.depth db.depth < cLine) : RcNeAt A s a b (!PyData.eqv da db) := by
 cases ra with
 | none =>
   cases rb with
   | none => exact RcNeAt.none_none
   | bool y => exact RcNeAt.none_bool y
   | int y u => exact RcNeAt.none_int y u
   | str y u => exact RcNeAt.none_str y u
   | @list l2 o2 ws n2 ys bs k1 k2 k3 k4 => exact RcNeAt.none_list ⟨_, k1, k2, _, k3⟩ (room_here hu)
   | @tuple l2 o2 ws n2 ys bs k1 k2 k3 k4 => exact RcNeAt.none_tuple ⟨_, k1, k2, _, k3⟩ (room_here hu)
   | dict => rw [L2.nd] at hb; cases hb
 | bool x =>
   cases rb with
   | none => exact RcNeAt.bool_none x
   | bool y => exact RcNeAt.bool_bool x y
   | int y u => exact RcNeAt.bool_int x y u
   | str y u => exact RcNeAt.bool_str x y u
   | @list l2 o2 ws n2 ys bs k1 k2 k3 k4 => exact RcNeAt.bool_list x ⟨_, k1, k2, _, k3⟩ (room_here hu)
   | @tuple l2 o2 ws n2 ys bs k1 k2 k3 k4 => exact RcNeAt.bool_tuple x ⟨_, k1, k2, _, k3⟩ (room_here hu)
   | dict => rw [L2.nd] at hb; cases hb
 | int x t =>
   cases rb with
   | none => exact RcNeAt.int_none x t
   | bool y => exact RcNeAt.int_bool x t y
   | int y u => exact RcNeAt.int_int x t y u
   | str y u => exact RcNeAt.int_str x t y u
   | @list l2 o2 ws n2 ys bs k1 k2 k3 k4 => exact RcNeAt.int_list x t ⟨_, k1, k2, _, k3⟩ (room_here hu)
   | @tuple l2 o2 ws n2 ys bs k1 k2 k3 k4 => exact RcNeAt.int_tuple x t ⟨_, k1, k2, _, k3⟩ (room_here hu)
   | dict => rw [L2.nd] at hb; cases hb
 | str x t =>
   cases rb with
   | none => exact RcNeAt.str_none x t
   | bool y => exact RcNeAt.str_bool x t y
   | int y u => exact RcNeAt.str_int x t y u
   | str y u => exact RcNeAt.str_str x t y u
   | @list l2 o2 ws n2 ys bs k1 k2 k3 k4 => exact RcNeAt.str_list x t ⟨_, k1, k2, _, k3⟩ (room_here hu)
   | @tuple l2 o2 ws n2 ys bs k1 k2 k3 k4 => exact RcNeAt.str_tuple x t ⟨_, k1, k2, _, k3⟩ (room_here hu)
   | dict => rw [L2.nd] at hb; cases hb
 | @list l o vs n xs as h1 h2 h3 h4 =>
   cases rb with
   | none => exact RcNeAt.list_none ⟨_, h1, h2, _, h3⟩ (room_here hu)
   | bool y => exact RcNeAt.list_bool y ⟨_, h1, h2, _, h3⟩ (room_here hu)
   | int y u => exact RcNeAt.list_int y u ⟨_, h1, h2, _, h3⟩ (room_here hu)
   | str y u => exact RcNeAt.list_str y u ⟨_, h1, h2, _, h3⟩ (room_here hu)
   | @list l2 o2 ws n2 ys bs k1 k2 k3 k4 =>
     have l1 : vs.size = xs.length := by simpa using L0 h4
     have l2 : ws.size = ys.length := by simpa using L0 k4
     rw [L2.nd] at ha hb
     rw [PyData.depth, PyData.depth] at hu
     have hi : ∀ j (h1 : j < vs.size) (h2 : j < ws.size), EqAt A.in1 s vs[j] ws[j] (pairEq xs ys j) := fun j h1 h2 => by
      have q := S0 xs ys A.in1 s _ _ _ _ h4 k4 ha hb (room_in hu) j (by simpa using h1) (by simpa using h2)
      rw [Array.getElem_toList, Array.getElem_toList] at q
      exact q
     have hu' : A.units < cLine := room_here hu
     rw [show PyData.eqv (.list xs) (.list ys) = PyData.eqvAll xs ys by rw [PyData.eqv]]
     by_cases hz : xs.length = ys.length
     ·have q := RcNeAt.lists (A := A) (s := s) (e := pairEq xs ys) ⟨_, h1, h2, _, h3⟩ ⟨_, k1, k2, _, k3⟩ (by omega) hu' hi
      rw [l1, eqvAll_same_length hz] at q
      exact q
     ·rw [eqvAll_other_length hz]
      exact RcNeAt.lists_lengths ⟨_, h1, h2, _, h3⟩ ⟨_, k1, k2, _, k3⟩ (by simp; omega) hu'
   | @tuple l2 o2 ws n2 ys bs k1 k2 k3 k4 => exact RcNeAt.list_tuple ⟨_, h1, h2, _, h3⟩ ⟨_, k1, k2, _, k3⟩ (room_here hu)
   | dict => rw [L2.nd] at hb; cases hb
 | @tuple l o vs n xs as h1 h2 h3 h4 =>
   cases rb with
   | none => exact RcNeAt.tuple_none ⟨_, h1, h2, _, h3⟩ (room_here hu)
   | bool y => exact RcNeAt.tuple_bool y ⟨_, h1, h2, _, h3⟩ (room_here hu)
   | int y u => exact RcNeAt.tuple_int y u ⟨_, h1, h2, _, h3⟩ (room_here hu)
   | str y u => exact RcNeAt.tuple_str y u ⟨_, h1, h2, _, h3⟩ (room_here hu)
   | @list l2 o2 ws n2 ys bs k1 k2 k3 k4 => exact RcNeAt.tuple_list ⟨_, h1, h2, _, h3⟩ ⟨_, k1, k2, _, k3⟩ (room_here hu)
   | @tuple l2 o2 ws n2 ys bs k1 k2 k3 k4 =>
     have l1 : vs.size = xs.length := by simpa using L0 h4
     have l2 : ws.size = ys.length := by simpa using L0 k4
     rw [L2.nd] at ha hb
     rw [PyData.depth, PyData.depth] at hu
     have hi : ∀ j (h1 : j < vs.size) (h2 : j < ws.size), EqAt A.in1 s vs[j] ws[j] (pairEq xs ys j) := fun j h1 h2 => by
      have q := S0 xs ys A.in1 s _ _ _ _ h4 k4 ha hb (room_in hu) j (by simpa using h1) (by simpa using h2)
      rw [Array.getElem_toList, Array.getElem_toList] at q
      exact q
     have hu' : A.units < cLine := room_here hu
     rw [show PyData.eqv (.tuple xs) (.tuple ys) = PyData.eqvAll xs ys by rw [PyData.eqv]]
     have q := RcNeAt.tuples (A := A) (s := s) (e := pairEq xs ys) ⟨_, h1, h2, _, h3⟩ ⟨_, k1, k2, _, k3⟩ hu' hi
     rw [l1, l2, eqvAll_eq xs ys] at q
     exact q
   | dict => rw [L2.nd] at hb; cases hb
 | dict => rw [L2.nd] at ha; cases ha
end L2
namespace L2
open PySem PySem.Spec PyProof.Rows PySem.SeqAt
section
variable {X : Cx}
theorem Q4 {k : Nat} {A : Around} (r : X8 k A) : A.units + 190 < cLine := by have := r.un; omega
def O0 (K : Fg) : R2 := fun x y H Q => rEq x y H Q \/ ∃ d e, Dv K H d x /\ Dv K H e y /\ min d.depth e.depth <= 190 /\ Q (.bl (PyData.eqv d e)) H
def qy1 (K : Fg) : R2 := fun x y H Q => rNe x y H Q \/ ∃ d e, Dv K H d x /\ Dv K H e y /\ min d.depth e.depth <= 190 /\ Q (.bl (!PyData.eqv d e)) H
theorem M3 (hu : X.A.units + 190 < cLine) : OpR X (compareOp .Eq) (O0 X.K) := by
 refine yv0.or ?_
 intro pins s σ H x y v u Q I rx ry h
 obtain ⟨d, e, hx, hy, hz, q⟩ := h
 obtain ⟨as, ra⟩ := Dv.reads I d x v hx rx
 obtain ⟨bs, rb⟩ := Dv.reads I e y u hy ry
 have hroom : X.A.units + min d.depth e.depth < cLine := Nat.lt_of_le_of_lt (Nat.add_le_add_left hz _) hu
 exact yp3 ra rb (Dv.nd d x hx) (Dv.nd e y hy) hroom X.prog X.w X.xe _ ⟨.bl _, H, I, rfl, q⟩
theorem qy2 (hu : X.A.units + 190 < cLine) : OpR X (compareOp .NotEq) (qy1 X.K) := by
 refine yv1.or ?_
 intro pins s σ H x y v u Q I rx ry h
 obtain ⟨d, e, hx, hy, hz, q⟩ := h
 obtain ⟨as, ra⟩ := Dv.reads I d x v hx rx
 obtain ⟨bs, rb⟩ := Dv.reads I e y u hy ry
 have hroom : X.A.units + min d.depth e.depth < cLine := Nat.lt_of_le_of_lt (Nat.add_le_add_left hz _) hu
 exact xw9 ra rb (Dv.nd d x hx) (Dv.nd e y hy) hroom X.prog X.w X.xe _ ⟨.bl _, H, I, rfl, q⟩
def L7 (K : Fg) : R2 := fun x y H Q => rI0 (fun i j => .int (i + j)) x y H Q \/ (∃ i j, x = .str i /\ y = .str j /\ i.length + j.length <= sizeLine /\ Q (.str (i ++ j)) H) \/ yw1 x y H Q \/ yk9 K x y H Q
theorem E8 : OpR X (binaryOp .Add) (L7 X.K) := yn5.or (xg6.or (yo5.or ye5))
def yl2 : R2 := fun x y H Q => ∃ z n, x = .str z /\ y = .int n /\ 0 <= n /\ n <= 1000 /\ z.length <= 1000 /\ Q (.str (PySem.Txt.mul z n)) H
theorem xh5 : OpR X (binaryOp .Mult) yl2 := by
 intro pins s σ H x y v u Q I rx ry h
 obtain ⟨z, n, rfl, rfl, h0, h1, h2, q⟩ := h
 obtain ⟨t, rfl⟩ := rx
 obtain ⟨t', rfl⟩ := ry
 refine wpAny_with_toks (n := 1) I.tk (SB.mul ⟨?_, fun hn _ => ?_, fun hn _ => ?_⟩ fun t' k ht => ⟨.str _, H, I.tok _ ht, ⟨_, rfl⟩, q⟩)
 ·rw [decide_eq_false (by omega), decide_eq_false (by omega)]; rfl
 ·have e1 : (2 ^ 63 - 1 : Int) / n >= (2 ^ 63 - 1) / 1000 := by
   have hp : (0 : Int) < n := by omega
   apply Int.le_ediv_of_mul_le hp
   have : (2 ^ 63 - 1 : Int) / 1000 * n <= (2 ^ 63 - 1) / 1000 * 1000 := Int.mul_le_mul_of_nonneg_left h1 (by decide)
   have e : (2 ^ 63 - 1 : Int) / 1000 * 1000 <= 2 ^ 63 - 1 := by decide
   omega
  have e2 : (2 ^ 63 - 1 : Int) / 1000 >= 1000 := by decide
  omega
 ·have : z.length * n.toNat <= 1000 * 1000 := Nat.mul_le_mul h2 (by omega)
  have hs : sizeLine = 16777216 := sizeLine_eq
  unfold Builtin.Str.tooLong
  exact decide_eq_false (by omega)
def qo3 : R2 := fun x y H Q => rI xv1 (fun i j => .int (i * j)) x y H Q \/ yl2 x y H Q \/ yw2 x y H Q
theorem qh3 : OpR X (binaryOp .Mult) qo3 := yn6.or (xh5.or yo6)
def za6 : R2 := fun x y H Q => ∃ i j : Str, x = .str i /\ y = .str j /\ Q (.bl (decide (i.cps.toList < j.cps.toList))) H
def yw5 : R2 := fun x y H Q => ∃ i j : Str, x = .str i /\ y = .str j /\ Q (.bl (!decide (j.cps.toList < i.cps.toList))) H
def yw6 : R2 := fun x y H Q => ∃ i j : Str, x = .str i /\ y = .str j /\ Q (.bl (decide (j.cps.toList < i.cps.toList))) H
def yw7 : R2 := fun x y H Q => ∃ i j : Str, x = .str i /\ y = .str j /\ Q (.bl (!decide (i.cps.toList < j.cps.toList))) H
theorem xr2 : OpR X (compareOp .LtE) yw5 := by
 intro pins s σ H x y v u Q I rx ry h
 obtain ⟨i, j, rfl, rfl, q⟩ := h
 obtain ⟨t, rfl⟩ := rx
 obtain ⟨t', rfl⟩ := ry
 exact PySem.P.le_str ⟨.bl _, H, I, rfl, q⟩
theorem xr3 : OpR X (compareOp .Gt) yw6 := by
 intro pins s σ H x y v u Q I rx ry h
 obtain ⟨i, j, rfl, rfl, q⟩ := h
 obtain ⟨t, rfl⟩ := rx
 obtain ⟨t', rfl⟩ := ry
 exact PySem.P.gt_str ⟨.bl _, H, I, rfl, q⟩
theorem xr4 : OpR X (compareOp .GtE) yw7 := by
 intro pins s σ H x y v u Q I rx ry h
 obtain ⟨i, j, rfl, rfl, q⟩ := h
 obtain ⟨t, rfl⟩ := rx
 obtain ⟨t', rfl⟩ := ry
 exact PySem.P.ge_str ⟨.bl _, H, I, rfl, q⟩
def xh6 : R2 := fun x y H Q => rI0 (fun i j => .bl (decide (i < j))) x y H Q \/ za6 x y H Q
def xh7 : R2 := fun x y H Q => rI0 (fun i j => .bl (decide (i <= j))) x y H Q \/ yw5 x y H Q
def yp4 : R2 := fun x y H Q => rI0 (fun i j => .bl (decide (j < i))) x y H Q \/ yw6 x y H Q
def yf4 : R2 := fun x y H Q => rI0 (fun i j => .bl (decide (j <= i))) x y H Q \/ yw7 x y H Q
theorem ww6 : OpR X (compareOp .Lt) xh6 := yv2.or xq1
theorem ww7 : OpR X (compareOp .LtE) xh7 := yv3.or xr2
theorem yp5 : OpR X (compareOp .Gt) yp4 := yv4.or xr3
theorem xx0 : OpR X (compareOp .GtE) yf4 := yv5.or xr4
def za7 (neg : Bool) : R2 := fun x y H Q => ∃ i j : Str, x = .str i /\ y = .str j /\ Q (.bl (if neg then !(!(Builtin.Str.occurrences j i 0 j.length 1).isEmpty) else !(Builtin.Str.occurrences j i 0 j.length 1).isEmpty)) H
def xx1 (K : Fg) (neg : Bool) : R2 := fun x y H Q => rIn K neg x y H Q \/ za7 neg x y H Q
theorem yp6 : OpR X (compareOp .In) (xx1 X.K false) := xq8.or xq2
theorem xr5 : OpR X (compareOp .NotIn) (xx1 X.K true) := wv9.or ww0
def xc6 : R2 := fun x y H Q => y = .non /\ Q (.bl (decide (x = .non))) H
def qh4 : R2 := fun x y H Q => y = .non /\ Q (.bl (!decide (x = .non))) H
theorem wg3 : OpR X (compareOp .Is) xc6 := yn7
theorem qf6 : OpR X (compareOp .IsNot) qh4 := ye1
def N4 (K : Fg) : List V -> Hp -> VK -> Prop := fun xs H Q => (∃ p ys, xs = [.ref p] /\ (SqL K H p ys \/ SqT K H p ys) /\ Q (.int ys.length) H) \/ (∃ z, xs = [.str z] /\ z.length <= sizeLine /\ Q (.int z.length) H) \/
 ∃ a kvs, xs = [V.ref a] /\ H a = some (.dK kvs) /\ Q (.int kvs.length) H
theorem G9 : Q9 X (.builtin "len") (N4 X.K) := ww1.or (ww2.or xr1)
def xx2 (K : Fg) : List V -> Hp -> VK -> Prop := fun xs H Q => ∃ p ys, xs = [.ref p] /\ (SqL K H p ys \/ SqT K H p ys) /\ ∀ l, H l = none -> Q (.ref l) (upd H l (.lst ys))
theorem xh8 : Q9 X (.type "list") (xx2 X.K) := ww3
def qn1 (K : Fg) : List V -> Hp -> VK -> Prop := fun xs H Q => ∃ p ys, xs = [.ref p] /\ ((SqL K H p ys /\ ∀ l, H l = none -> Q (.ref l) (upd H l (.tup ys))) \/ (SqT K H p ys /\ Q (.ref p) H))
theorem X4 : Q9 X (.type "tuple") (qn1 X.K) := wn8
def yl3 : List V -> Hp -> VK -> Prop := fun xs H Q => (∃ i, xs = [.int i] /\ Q (.int i) H) \/ ∃ k, xs = [.bl k] /\ Q (.int (if k then 1 else 0)) H
theorem xr6 : Q9 X (.type "int") yl3 := xq3
theorem qs8 : ∀ {xs : List Str} {us : List Value}, G4 (B2 xs) us -> StrsAre us xs
 | [], _, h => by cases h; exact .nil
 | x :: xs, _, h => by
   have h : G4 (V.str x :: B2 xs) _ := h
   cases h with
   | cons r t =>
     obtain ⟨t', rfl⟩ := r
     exact .cons x t' (qs8 t)
theorem wt5 : ∀ {xs : List Str} {us : List Value}, StrsAre us xs -> G4 (B2 xs) us
 | _, _, .nil => .nil
 | _, _, .cons y t h => .cons ⟨t, rfl⟩ (wt5 h)
def qs9 (K : Fg) : List V -> Hp -> VK -> Prop := fun xs H Q => ∃ p ys, xs = [.ref p] /\ SqL K H p (B2 ys) /\ ys.length < 64 /\
 ∀ l ys', ys'.Perm ys -> sortedS ys' = true -> H l = none -> Q (.ref l) (upd H l (.lst (B2 ys')))
theorem qh5 : Q9 X (.builtin "sorted") (qs9 X.K) := by
 intro pins s σ H xs us Q I r h
 obtain ⟨p, ys, rfl, hq, hl, q⟩ := h
 obtain ⟨u, rfl, rx⟩ := qf3 r
 cases rx
 obtain ⟨its, rv, pl, hz⟩ := I.list hq
 have hlen := rv.length
 have hn : (B2 ys).length = ys.length := List.length_map _
 refine sorted_strs pl.isList (qs8 rv) (by omega) fun out ss' h1 h2 h3 => ?_
 have kp : ∀ b o, s.heap.get? b = some o -> (sortedAll s.heap its out).get? b = some o := fun b o e => sortedAll_old e
 obtain ⟨e, he⟩ := sortedAll_at s.heap its out
 have hf : H (s.heap.objs.size + 1) = none := I.hok.fresh (Nat.le_succ _)
 have hz' : (B2 ss').length <= sizeLine := by
  have := h2.length_eq
  show (ss'.map V.str).length <= _
  rw [List.length_map]; rw [hn] at hz; omega
 refine ⟨.ref (s.heap.objs.size + 1), _, I.laid (t' := s.toks) (o := .lst (B2 ss')) kp (Nat.le_succ _) ?_, rfl, q _ _ h2 h3 hf⟩
 exact ⟨hz', out.toList, e, wt5 h1, by simpa [seqObj] using he⟩
def qo4 (K : Fg) : V -> List V -> Hp -> VK -> Prop := fun x vs H Q => ∃ z p ys, x = .str z /\ vs = [.ref p] /\ (SqL K H p (B2 ys) \/ SqT K H p (B2 ys)) /\ (ys.map (·.length)).sum + ys.length * z.length <= 16777216 /\ Q (.str (PySem.Txt.join z ys)) H
theorem qc8 : MtR X "str.join" (qo4 X.K) := by
 intro pins s σ H x vs v us Q I rx rv h
 obtain ⟨z, p, ys, rfl, rfl, hq, hs, q⟩ := h
 obtain ⟨t, rfl⟩ := rx
 obtain ⟨u, rfl, ru⟩ := rv.one
 cases ru
 rcases hq with hq | hq
 ·obtain ⟨its, r, pl, hz⟩ := I.list hq
  exact wpAny_with_toks (n := 1) I.tk (join_list pl.isList (by simpa using qs8 r) hs fun t' k ht => ⟨.str _, H, I.tok _ ht, ⟨_, rfl⟩, q⟩)
 ·obtain ⟨its, r, pl, hz⟩ := I.tuple hq
  exact wpAny_with_toks (n := 1) I.tk (join_tuple pl (by simpa using qs8 r) hs fun t' k ht => ⟨.str _, H, I.tok _ ht, ⟨_, rfl⟩, q⟩)
def xm3 : V -> List V -> Hp -> VK -> Prop := fun x vs H Q => ∃ (z y : Str) (i : Nat) (rest : List Nat), x = .str z /\ vs = [.str y] /\ Builtin.Str.occurrences z y 0 z.length 1 = i :: rest /\ Q (.int i) H
theorem ww8 : MtR X "str.index" xm3 := by
 intro pins s σ H x vs v us Q I rx rv h
 obtain ⟨z, y, i, rest, rfl, rfl, ho, q⟩ := h
 obtain ⟨t, rfl⟩ := rx
 obtain ⟨u, rfl, ru⟩ := rv.one
 obtain ⟨t', rfl⟩ := ru
 exact SC.index ho ⟨.int i, H, I.tok _, ⟨_, rfl⟩, q⟩
noncomputable def V1 {α : Type} (xs : List α) (k : Nat) (y : α) : List α := xs.take k ++ y :: xs.drop k
def qt0 : V -> List V -> Hp -> VK -> Prop := fun x vs H Q => ∃ (l : Addr) (xs : List V) (i : Int) (y : V), x = .ref l /\ vs = [.int i, y] /\ H l = some (.lst xs) /\ 0 <= i /\ i <= xs.length /\ xs.length < sizeLine /\ Q .non (upd H l (.lst (V1 xs i.toNat y)))
theorem xr7 : MtR X "list.insert" qt0 := by
 intro pins s σ H x vs v us Q I rx rv h
 obtain ⟨l, xs, i, y, rfl, rfl, hH, h0, h1, hz, q⟩ := h
 cases rx
 obtain ⟨u, w', rfl, ru, rw'⟩ := rv.two
 obtain ⟨t, rfl⟩ := ru
 obtain ⟨z, its, n, r, hl, e⟩ := I.lstM hH
 have hs : sizeLine = 16777216 := sizeLine_eq
 refine call_meets F.slot_list_insert ⟨_, e, rfl⟩ F.entry_list_insert (F.args_list_insert_3 _ _ _) (AutoListH.list_insert_list_int_val_1 l its.toArray n i t w' (by rw [fitsIndex_both (by omega) (by omega)]; exact Bool.false_ne_true) (by rw [List.size_toArray]; omega)) ⟨e, ?_⟩
 refine ⟨.non, _, I.lset (its' := V1 its i.toNat w') (t' := s.toks) hH e ?_ ?_ ?_, rfl, q⟩
 ·have hi : ¬ i < 0 := by omega
  have hm : min i.toNat its.length = i.toNat := by omega
  simp only [hi, if_false, List.size_toArray, hm]
  unfold V1
  apply Array.toList_inj.mp
  simp
  exact List.take_of_length_le (by rw [List.length_drop]; exact Nat.le_refl _)
 ·exact G4.append (r.take i.toNat) (.cons rw' (r.drop i.toNat))
 ·unfold V1
  rw [List.length_append, List.length_cons, List.length_take, List.length_drop]
  omega
end
end L2
namespace L2
open PySem PySem.Spec PyProof.Rows PySem.SeqAt
def qh6 (K : Fg) (tl : TE) : TI := fun σ H R => tl σ H fun x H1 => ∃ a, x = .ref a /\ (((∃ xs, SqL K H1 a xs) /\ R (Itl K a) H1) \/ ((∃ xs, SqT K H1 a xs) /\ R (Itt K a) H1))
theorem T2 {X : Cx} {tg l : Expr} {tl : TE} (hl : PE X l tl) : PI X tg l (qh6 X.K tl) := by
 intro pins s σ H R I h
 refine thn (hl pins s σ H _ I h) fun v s1 zq => ?_
 obtain ⟨x, H1, I1, r1, q1⟩ := zq
 obtain ⟨a, e, q⟩ := q1
 subst e
 cases r1
 rcases q with ⟨⟨xs, hq⟩, q⟩ | ⟨⟨xs, hq⟩, q⟩
 ·obtain ⟨its, rv, p, hz⟩ := I1.list hq
  refine wpAny_pyIter_list p.isList ?_
  refine ⟨s1.heap.objs.size, [s1.heap.objs.size], _, _, H1, rfl, I1.kept (t' := s1.toks) fun b o e => Heap.get?_push_of_some _ e, xp7 a _, ⟨_, Heap.get?_push_size _ rfl, rfl, rfl⟩, fun b hb => ?_, q⟩
  have e : b = s1.heap.objs.size := by simpa using hb
  subst e
  exact I1.fpOk (Nat.le_refl _) (I1.hok.fresh (Nat.le_refl _))
 ·obtain ⟨its, rv, p, hz⟩ := I1.tuple hq
  refine wpAny_pyIter_tuple (show s1.heap.IsTuple a its.toArray from p) ?_
  refine ⟨s1.heap.objs.size, [s1.heap.objs.size], _, _, H1, rfl, I1.kept (t' := s1.toks) fun b o e => Heap.get?_push_of_some _ e, xg4 a _, ⟨_, Heap.get?_push_size _ rfl, rfl, rfl⟩, fun b hb => ?_, q⟩
  have e : b = s1.heap.objs.size := by simpa using hb
  subst e
  exact I1.fpOk (Nat.le_refl _) (I1.hok.fresh (Nat.le_refl _))
theorem wg4 {wi : TI} {g : TG} {tb : TS} {D : P4} {σ : St} {H : Hp} (h : wi σ H fun J H1 => ∃ W : Nat -> Nat -> St -> Hp -> Prop, (∃ m, W 0 m σ H1) /\ ∀ i m σ H, W i m σ H ->
 (J.stop i H /\ D.nx σ H) \/ (J.go i H /\ ∃ N : St -> Hp -> Prop, (∀ σ' H', N σ' H' -> ∃ m', m' < m /\ W (i + 1) m' σ' H') /\ ∀ x H', J.yld i H x H' -> g x σ H' fun σ2 H2 => tb { D with nx := N, ct := N, bk := D.nx } σ2 H2)) : qn6 wi g tb D σ H := h
abbrev xh9 (g : TG) (tb : TS) (D : P4) (σ : St) (J : It) (H1 : Hp) : Prop := ∃ W : Nat -> Nat -> St -> Hp -> Prop, (∃ m, W 0 m σ H1) /\ ∀ i m σ H, W i m σ H ->
 (J.stop i H /\ D.nx σ H) \/ (J.go i H /\ ∃ N : St -> Hp -> Prop, (∀ σ' H', N σ' H' -> ∃ m', m' < m /\ W (i + 1) m' σ' H') /\ ∀ x H', J.yld i H x H' -> g x σ H' fun σ2 H2 => tb { D with nx := N, ct := N, bk := D.nx } σ2 H2)
theorem xm4 {K : Fg} {g : TG} {tb : TS} {D : P4} {σ : St} {H : Hp} {a : Addr} {xs : List V} (hq : SqL K H a xs \/ SqT K H a xs) (Pv : Nat -> St -> Hp -> Prop) (h0 : Pv 0 σ H)
 (hl : SqL K H a xs -> ∀ i σ H, i <= xs.length -> Pv i σ H -> SqL K H a xs) (ht : SqT K H a xs -> ∀ i σ H, i <= xs.length -> Pv i σ H -> SqT K H a xs)
 (hs : ∀ i x σ H, xs[i]? = some x -> Pv i σ H -> g x σ H fun σ2 H2 => tb { D with nx := PAt Pv (i + 1), ct := PAt Pv (i + 1), bk := D.nx } σ2 H2) (hd : ∀ σ H, Pv xs.length σ H -> D.nx σ H) :
 ∃ b, V.ref a = .ref b /\ (((∃ xs, SqL K H b xs) /\ xh9 g tb D σ (Itl K b) H) \/ ((∃ xs, SqT K H b xs) /\ xh9 g tb D σ (Itt K b) H)) := by
 refine ⟨a, rfl, ?_⟩
 rcases hq with hq | hq
 ·exact .inl ⟨⟨xs, hq⟩, qk6 Pv h0 (hl hq) hs hd⟩
 ·exact .inr ⟨⟨xs, hq⟩, wv4 Pv h0 (ht hq) hs hd⟩
theorem qt1 {g : TG} {tb : TS} {D : P4} {σ : St} {H : Hp} {n : Int} (h0 : 0 <= n) (hn : n < 2 ^ 62) (Pv : Nat -> St -> Hp -> Prop) (p0 : Pv 0 σ H)
 (hs : ∀ (i : Nat) σ H, (i : Int) < n -> Pv i σ H -> g (.int i) σ H fun σ2 H2 => tb { D with nx := PAt Pv (i + 1), ct := PAt Pv (i + 1), bk := D.nx } σ2 H2) (hd : ∀ σ H, Pv n.toNat σ H -> D.nx σ H) :
 ∃ j : Int, [V.int n] = [.int j] /\ -(2 ^ 62) <= j /\ j < 2 ^ 62 /\ xh9 g tb D σ (Itr 0 j.toNat) H :=
 ⟨n, rfl, by omega, hn, xq0 (lo := 0) (n := n.toNat) Pv p0 (fun i σ H hi p => by rw [Int.zero_add]; exact hs i σ H (by omega) p) hd⟩
abbrev qo5 (g : TG) (tt : TT) (te : TE) (σ' : St) (Q : VK) (J : It) (H1 : Hp) : Prop := ∃ W : Nat -> Nat -> List V -> Hp -> Prop, (∃ m, W 0 m [] H1) /\ ∀ i m ys H, W i m ys H -> ys.length <= sizeLine /\
 ((J.stop i H /\ ∀ p, H p = none -> Q (.ref p) (upd H p (.lst ys))) \/
  (J.go i H /\ ∃ NN : List V -> Hp -> Prop, (∀ ys' H', NN ys' H' -> ∃ m', m' < m /\ W (i + 1) m' ys' H') /\ ∀ x H', J.yld i H x H' -> g x σ' H' fun σ2 H2 => tt σ2 H2 fun b H3 =>
   if b = true then te σ2 H3 fun y H4 => NN (ys ++ [y]) H4 else NN ys H3))
theorem qt2 {fr : List (Option Nat)} {wi : TI} {g : TG} {tt : TT} {te : TE} {σ : St} {H : Hp} {Q : VK} (h : wi σ H (qo5 g tt te (qe7 fr σ) Q)) : P7 fr wi g tt te σ H Q := h
theorem wd7 {J : It} {n : Nat} {g : TG} {tt : TT} {te : TE} {σ' : St} {H : Hp} {Q : VK} (item : Nat -> V -> Prop) (Pv : Nat -> List V -> Hp -> Prop) (h0 : Pv 0 [] H) (hlen : ∀ i ys H, i <= n -> Pv i ys H -> ys.length <= sizeLine)
 (hgo : ∀ i ys H, i < n -> Pv i ys H -> J.go i H) (hy : ∀ i ys H x H', i < n -> Pv i ys H -> J.yld i H x H' -> H' = H /\ item i x) (hst : ∀ ys H, Pv n ys H -> J.stop n H)
 (hs : ∀ i x ys H, i < n -> item i x -> Pv i ys H -> g x σ' H fun σ2 H2 => tt σ2 H2 fun b H3 => if b = true then te σ2 H3 fun y H4 => PAt Pv (i + 1) (ys ++ [y]) H4 else PAt Pv (i + 1) ys H3)
 (hd : ∀ ys H, Pv n ys H -> ∀ p, H p = none -> Q (.ref p) (upd H p (.lst ys))) : qo5 g tt te σ' Q J H := by
 refine ⟨fun i m ys H => m = n - i /\ i <= n /\ Pv i ys H, ⟨n, by simp, Nat.zero_le _, h0⟩, ?_⟩
 rintro i m ys H ⟨rfl, hi, p⟩
 refine ⟨hlen i ys H hi p, ?_⟩
 by_cases hlt : i < n
 ·refine .inr ⟨hgo i ys H hlt p, Pv (i + 1), fun ys' H' q => ⟨n - (i + 1), by omega, rfl, hlt, q⟩, fun x H' y => ?_⟩
  obtain ⟨rfl, hx⟩ := hy i ys H x H' hlt p y
  exact hs i x ys _ hlt hx p
 ·have e : i = n := by omega
  subst e
  exact .inl ⟨hst ys H p, hd ys H p⟩
theorem qa5 {K : Fg} {g : TG} {tt : TT} {te : TE} {σ' : St} {H : Hp} {Q : VK} {a : Addr} {xs : List V} (hq : SqL K H a xs) (Pv : Nat -> List V -> Hp -> Prop) (h0 : Pv 0 [] H) (hlen : ∀ i ys H, i <= xs.length -> Pv i ys H -> ys.length <= sizeLine)
 (hl : ∀ i ys H, i <= xs.length -> Pv i ys H -> SqL K H a xs)
 (hs : ∀ i x ys H, xs[i]? = some x -> Pv i ys H -> g x σ' H fun σ2 H2 => tt σ2 H2 fun b H3 => if b = true then te σ2 H3 fun y H4 => PAt Pv (i + 1) (ys ++ [y]) H4 else PAt Pv (i + 1) ys H3)
 (hd : ∀ ys H, Pv xs.length ys H -> ∀ p, H p = none -> Q (.ref p) (upd H p (.lst ys))) :
 ∃ b, V.ref a = .ref b /\ (((∃ xs, SqL K H b xs) /\ qo5 g tt te σ' Q (Itl K b) H) \/ ((∃ xs, SqT K H b xs) /\ qo5 g tt te σ' Q (Itt K b) H)) := by
 refine ⟨a, rfl, .inl ⟨⟨xs, hq⟩, wd7 (n := xs.length) (fun i x => xs[i]? = some x) Pv h0 hlen (fun i ys H hi p => ?_) (fun i ys H x H' hi p y => ?_) (fun ys H p => ?_) (fun i x ys H _ hx p => hs i x ys H hx p) hd⟩⟩
 ·exact ⟨xs, xs[i], hl i ys H (Nat.le_of_lt hi) p, by simp [hi]⟩
 ·exact ⟨y.1, y.2 xs (hl i ys H (Nat.le_of_lt hi) p)⟩
 ·exact ⟨xs, hl _ ys H (Nat.le_refl _) p, Nat.le_refl _⟩
theorem qf7 {g : TG} {tt : TT} {te : TE} {σ' : St} {H : Hp} {Q : VK} {n : Int} (h0 : 0 <= n) (hn : n < 2 ^ 62) (Pv : Nat -> List V -> Hp -> Prop) (p0 : Pv 0 [] H) (hlen : ∀ (i : Nat) ys H, (i : Int) <= n -> Pv i ys H -> ys.length <= sizeLine)
 (hs : ∀ (i : Nat) ys H, (i : Int) < n -> Pv i ys H -> g (.int i) σ' H fun σ2 H2 => tt σ2 H2 fun b H3 => if b = true then te σ2 H3 fun y H4 => PAt Pv (i + 1) (ys ++ [y]) H4 else PAt Pv (i + 1) ys H3)
 (hd : ∀ ys H, Pv n.toNat ys H -> ∀ p, H p = none -> Q (.ref p) (upd H p (.lst ys))) :
 ∃ j : Int, [V.int n] = [.int j] /\ -(2 ^ 62) <= j /\ j < 2 ^ 62 /\ qo5 g tt te σ' Q (Itr 0 j.toNat) H :=
 ⟨n, rfl, by omega, hn, wd7 (n := n.toNat) (fun i x => x = .int i) Pv p0 (fun i ys H hi p => hlen i ys H (by omega) p) (fun i ys H hi _ => hi) (fun i ys H x H' hi _ y => ⟨y.1, by rw [y.2, Int.zero_add]⟩) (fun ys H _ => Nat.le_refl _)
  (fun i x ys H hi hx p => by subst hx; exact hs i ys H (by omega) p) hd⟩
theorem xr8 {g : TG} {tt : TT} {te : TE} {σ' : St} {H : Hp} {Q : VK} {lo hi : Int} (h1 : -(2 ^ 62) <= lo) (h2 : lo <= hi) (h3 : hi < 2 ^ 62) (Pv : Nat -> List V -> Hp -> Prop) (p0 : Pv 0 [] H) (hlen : ∀ (i : Nat) ys H, lo + i <= hi -> Pv i ys H -> ys.length <= sizeLine)
 (hs : ∀ (i : Nat) ys H, lo + i < hi -> Pv i ys H -> g (.int (lo + i)) σ' H fun σ2 H2 => tt σ2 H2 fun b H3 => if b = true then te σ2 H3 fun y H4 => PAt Pv (i + 1) (ys ++ [y]) H4 else PAt Pv (i + 1) ys H3)
 (hd : ∀ ys H, Pv (hi - lo).toNat ys H -> ∀ p, H p = none -> Q (.ref p) (upd H p (.lst ys))) :
 ∃ i j : Int, [V.int lo, V.int hi] = [.int i, .int j] /\ (-(2 ^ 62) <= i /\ i < 2 ^ 62 /\ -(2 ^ 62) <= j /\ j < 2 ^ 62) /\ qo5 g tt te σ' Q (Itr i (j - i).toNat) H :=
 ⟨lo, hi, rfl, ⟨h1, by omega, by omega, h3⟩, wd7 (n := (hi - lo).toNat) (fun i x => x = .int (lo + i)) Pv p0 (fun i ys H hi' p => hlen i ys H (by omega) p) (fun i ys H hi' _ => hi') (fun i ys H x H' hi' _ y => y) (fun ys H _ => Nat.le_refl _)
  (fun i x ys H hi' hx p => by subst hx; exact hs i ys H (by omega) p) hd⟩
theorem But.sqL {K : Fg} {ps : List Addr} {H H' : Hp} {a : Addr} {xs : List V} (e : But ps H H') (n : a ∉ ps) (h : SqL K H a xs) : SqL K H' a xs := by
 rcases h with (h | ⟨o, h⟩) | h
 ·exact .inl (.inl (e _ _ h n))
 ·exact .inl (.inr ⟨o, e _ _ h n⟩)
 ·exact .inr h
theorem But.new {ps : List Addr} {H H' : Hp} {p : Addr} (e : But ps H H') (h : H' p = none) (o : HO) : But ps H (L2.upd H' p o) := fun b u q n => by
 have := e b u q n
 rw [B8 (D8 this h)]; exact this
section
variable {σ : St} {H : Hp} {Q : VK} {D : P4}
theorem qa7 {t u : TS} (h : t { D with nx := u D } σ H) : C6 t u D σ H := h
theorem wd8 (h : D.nx σ H) : G7 D σ H := h
theorem ql0 {te : TE} {g : TG} (h : te σ H fun x H1 => g x σ H1 D.nx) : G0 te g D σ H := h
theorem E3 {i : Nat} {v : V} {R : St -> Hp -> Prop} (h : R (σ.set i (some v)) H) : B7 i v σ H R := h
theorem S1 {i : Nat} {v : V} (e : σ[i]? = some (some v)) (h : Q v H) : A7 i σ H Q := ⟨v, e, h⟩
theorem yp7 {v : V} (h : Q v H) : tC v σ H Q := h
theorem xx3 {r : R2} {ta tb : TE} (h : ta σ H fun x H1 => tb σ H1 fun y H2 => r x y H2 Q) : tOp r ta tb σ H Q := h
theorem xi0 {te : TE} (h : te σ H D.rt) : M0 te D σ H := h
theorem xm5 {te : TE} (h : te σ H fun _ H1 => D.nx σ H1) : qf1 te D σ H := h
theorem yl4 {c : TT} {t u : TS} (h : c σ H fun b H1 => if b = true then t D σ H1 else u D σ H1) : M8 c t u D σ H := h
theorem yp8 {c : TT} {ta tb : TE} (h : c σ H fun b H1 => if b = true then ta σ H1 Q else tb σ H1 Q) : tIf c ta tb σ H Q := h
theorem xm6 {t : TE} {R : Bool -> Hp -> Prop} (h : t σ H fun x H' => ∃ k, x = .bl k /\ R k H') : E4 t σ H R := h
theorem za8 {t : TE} {R : Bool -> Hp -> Prop} (h : t σ H fun x H' => ∃ k, x = .bl k /\ R k H') : tB t σ H R := h
theorem yw8 {b : Bool} {R : Bool -> Prop} (h : R b) : ∃ k, V.bl b = .bl k /\ R k := ⟨b, rfl, h⟩
theorem yp9 {t u : TT} {R : Bool -> Hp -> Prop} (h : t σ H fun c H1 => if c = true then u σ H1 R else R false H1) : yd8 t u σ H R := h
theorem yw9 {t u : TT} {R : Bool -> Hp -> Prop} (h : t σ H fun c H1 => if c = true then R true H1 else u σ H1 R) : tOr t u σ H R := h
theorem yq0 {t : TT} {R : Bool -> Hp -> Prop} (h : t σ H fun c H1 => R (!c) H1) : wf0 t σ H R := h
theorem yf5 {ta tb : TE} (h : ta σ H fun x H1 => ∃ c, x = .bl c /\ if c = true then tb σ H1 Q else Q (.bl false) H1) : qo0 ta tb σ H Q := h
theorem V2 {R : List V -> Hp -> Prop} (h : R [] H) : B6 σ H R := h
theorem W6 {ta : TE} {tr : TA} {R : List V -> Hp -> Prop} (h : ta σ H fun x H1 => tr σ H1 fun xs H2 => R (x :: xs) H2) : A6 ta tr σ H R := h
theorem xx4 {t : TA} (h : t σ H fun xs H1 => xs.length <= sizeLine /\ ∀ p, H1 p = none -> Q (.ref p) (upd H1 p (.tup xs))) : qp3 t σ H Q := h
theorem xi1 {t : TA} (h : t σ H fun xs H1 => xs.length <= sizeLine /\ ∀ p, H1 p = none -> Q (.ref p) (upd H1 p (.lst xs))) : O5 t σ H Q := h
theorem yf6 {sp : Sp} {dvs : List V} {E : XK} {t : TA} (h : t σ H fun vs H1 => sp (vs ++ dvs) H1 Q E) : C8 sp dvs E t σ H Q := h
theorem xc7 {r : List V -> Hp -> VK -> Prop} {t : TA} (h : t σ H fun vs H1 => r vs H1 Q) : tCB r t σ H Q := h
theorem yl5 {R : Bool -> Hp -> Prop} (h : R true H) : tTT σ H R := h
theorem xx5 (h : D.bk σ H) : xg3 D σ H := h
theorem wg5 {K : Fg} {tl : TE} {R : It -> Hp -> Prop} (h : tl σ H fun x H1 => ∃ a, x = .ref a /\ (((∃ xs, SqL K H1 a xs) /\ R (Itl K a) H1) \/ ((∃ xs, SqT K H1 a xs) /\ R (Itt K a) H1))) : qh6 K tl σ H R := h
theorem wd9 {ta : TA} {R : It -> Hp -> Prop} (h : ta σ H fun vs H1 => ∃ j : Int, vs = [.int j] /\ -(2 ^ 62) <= j /\ j < 2 ^ 62 /\ R (Itr 0 j.toNat) H1) : qf2 ta σ H R := h
theorem yf7 {ta : TA} {R : It -> Hp -> Prop} (h : ta σ H fun vs H1 => ∃ i j : Int, vs = [.int i, .int j] /\ (-(2 ^ 62) <= i /\ i < 2 ^ 62 /\ -(2 ^ 62) <= j /\ j < 2 ^ 62) /\ R (Itr i (j - i).toNat) H1) : xl3 ta σ H R := h
theorem yq1 {to ti : TE} {t : xu9} {v : V} {R : St -> Hp -> Prop} (h : to σ H fun o H1 => ti σ H1 fun i H2 => t o i v H2 fun H3 => R σ H3) : wf2 to ti t v σ H R := h
theorem yl6 {K : Fg} {T : String} {r : V -> List V -> Hp -> VK -> Prop} {to : TE} {t : TA} (h : to σ H fun x H1 => tyV K T x H1 /\ t σ H1 fun xs H2 => r x xs H2 Q) : tBM K T r to t σ H Q := h
theorem xx6 {r r' : R2} {ta tb tc : TE} (h : ta σ H fun x H1 => tb σ H1 fun y H2 => r x y H2 fun z H3 => ∃ k, z = .bl k /\ (if k = true then tc σ H3 fun w' H4 => r' y w' H4 Q else Q (.bl false) H3)) : wv6 r r' ta tb tc σ H Q := h
end
section
variable {H : Hp} {Q : VK} {K : Fg}
theorem yq2 {i j : Int} (h : Q (.int (i + j)) H) : L7 K (.int i) (.int j) H Q := .inl ⟨i, j, rfl, rfl, h⟩
theorem X9 {i j : Str} (hz : i.length + j.length <= sizeLine) (h : Q (.str (i ++ j)) H) : L7 K (.str i) (.str j) H Q := .inr (.inl ⟨i, j, rfl, rfl, hz, h⟩)
theorem wt6 {a b : Addr} {xs ys : List V} (h1 : H a = some (.lst xs)) (h2 : H b = some (.lst ys)) (hz : xs.length + ys.length <= sizeLine) (h : ∀ p, H p = none -> Q (.ref p) (upd H p (.lst (xs ++ ys)))) : L7 K (.ref a) (.ref b) H Q := .inr (.inr (.inl ⟨a, b, xs, ys, rfl, rfl, h1, h2, hz, h⟩))
theorem wg6 {i j : Int} (c : xv1 i j) (h : Q (.int (i * j)) H) : qo3 (.int i) (.int j) H Q := .inl ⟨i, j, rfl, rfl, c, h⟩
theorem yq3 {z : Str} {n : Int} (h0 : 0 <= n) (h1 : n <= 1000) (h2 : z.length <= 1000) (h : Q (.str (PySem.Txt.mul z n)) H) : qo3 (.str z) (.int n) H Q := .inr (.inl ⟨z, n, rfl, rfl, h0, h1, h2, h⟩)
theorem yq4 {i j : Int} (c : qg8 i j) (h : Q (.int (i / j)) H) : rI qg8 (fun i j => .int (i / j)) (.int i) (.int j) H Q := ⟨i, j, rfl, rfl, c, h⟩
theorem yx0 {i j : Int} (c : 0 < j) (h : Q (.int (i % j)) H) : rI (fun _ j => 0 < j) (fun i j => .int (i % j)) (.int i) (.int j) H Q := ⟨i, j, rfl, rfl, c, h⟩
theorem yx1 {i j : Int} (h : Q (.bl (decide (i < j))) H) : xh6 (.int i) (.int j) H Q := .inl ⟨i, j, rfl, rfl, h⟩
theorem yx2 {i j : Int} (h : Q (.bl (decide (i <= j))) H) : xh7 (.int i) (.int j) H Q := .inl ⟨i, j, rfl, rfl, h⟩
theorem yx3 {i j : Int} (h : Q (.bl (decide (j < i))) H) : yp4 (.int i) (.int j) H Q := .inl ⟨i, j, rfl, rfl, h⟩
theorem yx4 {i j : Int} (h : Q (.bl (decide (j <= i))) H) : yf4 (.int i) (.int j) H Q := .inl ⟨i, j, rfl, rfl, h⟩
theorem yx5 {i j : Str} (h : Q (.bl (decide (i.cps.toList < j.cps.toList))) H) : xh6 (.str i) (.str j) H Q := .inr ⟨i, j, rfl, rfl, h⟩
theorem yl7 {i j : Str} (h : Q (.bl (!decide (j.cps.toList < i.cps.toList))) H) : xh7 (.str i) (.str j) H Q := .inr ⟨i, j, rfl, rfl, h⟩
theorem xc8 {x y : V} (c : ye0 x y = true) (h : Q (.bl (decide (x = y))) H) : O0 K x y H Q := .inl ⟨c, h⟩
theorem yq5 {x y : V} (c : ye0 x y = true) (h : Q (.bl (!decide (x = y))) H) : qy1 K x y H Q := .inl ⟨c, h⟩
theorem yx6 {x y : V} {d e : PyData} (h1 : Dv K H d x) (h2 : Dv K H e y) (hz : d.depth <= 64) (h : Q (.bl (PyData.eqv d e)) H) : O0 K x y H Q := .inr ⟨d, e, h1, h2, by omega, h⟩
theorem yl8 {x y : V} {d e : PyData} (h1 : Dv K H d x) (h2 : Dv K H e y) (hz : min d.depth e.depth <= 190) (h : Q (.bl (PyData.eqv d e)) H) : O0 K x y H Q := .inr ⟨d, e, h1, h2, hz, h⟩
theorem yx7 {x y : V} {d e : PyData} (h1 : Dv K H d x) (h2 : Dv K H e y) (hz : min d.depth e.depth <= 190) (h : Q (.bl (!PyData.eqv d e)) H) : qy1 K x y H Q := .inr ⟨d, e, h1, h2, hz, h⟩
theorem za9 {x : V} (h : Q (.bl (decide (x = .non))) H) : xc6 x .non H Q := ⟨rfl, h⟩
theorem yf8 {x : V} (h : Q (.bl (!decide (x = .non))) H) : qh4 x .non H Q := ⟨rfl, h⟩
theorem L8 {p : Addr} {xs : List V} {i : Int} {v : V} (h1 : SqL K H p xs) (e : atI xs i = some v) (h : Q v H) : rIx K (.ref p) (.int i) H Q := .inl ⟨p, xs, i, v, rfl, rfl, h1, e, h⟩
theorem P8 {p : Addr} {xs : List V} {i : Int} {v : V} (h1 : SqT K H p xs) (e : atI xs i = some v) (h : Q v H) : rIx K (.ref p) (.int i) H Q := .inr (.inl ⟨p, xs, i, v, rfl, rfl, h1, e, h⟩)
theorem xm7 {z : Str} {i : Int} {c : Nat} (hz : z.length <= sizeLine) (e : atI z.cps.toList i = some c) (h : Q (.str ⟨#[c]⟩) H) : rIx K (.str z) (.int i) H Q := .inr (.inr ⟨z, i, c, rfl, rfl, hz, e, h⟩)
theorem xx7 {x : V} {p : Addr} {xs : List V} (h1 : SqL K H p xs \/ SqT K H p xs) (fx : qc4 x = true) (fs : xs.all qc4 = true) (h : Q (.bl (inV x xs)) H) : xx1 K false x (.ref p) H Q := .inl ⟨p, xs, rfl, h1, fx, fs, h⟩
theorem qt3 {x : V} {p : Addr} {xs : List V} (h1 : SqL K H p xs \/ SqT K H p xs) (fx : qc4 x = true) (fs : xs.all qc4 = true) (h : Q (.bl (!inV x xs)) H) : xx1 K true x (.ref p) H Q := .inl ⟨p, xs, rfl, h1, fx, fs, h⟩
theorem O8 {p : Addr} {xs : List V} (h1 : SqL K H p xs \/ SqT K H p xs) (h : Q (.int xs.length) H) : N4 K [.ref p] H Q := .inl ⟨p, xs, rfl, h1, h⟩
theorem yq6 {z : Str} (hz : z.length <= sizeLine) (h : Q (.int z.length) H) : N4 K [.str z] H Q := .inr (.inl ⟨z, rfl, hz, h⟩)
theorem qy3 {p : Addr} {xs : List V} {k : Int} {v : V} {j : Nat} {R : Hp -> Prop} (h1 : H p = some (.lst xs)) (e : ixN xs.length k = some j) (h : R (upd H p (.lst (xs.set j v)))) : xv5 (.ref p) (.int k) v H R := ⟨p, xs, k, j, rfl, rfl, h1, e, h⟩
theorem qf8 {p : Addr} {xs : List V} {y : V} (h1 : H p = some (.lst xs)) (hz : xs.length < sizeLine) (h : Q .non (upd H p (.lst (xs ++ [y])))) : W0 (.ref p) [y] H Q := ⟨p, xs, y, rfl, rfl, h1, hz, h⟩
theorem xx8 {p : Addr} {xs : List V} {i : Int} {y : V} (h1 : H p = some (.lst xs)) (h0 : 0 <= i) (hi : i <= xs.length) (hz : xs.length < sizeLine) (h : Q .non (upd H p (.lst (V1 xs i.toNat y)))) : qt0 (.ref p) [.int i, y] H Q := ⟨p, xs, i, y, rfl, rfl, h1, h0, hi, hz, h⟩
end
end L2
namespace L2
open PySem PySem.Spec PyProof.Rows PySem.SeqAt
theorem wc7 : isSubtype (.type "range_iterator") (.type "reversed") = pure false := by rw [isSubtype_type]; kernel_rfl
theorem wc8 (r : Addr) (a b c : Int) (t u v : Tok) (hc0 : ¬(!(Builtin.Range.rangeFitsLong a && Builtin.Range.rangeFitsLong b && Builtin.Range.rangeFitsLong c && Builtin.Range.rangeFitsLong (-c) && Builtin.Range.rangeFitsLong (a - c) && Builtin.Range.rangeFitsLong (Builtin.Range.rangeSize a b c))) = true) :
 Meets (Builtin.«range.__reversed__» ⟨[.ref r], []⟩) (fun _ R s => s.heap.get? r = some { cls := .type "range", dict := none, data := .fields #[.int a t, .int b u, .int c v], slots := #[] } /\
  R (.ok (.ret (Value.ref s.heap.objs.size))) { s with heap := s.heap.push { cls := Value.type (if (Builtin.Range.rangeFitsLong a && Builtin.Range.rangeFitsLong b && Builtin.Range.rangeFitsLong c && Builtin.Range.rangeFitsLong (-c) && Builtin.Range.rangeFitsLong (a - c) && Builtin.Range.rangeFitsLong (Builtin.Range.rangeSize a b c)) = true then "range_iterator" else "longrange_iterator"), data := .fields #[rawInt (a + (Builtin.Range.rangeSize a b c - 1) * c), rawInt (Builtin.Range.rangeSize a b c), rawInt (-c)] } }) :=
 .of_wp fun prog w A R s h => by obtain ⟨hp, g, d, tk, os⟩ := s; obtain ⟨hl, h⟩ := h; wp_walk; exact ⟨_, rfl, h⟩
section
variable {prog : Program} {w : World} {A : Around} {E : Value -> Shared -> Prop} {s : Shared}
noncomputable def ww9 (n : Int) : Obj := { cls := .type "range_iterator", data := .fields #[rawInt (n - 1), rawInt n, rawInt (-1)] }
theorem wg7 {r : Addr} {n : Int} {t u v : Tok} {Q : Value -> Shared -> Prop} (hr : s.heap.get? r = some { cls := .type "range", data := .fields #[.int 0 t, .int n u, .int 1 v] }) (h0 : 0 <= n) (h1 : n < 2 ^ 62)
 (h : Q (.ref s.heap.objs.size) { s with heap := s.heap.push (ww9 n) }) : wpAny (model prog w) A (call (.builtin "range.__reversed__") [.ref r]) Q E s := by
 have e1 : Builtin.Range.rangeSize 0 n 1 = n := by rw [rangeSize_one]; split <;> omega
 have fit : ∀ k : Int, -(2 ^ 62) <= k -> k <= 2 ^ 62 -> Builtin.Range.rangeFitsLong k = true := fun k a b => by
  unfold Builtin.Range.rangeFitsLong
  simp only [Bool.and_eq_true, decide_eq_true_eq]
  constructor <;> omega
 have sm : (Builtin.Range.rangeFitsLong 0 && Builtin.Range.rangeFitsLong n && Builtin.Range.rangeFitsLong 1 && Builtin.Range.rangeFitsLong (-1) && Builtin.Range.rangeFitsLong (0 - 1) && Builtin.Range.rangeFitsLong (Builtin.Range.rangeSize 0 n 1)) = true := by
  rw [e1, fit 0 (by decide) (by decide), fit n (by omega) (by omega), fit 1 (by decide) (by decide), fit (-1) (by decide) (by decide), fit (0 - 1) (by decide) (by decide)]; rfl
 refine call_meets F.slot_range_reversed ⟨_, hr, rfl⟩ F.entry_range_reversed (F.args_range_reversed_1 _) (wc8 r 0 n 1 t u v (by rw [sm]; decide)) ⟨hr, ?_⟩
 rw [if_pos sm, e1]
 have e2 : (0 : Int) + (n - 1) * 1 = n - 1 := by omega
 rw [e2]
 exact h
theorem qt4 {r : Addr} {n : Int} {t u v : Tok} {Q₁ : Value -> Shared -> Prop} (hr : s.heap.get? r = some { cls := .type "range", data := .fields #[.int 0 t, .int n u, .int 1 v] }) (h0 : 0 <= n) (h1 : n < 2 ^ 62)
 (h : Q₁ (.ref s.heap.objs.size) { s with heap := s.heap.push (ww9 n) }) :
 codeAny (model prog w) A (.call (.builtin "reversed.__new__") ⟨[.type "reversed", .ref r], []⟩) (wants Q₁ E) s := by
 have hT : s.TypeIs (.ref r) "range" := ⟨_, hr, rfl⟩
 refine codeAny_of_tree ?_
 show wpAny _ A.in1 (do checkBuiltinCall "reversed.__new__" ⟨[.type "reversed", .ref r], []⟩; again (.builtin "reversed.__new__" ⟨[.type "reversed", .ref r], []⟩)) _ _ s
 refine wpAny_bind (wpAny_of_eq (F.newCall_reversed_1 _) (wpAny_pure ⟨plainId_quiet F.plain_reversed_new _, codeAny_builtin F.entry_reversed_new ?_⟩))
 rw [Around.under_plainId F.plain_reversed_new _]
 unfold Builtin.«reversed.__new__»
 refine wpAny_bind (wpAny_of_eq (newClass_reversed _) ?_)
 try dsimp only
 refine wpAny_bind (wpAny_of_eq (a := ()) (by first | rfl | kernel_rfl) ?_)
 refine wpAny_bind (wpAny_of_eq (a := ()) (by first | rfl | kernel_rfl) ?_)
 try dsimp only
 refine wpAny_bind (wpAny_specialOf hT F.slot_range_reversed.lookup ?_)
 try dsimp only
 refine wpAny_bind (wpAny_of_eq (F.slot_range_reversed.bind _) ?_)
 try dsimp only
 first
 | rw [if_neg (show ¬ ((Value.builtin "range.__reversed__" == Value.none) = true) from Bool.false_ne_true)]
 | (show wpAny _ _ (if (Value.builtin "range.__reversed__" == Value.none) = true then _ else _) _ _ _; rw [if_neg (show ¬ ((Value.builtin "range.__reversed__" == Value.none) = true) from Bool.false_ne_true)])
 refine wpAny_bind (wpAny_rule ?_)
 refine wpAny_bind (m := runValue (.call (.builtin "range.__reversed__") ⟨[.ref r], []⟩)) (show wpAny _ _ (call (.builtin "range.__reversed__") [.ref r]) _ _ _ from wg7 hr h0 h1 ?_)
 first
 | exact wpAny_pure h
 | exact wpAny_bind (wpAny_pure (wpAny_pure h))
theorem qt5 {r : Addr} {n : Int} {t u v : Tok} {Q : Value -> Shared -> Prop} (hr : s.heap.get? r = some { cls := .type "range", data := .fields #[.int 0 t, .int n u, .int 1 v] }) (h0 : 0 <= n) (h1 : n < 2 ^ 62)
 (h : Q (.ref s.heap.objs.size) { s with heap := s.heap.push (ww9 n) }) : wpAny (model prog w) A (call (.type "reversed") [.ref r]) Q E s := by
 refine callType_other (U := "range_iterator") (Q₁ := fun obj s₁ => obj = .ref s.heap.objs.size /\ s₁ = { s with heap := s.heap.push (ww9 n) }) (by decide +kernel) F.create_reversed ⟨_, _, F.mro_reversed⟩ F.made_reversed wc7 (F.typeCall_reversed_1 _) (qt4 hr h0 h1 ⟨rfl, rfl⟩) ?_
 rintro obj s₁ ⟨rfl, rfl⟩
 exact ⟨⟨_, Heap.get?_push_size _ rfl, rfl⟩, h⟩
end
def Itv (n : Nat) : It := ⟨fun i _ => i < n, fun i H x H' => H' = H /\ x = .int ((n : Int) - 1 - i), fun i _ => n <= i⟩
theorem xx9 {P : Program} {w : World} {K : Fg} {tg : Expr} (it : Addr) (n : Nat) : wn6 P w K tg (Itv n) [it] it (fun i h => IsRangeIter h it ((n : Int) - 1 + (i : Nat) * (-1)) ((n : Int) - (i : Nat)) (-1)) where
 mem := by simp
 obj := fun i h st b hb => by
  have e : b = it := by simpa using hb
  subst e
  exact ⟨_, st, fun v z => by
   have z' : Data.fields _ = Data.cell v := z
   cases z'⟩
 keep := fun i h h' st k => k it (by simp) _ st
 item := by
  intro X hP hw hK hc i pins s σ H E I hf st hg
  subst hP hw hK
  obtain ⟨f0, f1, f2, f3, f4, f5⟩ := hf it (by simp)
  have W := Walks.range (prog := X.prog) (w := X.w) (I.ok.hd hc) it ((n : Int) - 1) (-1) n
  refine wpAny_with_toks (n := 1) I.tk (W.item i s _ _ hg st fun v h' tk hv st' kk ht => ?_)
  have ht : 0 < tk := ht
  obtain ⟨t, rfl⟩ := hv
  have I1 : Inv X pins σ H { s with heap := h', toks := tk } := I.turned (fun b o hb e => kk b o (by simpa using hb) e) f0 f1 f3 f4 f5
  refine ⟨_, rfl, xb6 (s := { s with heap := h', toks := tk }) (n := "range_iterator") st' rfl rfl (by decide) ⟨.int ((n : Int) - 1 - i), H, I1, ⟨t, ?_⟩, ⟨rfl, rfl⟩, st', fun b hb => (hf b hb).1⟩⟩
  have e : (n : Int) - 1 + (i : Int) * (-1) = (n : Int) - 1 - i := by omega
  rw [e]
 done := by
  intro X hP hw hK hc i pins s σ H E I hf st hg
  subst hP hw hK
  obtain ⟨f0, f1, f2, f3, f4, f5⟩ := hf it (by simp)
  exact wpAny_pyNext_range_end (I.ok.hd hc) st (by have : n <= i := hg; omega) fun h' eb => ⟨rfl, I.turned (t' := s.toks) (fun b o hb e => eb b o hb e) f0 f1 f3 f4 f5⟩
 self := fun _ _ _ _ _ st h => wpAny_pyIter_rangeiter st h
def wx0 (ta : TA) : TI := fun σ H R => ta σ H fun vs H1 => ∃ n : Nat, vs = [.int n] /\ (n : Int) < 2 ^ 62 /\ R (Itv n) H1
theorem xc9 {X : Cx} {tg : Expr} {a : Expr} {ta : TA} {p p2 pos pos2 : Pos} (hg : Gl X "reversed") (hm : X.mg "reversed" = none) (hg2 : Gl X "range") (hm2 : X.mg "range" = none) (ha : PA X [a] ta)
 (hs : autoParam (starEach [a] X.env = [(false, eval a X.env)]) zAr) (hs2 : autoParam (starEach [.Call (.Name "range" p2) [a] [] pos2] X.env = [(false, eval (.Call (.Name "range" p2) [a] [] pos2) X.env)]) zAr) :
 PI X tg (.Call (.Name "reversed" p) [.Call (.Name "range" p2) [a] [] pos2] [] pos) (wx0 ta) := by
 intro pins s σ H R I h
 refine Call_ (qg5 I hg hm boot_reversed (PyProof.Rows.callWith_type1 (Calls.spliced_cons ?_) hs2 rfl))
 refine Call_ (qg5 I hg2 hm2 boot_range (PyProof.Rows.callWith_type1 (thn (ha pos2 pins s σ H _ I h) fun us s1 zq => ?_) hs rfl))
 obtain ⟨vs, H1, I1, r1, q1⟩ := zq
 obtain ⟨n, e, q1, q⟩ := q1
 subst e
 cases r1 with
 | cons r rr =>
   cases rr
   obtain ⟨t, rfl⟩ := r
   refine call_range_1 (Calls.spliced_nil ?_)
   have I2 : Inv X pins σ H1 { s1 with heap := s1.heap.push { cls := .type "range", data := .fields #[.int 0 s1.toks, .int n t, .int 1 (s1.toks + 1)] }, toks := s1.toks + 1 + 1 } := I1.kept fun b o e => Heap.get?_push_of_some _ e
   refine qt5 (n := n) (Heap.get?_push_size _ rfl) (by omega) q1 ?_
   refine wpAny_pyIter_rangeiter (x := (n : Int) - 1) (left := n) (step := -1) (Heap.get?_push_size _ rfl) ?_
   refine ⟨_, [_], _, _, H1, rfl, I2.kept (t' := s1.toks + 1 + 1) fun b o e => Heap.get?_push_of_some _ e, xx9 _ n, ?_, fun b hb => ?_, q⟩
   ·have e1 : (n : Int) - 1 + ((0 : Nat) : Int) * (-1) = (n : Int) - 1 := by simp
    have e2 : (n : Int) - ((0 : Nat) : Int) = n := by simp
    rw [e1, e2]
    exact Heap.get?_push_size _ rfl
   ·have e : b = (s1.heap.push { cls := .type "range", data := .fields #[.int 0 s1.toks, .int n t, .int 1 (s1.toks + 1)] }).objs.size := by simpa using hb
    subst e
    exact I2.fpOk (Nat.le_refl _) (I2.hok.fresh (Nat.le_refl _))
theorem xy0 {σ : St} {H : Hp} {ta : TA} {R : It -> Hp -> Prop} (h : ta σ H fun vs H1 => ∃ n : Nat, vs = [.int n] /\ (n : Int) < 2 ^ 62 /\ R (Itv n) H1) : wx0 ta σ H R := h
theorem yf9 {g : TG} {tb : TS} {D : P4} {σ : St} {H : Hp} {n : Nat} (hn : (n : Int) < 2 ^ 62) (Pv : Nat -> St -> Hp -> Prop) (p0 : Pv 0 σ H)
 (hs : ∀ (i : Nat) σ H, i < n -> Pv i σ H -> g (.int ((n : Int) - 1 - i)) σ H fun σ2 H2 => tb { D with nx := PAt Pv (i + 1), ct := PAt Pv (i + 1), bk := D.nx } σ2 H2) (hd : ∀ σ H, Pv n σ H -> D.nx σ H) :
 ∃ m : Nat, [V.int n] = [.int m] /\ (m : Int) < 2 ^ 62 /\ xh9 g tb D σ (Itv m) H := by
 refine ⟨n, rfl, hn, fun i m σ H => m = n - i /\ i <= n /\ Pv i σ H, ⟨n, by simp, Nat.zero_le _, p0⟩, ?_⟩
 rintro i m σ H ⟨rfl, hi, p⟩
 by_cases hlt : i < n
 ·refine .inr ⟨hlt, Pv (i + 1), fun σ' H' p' => ⟨n - (i + 1), by omega, rfl, hlt, p'⟩, fun x H' y => ?_⟩
  obtain ⟨e, y⟩ := y
  subst e y
  exact hs i σ _ hlt p
 ·have e : i = n := by omega
  subst e
  exact .inl ⟨Nat.le_refl _, hd σ H p⟩
section
variable {X : Cx}
def qo6 : xu9 := fun o i v H Q => xv5 o i v H Q \/ ∃ a H', o = .ref a /\ xw1 H a i v H' /\ Q H'
theorem qa8 (hu : X.A.units + 1 < cLine) : yn3 X qo6 := by
 intro pins s σ H o i v ov iv u Q I ro ri rv h
 rcases h with h | ⟨a, H', rfl, g, q⟩
 ·exact xv6 pins s σ H o i v ov iv u Q I ro ri rv h
 ·cases ro
  exact xq9 hu I g ri rv fun s' I' => ⟨H', I', q⟩
def E7 (K : Fg) : R2 := rIx K
theorem C0 (hu : X.A.units + 1 < cLine) : IxR X (E7 X.K) := yo3
def zb0 (neg : Bool) : R2 := fun x y H Q => ∃ a o, y = .ref a /\ yo7 H a x o /\ Q (.bl (if neg then !o.isSome else o.isSome)) H
def ql1 (K : Fg) (neg : Bool) : R2 := fun x y H Q => xx1 K neg x y H Q \/ zb0 neg x y H Q
theorem wg8 (hu : X.A.units + 1 < cLine) : OpR X (compareOp .In) (ql1 X.K false) := by
 refine yp6.or ?_
 intro pins s σ H x y v u Q I rx ry h
 obtain ⟨a, o, rfl, g, q⟩ := h
 cases ry
 exact za5 hu I g rx fun s' I' => ⟨.bl o.isSome, H, I', rfl, q⟩
theorem qf9 (hu : X.A.units + 1 < cLine) : OpR X (compareOp .NotIn) (ql1 X.K true) := by
 refine xr5.or ?_
 intro pins s σ H x y v u Q I rx ry h
 obtain ⟨a, o, rfl, g, q⟩ := h
 cases ry
 exact yf0 hu I g rx fun s' I' => ⟨.bl (!o.isSome), H, I', rfl, q⟩
def xr9 (K : Fg) : List V -> Hp -> VK -> Prop := fun xs H Q => (∃ (x : V) (T : String) (t : Value) (b : Bool), xs = [x, .ty T] /\ qk7 K H x t /\ PySem.W.kitOne K t (.type T) = some b /\ Q (.bl b) H) \/
 ∃ (a : Addr) (ys : List V) (T : String) (b : Bool), xs = [.ref a, .ty T] /\ SqT K H a ys /\ PySem.W.kitOne K (.type "tuple") (.type T) = some b /\ Q (.bl b) H
theorem V3 : Q9 X (.builtin "isinstance") (xr9 X.K) := by
 intro pins s σ H xs us Q I r h
 rcases h with ⟨x, T, t, b, rfl, ty, e, q⟩ | ⟨a, ys, T, b, rfl, hq, e, q⟩
 ·obtain ⟨u, w', rfl, r1, r2⟩ := xb9 r
  cases r2
  exact wpAny_with_toks (n := 1) I.tk (xq6 I r1 ty e fun tk ht => ⟨.bl b, H, I.tok _ ht, rfl, q⟩)
 ·obtain ⟨u, w', rfl, r1, r2⟩ := xb9 r
  cases r2
  cases r1
  obtain ⟨its, rv, pl, hz⟩ := I.tuple hq
  obtain ⟨o, h1, h2, _⟩ := pl
  exact wpAny_with_toks (n := 1) I.tk (PySem.W.kia_one PySem.W.kitx_tuple I.kIn ⟨o, h1, h2⟩ e (fun z => nomatch z) fun tk ht => ⟨.bl b, H, I.tok _ ht, rfl, q⟩)
theorem xd0 {K : Fg} {H : Hp} {Q : VK} {x : V} {T : String} {t : Value} {b : Bool} (ty : qk7 K H x t) (e : PySem.W.kitOne K t (.type T) = some b) (h : Q (.bl b) H) : xr9 K [x, .ty T] H Q := .inl ⟨x, T, t, b, rfl, ty, e, h⟩
example (K : Fg) : PySem.W.kitOne K (.type "str") (.type "str") = some true := by rfl
example (K : Fg) : PySem.W.kitOne K (.type "bool") (.type "int") = some true := by rfl
example (K : Fg) : PySem.W.kitOne K (.type "int") (.type "bool") = some false := by rfl
example (K : Fg) : PySem.W.kitOne K (.type "list") (.type "list") = some true := by rfl
end
end L2
namespace L2
open PySem PySem.Spec PyProof.Rows PySem.SeqAt
section
variable {X : Cx} {pins : List (Addr × Obj)} {σ : List (Option V)} {H : Hp} {s : Shared} {h' : Heap}
theorem Inv.turnLaid {a : Addr} {o : HO} {t' : Nat} {ch : List Addr} (I : Inv X pins σ H s) (hf : ∀ b ∈ ch, wn5 X pins H b)
 (k : ∀ b u, b ∉ ch -> s.heap.get? b = some u -> h'.get? b = some u) (hp : s.heap.objs.size <= a) (new : M9 X.prog X.w (upd H a o) h' a o) (ht : 0 < t') :
 Inv X pins σ (upd H a o) { s with heap := h', toks := t' } := by
 have hn : H a = none := I.hok.fresh hp
 have nit : ∀ b u, H b = some u -> b ∉ ch := fun b u e z => by rw [(hf b z).1] at e; cases e
 have up : ∀ {b : Addr} {u : HO}, H b = some u -> upd H a o b = some u := fun {b u} e => by rw [B8 (D8 e hn)]; exact e
 have neA : ∀ b u, s.heap.get? b = some u -> b ≠ a := fun b u e => Nat.ne_of_lt (Nat.lt_of_lt_of_le (Heap.lt_size e) hp)
 refine I.step (g' := s.gens) (d' := s.drawn) (ch := ch) (fun b hb => ?_) (fun b u _ _ hc e _ => k b u hc e) (fun b u _ _ hc e _ => ⟨u.slots, k b u hc e⟩) (fun b u _ e n => by rw [B8 (neA b u e)]; exact n)
  (fun b u hc e => ⟨u, k b u hc e⟩) (fun _ _ e => up e) (fun _ _ _ e => up e) (fun b ps e => ⟨#[], by rw [up e]; simp⟩) (fun m hm => ?_) (fun b u e => ?_) I.bare ht
 ·obtain ⟨f0, f1, f2, f3, f4, f5⟩ := hf b hb
  exact ⟨f3, f1, f4, f5⟩
 ·obtain ⟨ob, es, ep, ho, r⟩ := hm
  exact ⟨ob, es, ep, k _ ob (fun z => (hf _ z).2.1 rfl) ho, r⟩
 ·by_cases hb : b = a
  ·subst hb; rw [A8] at e; cases e; exact new
  ·rw [B8 hb] at e
   refine (I.hok b u e).stay (fun c v hc q => k c v ?_ q) (fun _ q => up q) fun _ _ q => up q
   rcases hc with z | z
   ·rw [z]; exact nit b u e
   ·exact nit c _ z
end
def Itx (n : Nat) (V' : Nat -> V -> Prop) : It := ⟨fun i _ => i < n, fun i H x H' => H' = H /\ V' i x, fun i _ => n <= i⟩
theorem xi2 {P : Program} {w : World} {K : Fg} {tg : Expr} {it : Addr} {n : Nat} {Pv : Nat -> Value -> Prop} {St : Nat -> Heap -> Prop} {V' : Nat -> V -> Prop} {T : String} {vs : Nat -> Array Value}
 (W : ∀ A : Around, A.handled = none -> Walks P w A it [it] [it] n Pv St) (hV : ∀ i v, Pv i v -> ∃ x, G8 x v /\ V' i x)
 (hO : ∀ i h, St i h -> ∃ o, h.get? it = some o /\ o.cls = .type T /\ o.data = .fields (vs i))
 (hT : ["enumerate", "zip", "dict_itemiterator", "dict_reverseitemiterator", "odict_iterator", "itertools.zip_longest", "itertools.pairwise"].contains T = false)
 (hS : ∀ (A : Around) (i : Nat) (s : Shared) (Q : Value -> Shared -> Prop) (E : Value -> Shared -> Prop), St i s.heap -> Q (.ref it) s -> wpAny (model P w) A (pyIter (.ref it)) Q E s) :
 wn6 P w K tg (Itx n V') [it] it (fun i h => i <= n /\ St i h) where
 mem := by simp
 obj := fun i h st b hb => by
  have e : b = it := by simpa using hb
  subst e
  obtain ⟨o, e, _, d⟩ := hO i h st.2
  exact ⟨o, e, fun v z => by rw [d] at z; cases z⟩
 keep := fun i h h' st k => ⟨st.1, (W {} rfl).frame i h h' st.2 k⟩
 item := by
  intro X hP hw hK hc i pins s σ H E I hf st hg
  subst hP hw hK
  obtain ⟨f0, f1, f2, f3, f4, f5⟩ := hf it (by simp)
  refine wpAny_with_toks (n := 1) I.tk ((W X.A (I.ok.hd hc)).item i s _ _ hg st.2 fun v h' tk hv st' kk ht => ?_)
  have ht : 0 < tk := ht
  obtain ⟨x, rx, vx⟩ := hV i v hv
  have I1 : Inv X pins σ H { s with heap := h', toks := tk } := I.turned (fun b o hb e => kk b o (by simpa using hb) e) f0 f1 f3 f4 f5
  obtain ⟨o, e, c, d⟩ := hO _ _ st'
  exact ⟨v, rfl, xb6 (s := { s with heap := h', toks := tk }) e c d hT ⟨x, H, I1, rx, ⟨rfl, vx⟩, ⟨hg, st'⟩, fun b hb => (hf b hb).1⟩⟩
 done := by
  intro X hP hw hK hc i pins s σ H E I hf st hg
  subst hP hw hK
  obtain ⟨f0, f1, f2, f3, f4, f5⟩ := hf it (by simp)
  have hi : i = n := Nat.le_antisymm st.1 hg
  subst hi
  exact wpAny_with_toks (n := 1) I.tk ((W X.A (I.ok.hd hc)).done s _ _ st.2 fun h' tk eb ht => ⟨rfl, I.turned (fun b o hb e => eb b o (by simpa using hb) e) f0 f1 f3 f4 f5 ht⟩)
 self := fun A i s Q E st h => hS A i s Q E st.2 h
section
variable {X : Cx} {pins : List (Addr × Obj)} {σ : List (Option V)} {H : Hp} {s : Shared} {h' : Heap}
theorem Inv.turnedL {t' : Nat} {ch : List Addr} (I : Inv X pins σ H s) (hf : ∀ b ∈ ch, wn5 X pins H b) (k : ∀ b u, b ∉ ch -> s.heap.get? b = some u -> h'.get? b = some u) (ht : 0 < t') :
 Inv X pins σ H { s with heap := h', toks := t' } := by
 have nit : ∀ b u, H b = some u -> b ∉ ch := fun b u e z => by rw [(hf b z).1] at e; cases e
 refine I.step (g' := s.gens) (d' := s.drawn) (ch := ch) (fun b hb => ?_) (fun b u _ _ hc e _ => k b u hc e) (fun b u _ _ hc e _ => ⟨u.slots, k b u hc e⟩) (fun _ _ _ _ n => n)
  (fun b u hc e => ⟨u, k b u hc e⟩) (fun _ _ e => e) (fun _ _ _ e => e) (fun b ps e => ⟨#[], by rw [e]; simp⟩) (fun m hm => ?_) (fun b u e => ?_) I.bare ht
 ·obtain ⟨f0, f1, f2, f3, f4, f5⟩ := hf b hb
  exact ⟨f3, f1, f4, f5⟩
 ·obtain ⟨ob, es, ep, ho, r⟩ := hm
  exact ⟨ob, es, ep, k _ ob (fun z => (hf _ z).2.1 rfl) ho, r⟩
 ·refine (I.hok b u e).stay (fun c v hc q => k c v ?_ q) (fun _ q => q) fun _ _ q => q
  rcases hc with z | z
  ·rw [z]; exact nit b u e
  ·exact nit c _ z
end
theorem xs0 {P : Program} {w : World} {A : Around} (hh : A.handled = none) (it : Addr) (x : Str) (t : Tok) : Walks P w A it [it] [it] x.cps.size (SignAt x) (fun i h => h.IsStrIter it (strIterType x) x t i) := by
 unfold strIterType
 split
 ·exact Walks.strAscii hh it x t
 ·exact Walks.strWide hh it x t
theorem xd1 {P : Program} {w : World} {A : Around} {E : Value -> Shared -> Prop} {s : Shared} {it : Addr} {x : Str} {t : Tok} {i : Nat} {Q : Value -> Shared -> Prop} (hit : s.heap.IsStrIter it (strIterType x) x t i) (h : Q (.ref it) s) :
 wpAny (model P w) A (pyIter (.ref it)) Q E s := by
 unfold strIterType at hit
 split at hit
 ·exact wpAny_pyIter_striter_ascii hit h
 ·exact wpAny_pyIter_striter_wide hit h
def xd2 (z : Str) (i : Nat) (x : V) : Prop := ∃ c, z.cps.toList[i]? = some c /\ x = .str ⟨#[c]⟩
theorem xy1 {z : Str} (i : Nat) (v : Value) (h : SignAt z i v) : ∃ x, G8 x v /\ xd2 z i x := by
 obtain ⟨c, u, e, rfl⟩ := h
 exact ⟨.str ⟨#[c]⟩, ⟨u, rfl⟩, c, by simpa using e, rfl⟩
theorem xy2 {P : Program} {w : World} {K : Fg} {tg : Expr} (it : Addr) (z : Str) (t : Tok) : wn6 P w K tg (Itx z.cps.size (xd2 z)) [it] it (fun i h => i <= z.cps.size /\ h.IsStrIter it (strIterType z) z t i) := by
 refine xi2 (T := strIterType z) (vs := fun i => #[.str z t, .int i 0]) (fun A hA => xs0 hA it z t) xy1 (fun i h st => ?_) ?_ (fun A i s Q E st h => xd1 st h)
 ·obtain ⟨o, e, c, d⟩ := st
  exact ⟨o, e, c, d⟩
 ·unfold strIterType
  split <;> decide
def yq7 (tl : TE) : TI := fun σ H R => tl σ H fun x H1 => ∃ z, x = .str z /\ R (Itx z.cps.size (xd2 z)) H1
theorem yg0 {X : Cx} {tg l : Expr} {tl : TE} (hl : PE X l tl) : PI X tg l (yq7 tl) := by
 intro pins s σ H R I h
 refine thn (hl pins s σ H _ I h) fun v s1 zq => ?_
 obtain ⟨x, H1, I1, r1, q1⟩ := zq
 obtain ⟨z, e, q⟩ := q1
 subst e
 obtain ⟨t, rfl⟩ := r1
 refine wpAny_pyIter_strU ?_
 refine ⟨s1.heap.objs.size, [s1.heap.objs.size], _, _, H1, rfl, I1.kept (t' := s1.toks) fun b o e => Heap.get?_push_of_some _ e, xy2 _ z t, ⟨Nat.zero_le _, _, Heap.get?_push_size _ rfl, rfl, rfl⟩, fun b hb => ?_, q⟩
 have e : b = s1.heap.objs.size := by simpa using hb
 subst e
 exact I1.fpOk (Nat.le_refl _) (I1.hok.fresh (Nat.le_refl _))
noncomputable def xi3 (x : Str) (lo hi : Option Int) : Str := ⟨((x.cps.toList.drop (HT.sIx x.cps.toList.length 0 lo)).take (HT.sIx x.cps.toList.length x.cps.toList.length hi - HT.sIx x.cps.toList.length 0 lo)).toArray⟩
def yx8 : V -> Option Int -> Option Int -> Hp -> VK -> Prop := fun x lo hi H Q => ∃ z, x = .str z /\ z.length <= sizeLine /\ Q (.str (xi3 z lo hi)) H
theorem xs1 (x : Str) (lo hi : Option Int) : (⟨((Builtin.Str.strSliceIndices lo hi 1 x.length).filterMap (x.cps[·]?)).toArray⟩ : Str) = xi3 x lo hi := by
 obtain ⟨h1, h2, h3⟩ := qh0 lo hi x.length
 have e : Builtin.Str.strSliceIndices lo hi 1 x.length = sliceRange (sliceBounds lo hi none x.length).1 (sliceBounds lo hi none x.length).2.1 (sliceBounds lo hi none x.length).2.2 := rfl
 rw [e, h1, h2, h3]
 unfold xi3
 rw [sliceRange_one, pick_run]
 rfl
theorem xh0 (n d : Nat) (o : Option Int) (h : d <= n) : HT.sIx n d o <= n := by
 cases o with
 | none => exact h
 | some v =>
   show (if v < 0 then (v + (n : Int)).toNat else min v.toNat n) <= n
   split <;> omega
theorem yq8 {X : Cx} : SlR X yx8 := by
 intro pins s σ H x v vl vu lo hi sl Q I rx hs pl pu h
 obtain ⟨z, rfl, hz, q⟩ := h
 obtain ⟨t, rfl⟩ := rx
 refine ⟨"str", _, PySem.F.slot_str_getitem.lookup, typeIs_str _ _ _, ?_⟩
 have part : ∀ {v : Value} {k : Option Int}, IsPart v k -> ∃ l : Option (Int × Tok), v = partValue l /\ l.map (·.1) = k := fun {v k} h => by
  cases h with
  | none => exact ⟨none, rfl, rfl⟩
  | int i t => exact ⟨some (i, t), rfl, rfl⟩
 obtain ⟨l, rfl, el⟩ := part pl
 obtain ⟨u, rfl, eu⟩ := part pu
 refine wpAny_getItem_str_slice (l := l) (u := u) (st := none) hs rfl ?_
 have ep : slicePicked z l u none = Builtin.Str.strSliceIndices lo hi 1 z.length := by unfold slicePicked; rw [el, eu]; rfl
 have ec := xs1 z lo hi
 unfold sliceMade
 rw [ep]
 split
 ·rename_i hc
  have hlen : (Builtin.Str.strSliceIndices lo hi 1 z.length).length = z.length := by simpa using hc
  have : xi3 z lo hi = z := by
   obtain ⟨h1, h2, h3⟩ := qh0 lo hi z.length
   have e : Builtin.Str.strSliceIndices lo hi 1 z.length = sliceRange (sliceBounds lo hi none z.length).1 (sliceBounds lo hi none z.length).2.1 (sliceBounds lo hi none z.length).2.2 := rfl
   rw [e, h1, h2, h3, sliceRange_one, List.length_map, List.length_range] at hlen
   have hb := xh0 z.length z.length hi (Nat.le_refl _)
   have el : z.cps.toList.length = z.length := Array.length_toList
   obtain ⟨⟨l⟩⟩ := z
   unfold xi3
   rw [el, hlen]
   by_cases h0 : HT.sIx (Str.length ⟨⟨l⟩⟩) 0 lo = 0
   ·rw [h0, List.drop_zero, List.take_of_length_le (Nat.le_of_eq el)]
   ·have : Str.length ⟨⟨l⟩⟩ = 0 := by omega
    rw [this, List.take_zero]
    have : l = [] := List.eq_nil_of_length_eq_zero (by rw [<- this]; exact el.symm ▸ rfl)
    rw [this]
  rw [this] at q
  exact ⟨.str z, H, I, ⟨_, rfl⟩, q⟩
 ·rw [ec]
  refine ⟨?_, .str _, H, I.tok _, ⟨_, rfl⟩, q⟩
  have : (xi3 z lo hi).length <= z.length := by
   unfold xi3 Str.length
   simp only [List.size_toArray, List.length_take, List.length_drop, Array.length_toList]
   omega
  omega
def wg9 (K : Fg) : V -> Option Int -> Option Int -> Hp -> VK -> Prop := fun x lo hi H Q => yx8 x lo hi H Q \/ yv6 K x lo hi H Q \/ yw0 K x lo hi H Q
theorem qh7 {X : Cx} : SlR X (wg9 X.K) := yq8.or (yo0.or ye8)
section
variable {K : Fg} {σ : St} {H : Hp} {Q : VK}
theorem qt6 {a : Addr} {xs : List V} {lo hi : Option Int} (hx : SqL K H a xs) (h : ∀ p, H p = none -> Q (.ref p) (upd H p (.lst (qg9 xs lo hi)))) : wg9 K (.ref a) lo hi H Q := .inr (.inr ⟨a, xs, rfl, hx, h⟩)
theorem yx9 {r : V -> Option Int -> Option Int -> Hp -> VK -> Prop} {te : TE} {tl th : TO} (h : te σ H fun x H1 => tl σ H1 fun l H2 => th σ H2 fun u H3 => r x l u H3 Q) : tSl r te tl th σ H Q := h
theorem yg1 {t : TE} {R : Option Int -> Hp -> Prop} (h : t σ H fun x H1 => ∃ i, x = .int i /\ R (some i) H1) : qj6 t σ H R := h
theorem xs3 {R : Option Int -> Hp -> Prop} (h : R none H) : R6 σ H R := h
theorem yq9 {i : Int} {R : Int -> Prop} (h : R i) : ∃ j, V.int i = .int j /\ R j := ⟨i, rfl, h⟩
theorem yg2 {tl : TE} {R : It -> Hp -> Prop} (h : tl σ H fun x H1 => ∃ z, x = .str z /\ R (Itx z.cps.size (xd2 z)) H1) : yq7 tl σ H R := h
theorem xy3 {x y : Str} (h : Q (.bl (decide (x = y))) H) : O0 K (.str x) (.str y) H Q := by
 refine xc8 rfl ?_
 have e : (decide ((V.str x) = V.str y)) = decide (x = y) := by simp
 rw [e]; exact h
theorem xy4 {x y : Str} (h : Q (.bl (!decide (x = y))) H) : qy1 K (.str x) (.str y) H Q := by
 refine yq5 rfl ?_
 have e : (decide ((V.str x) = V.str y)) = decide (x = y) := by simp
 rw [e]; exact h
theorem yl9 {x y : Int} (h : Q (.bl (decide (x = y))) H) : O0 K (.int x) (.int y) H Q := by
 refine xc8 rfl ?_
 have e : (decide ((V.int x) = V.int y)) = decide (x = y) := by simp
 rw [e]; exact h
theorem yy0 {x y : Int} (h : Q (.bl (!decide (x = y))) H) : qy1 K (.int x) (.int y) H Q := by
 refine yq5 rfl ?_
 have e : (decide ((V.int x) = V.int y)) = decide (x = y) := by simp
 rw [e]; exact h
end
def wt7 (xs : List Str) : TA := fun _ H R => R (B2 xs) H
theorem ym0 {X : Cx} : PA X [] (wt7 []) := A9
theorem ym1 {X : Cx} {es : List Expr} {xs : List Str} {x : Str} {j : Nat} {p : Pos} (h : PA X es (wt7 xs)) : PA X (.Constant (.str x) j p :: es) (wt7 (x :: xs)) := A0 (te := tC (.str x)) C3 h
theorem yg3 {σ : St} {H : Hp} {xs : List Str} {R : List V -> Hp -> Prop} (h : R (B2 xs) H) : wt7 xs σ H R := h
end L2
namespace L2
open PySem PySem.Spec PyProof.Rows PySem.SeqAt PySem.Builtin PySem.Builtin.Str
section
variable {X : Cx}
theorem xy5 : ∀ {bs : List Bool} {us : List Value}, G4 (bs.map V.bl) us -> us = bs.map Value.bool
 | [], _, h => by cases h; rfl
 | b :: bs, _, h => by
   have h : G4 (V.bl b :: bs.map V.bl) _ := h
   cases h with
   | cons r t => rw [xy5 t]; cases (show _ = Value.bool b from r); rfl
theorem xs4 (bs : List Bool) : (List.range bs.length).all (fun i => (bs[i]?).getD false) = bs.all id := by
 rw [Bool.eq_iff_iff, List.all_eq_true, List.all_eq_true]
 constructor
 ·intro h b hb
  obtain ⟨i, hi, e⟩ := List.getElem_of_mem hb
  have := h i (List.mem_range.mpr hi)
  rw [List.getElem?_eq_getElem hi, e] at this
  exact this
 ·intro h i hi
  have hi := List.mem_range.mp hi
  rw [List.getElem?_eq_getElem hi]
  exact h _ (List.getElem_mem hi)
def xd3 (K : Fg) : List V -> Hp -> VK -> Prop := fun xs H Q => ∃ (p : Addr) (bs : List Bool), xs = [.ref p] /\ SqL K H p (bs.map V.bl) /\ Q (.bl (bs.all id)) H
theorem qy4 (hc : X.calm = true) : Q9 X (.builtin "all") (xd3 X.K) := by
 intro pins s σ H xs us Q I r h
 obtain ⟨p, bs, rfl, hq, q⟩ := h
 obtain ⟨u, rfl, ru⟩ := qf3 r
 cases ru
 obtain ⟨its, rv, pl, hz⟩ := I.list hq
 have ei := xy5 rv
 subst ei
 refine wpAny_with_toks (n := 1) I.tk (call_all_walk (wpAny_pyIter_list pl.isList ?_))
 have ne : p ≠ s.heap.objs.size := Nat.ne_of_lt (by obtain ⟨o, e, _⟩ := pl.isList; exact Heap.lt_size e)
 refine ⟨_, _, _, _, _, _, fun i => (bs[i]?).getD false, rfl, Walks.list (show X.A.in1.handled = none from I.ok.hd hc) s.heap.objs.size p ne _, ⟨⟨_, Heap.get?_push_size _ rfl, rfl, rfl⟩, pl.isList.at fun o e => Heap.get?_push_of_some _ e⟩, ?_, fun h' tk hk ht => ?_⟩
 ·intro i v s Q E hP hQ
  have hP : (bs.map Value.bool)[i]? = some v := by simpa using hP
  rw [List.getElem?_map] at hP
  obtain ⟨b, hb, rfl⟩ := Option.map_eq_some_iff.mp hP
  have hQ : Q ((bs[i]?).getD false) s := hQ
  rw [hb] at hQ
  exact wpAny_pure hQ
 ·refine ⟨.bl (bs.all id), H, I.kept (fun b o e => hk b o ?_ (Heap.get?_push_of_some _ e)) ht, ?_, q⟩
  ·intro z
   have : b = s.heap.objs.size := by simpa using z
   exact absurd (Heap.lt_size e) (by rw [this]; exact Nat.lt_irrefl _)
  ·show Value.bool _ = Value.bool _
   rw [<- xs4 bs]
   congr 2
   simp
section
variable {K : Fg} {σ : St} {H : Hp} {Q : VK}
theorem xy6 {p : Addr} {bs : List Bool} (h : SqL K H p (bs.map V.bl)) (q : Q (.bl (bs.all id)) H) : xd3 K [.ref p] H Q := ⟨p, bs, rfl, h, q⟩
theorem xy7 {g : TG} {tt : TT} {te : TE} {σ' : St} {z : Str} (Pv : Nat -> List V -> Hp -> Prop) (h0 : Pv 0 [] H) (hlen : ∀ i ys H, i <= z.cps.size -> Pv i ys H -> ys.length <= sizeLine)
 (hs : ∀ (i c : Nat) ys H, z.cps.toList[i]? = some c -> Pv i ys H -> g (.str ⟨#[c]⟩) σ' H fun σ2 H2 => tt σ2 H2 fun b H3 => if b = true then te σ2 H3 fun y H4 => PAt Pv (i + 1) (ys ++ [y]) H4 else PAt Pv (i + 1) ys H3)
 (hd : ∀ ys H, Pv z.cps.size ys H -> ∀ p, H p = none -> Q (.ref p) (upd H p (.lst ys))) :
 ∃ z', V.str z = .str z' /\ qo5 g tt te σ' Q (Itx z'.cps.size (xd2 z')) H := by
 refine ⟨z, rfl, fun i m ys H => m = z.cps.size - i /\ i <= z.cps.size /\ Pv i ys H, ⟨z.cps.size, by simp, Nat.zero_le _, h0⟩, ?_⟩
 rintro i m ys H ⟨rfl, hi, p⟩
 refine ⟨hlen i ys H hi p, ?_⟩
 by_cases hlt : i < z.cps.size
 ·refine .inr ⟨hlt, Pv (i + 1), fun ys' H' p' => ⟨z.cps.size - (i + 1), by omega, rfl, hlt, p'⟩, fun x H' y => ?_⟩
  obtain ⟨rfl, c, ec, rfl⟩ := y
  exact hs i c ys _ ec p
 ·have e : i = z.cps.size := by omega
  subst e
  exact .inl ⟨Nat.le_refl _, hd ys H p⟩
end
end
end L2
namespace L2
open PySem PySem.Spec PyProof.Rows PySem.SeqAt
section
variable {prog : Program} {w : World} {A : Around} {E : Value -> Shared -> Prop} {s : Shared}
theorem qn9 {t sl : Addr} {items : Array Value} {vl vu : Value} {lo hi : Option Int} {Q : Value -> Shared -> Prop} (ht : IsTup s.heap t items) (hs : s.heap.IsSliceOf sl vl vu .none) (pl : IsPart vl lo) (pu : IsPart vu hi)
 (hw : HT.sIx items.size 0 lo = 0 /\ HT.sIx items.size items.size hi = items.size) (h : Q (.ref t) s) : wpAny (model prog w) A (getItem (.ref t) (.ref sl)) Q E s := by
 obtain ⟨os, hos, hcs, hds⟩ := id hs
 have hTs : s.TypeIs (.ref sl) "slice" := ⟨os, hos, hcs⟩
 unfold getItem
 try with_reducible refine wpAny_holding ?_
 first | refine wpAny_bind (wpAny_pure ?_) | skip
 refine wpAny_bind (wpAny_sequenceKey ht.typeIs (by decide) ?_)
 refine wpAny_bind (wpAny_callSpecial?_slot (name := Str.ofString "__getitem__") ht.typeIs PyProof.Rows.slot_tuple_getitem
  (wpAny_call_entry PyProof.Rows.slot_tuple_getitem ht.typeIs entry_tuple_getitem ?_ (args_tuple_getitem _ _)))
 show wpAny _ _ (Builtin.Tuple.tupleItemsOf (.ref t) >>= _) _ _ s
 refine wpAny_bind (tupleItemsOf_ ht ?_)
 refine wpAny_bind (wpAny_typeOf hTs ?_)
 rw [if_pos (by decide)]
 refine wpAny_bind (HT.qf4 hs pl pu ?_)
 have hyes : ((((HT.sIx items.size 0 lo : Nat) : Int) == 0 && (1 : Int) == 1 && (HT.sIx items.size items.size hi - HT.sIx items.size 0 lo) == items.size) = true) := by
  rw [hw.1, hw.2]; simp
 show wpAny _ _ (if (((HT.sIx items.size 0 lo : Nat) : Int) == 0 && (1 : Int) == 1 && (HT.sIx items.size items.size hi - HT.sIx items.size 0 lo) == items.size) = true then _ else _) _ _ s
 rw [if_pos hyes]
 refine wpAny_bind (m := Builtin.Tuple.tupleIsExact (.ref t)) ?_
 unfold Builtin.Tuple.tupleIsExact
 refine wpAny_bind (wpAny_typeOf ht.typeIs (wpAny_pure ?_))
 rw [if_pos (by decide)]
 first
  | exact wpAny_bind (wpAny_rule (wpAny_bind (wpAny_pure ⟨_, rfl, wpAny_pure h⟩)))
  | exact wpAny_bind (wpAny_rule (wpAny_pure ⟨_, rfl, wpAny_pure h⟩))
  | exact wpAny_bind (wpAny_rule (wpAny_pure (wpAny_pure ⟨_, rfl, wpAny_pure h⟩)))
end
section
variable {X : Cx}
def yy1 (K : Fg) : V -> Option Int -> Option Int -> Hp -> VK -> Prop := fun x lo hi H Q => ∃ a xs, x = .ref a /\ SqT K H a xs /\ (HT.sIx xs.length 0 lo = 0 /\ HT.sIx xs.length xs.length hi = xs.length) /\ Q (.ref a) H
theorem yg4 : SlR X (yy1 X.K) := by
 intro pins s σ H x v vl vu lo hi sl Q I rx hs pl pu h
 obtain ⟨a, xs, rfl, hx, hw, q⟩ := h
 cases rx
 obtain ⟨its, r, ht, hz⟩ := I.tuple hx
 have hlen : its.toArray.size = xs.length := by rw [List.size_toArray]; exact r.length.symm
 refine ⟨"tuple", _, PyProof.Rows.slot_tuple_getitem.lookup, ht.typeIs, ?_⟩
 exact qn9 ht hs pl pu (by rw [hlen]; exact hw) ⟨.ref a, H, I, rfl, q⟩
def yg5 (K : Fg) : V -> Option Int -> Option Int -> Hp -> VK -> Prop := fun x lo hi H Q => wg9 K x lo hi H Q \/ yy1 K x lo hi H Q
theorem xm8 : SlR X (yg5 X.K) := qh7.or yg4
end
section
variable {H : Hp} {Q : VK} {K : Fg}
theorem yy2 {a : Addr} {xs : List V} {lo hi : Option Int} (h1 : SqT K H a xs) (h : ∀ p H', B1 H H' -> SqT K H' p (qg9 xs lo hi) -> Q (.ref p) H') : yg5 K (.ref a) lo hi H Q := by
 by_cases hw : HT.sIx xs.length 0 lo = 0 /\ HT.sIx xs.length xs.length hi = xs.length
 ·refine .inr ⟨a, xs, rfl, h1, hw, h a H (fun _ _ e => e) ?_⟩
  unfold qg9
  rw [hw.1, hw.2, List.drop_zero, Nat.sub_zero, List.take_length]; exact h1
 ·exact .inl (.inr (.inl ⟨a, xs, rfl, h1, hw, fun p hp => h p _ (B1.new hp _) (SqT.of A8)⟩))
end
section
variable {prog : Program} {w : World} {A : Around} {E : Value -> Shared -> Prop} {s : Shared}
theorem qt7 {it l : Addr} {i : Nat} {items} {x : Value} {Q : Value -> Shared -> Prop} (hit : s.heap.IsTupleIter it l i) (hl : s.heap.IsTuple l items) (hx : items[i]? = some x)
 (hQ : ∀ h', h'.IsTupleIter it l (i + 1) -> Heap.SameBut it s.heap h' -> Q x { s with heap := h' }) :
 wpAny (model prog w) A (Builtin.SmallTypes.nextOf (.ref it)) Q E s := by
 obtain ⟨o, ho, hc, hd⟩ := id hit
 obtain ⟨ol, hol, _, nl, hdl⟩ := hl
 unfold Builtin.SmallTypes.nextOf
 refine wpAny_bind (wpAny_callSpecial?_slot (name := Str.ofString "__next__") hit.typeIs F.slot_tuple_iterator_next
  (wpAny_call_entry F.slot_tuple_iterator_next hit.typeIs F.entry_tuple_iterator_next ?_ (F.args_tuple_iterator_next_1 _)))
 show wpAny _ _ (field (.ref it) 0 >>= _) _ _ s
 refine wpAny_bind (wpAny_field ho hd (x := .ref l) rfl ?_)
 show wpAny _ _ (if (Value.ref l == Value.none) = true then _ else _) _ _ s
 rw [if_neg (show ¬ ((Value.ref l == Value.none) = true) from Bool.false_ne_true)]
 show wpAny _ _ (field (.ref it) 1 >>= _) _ _ s
 refine wpAny_bind (wpAny_field ho hd (x := .int i 0) rfl ?_)
 show wpAny _ _ (seqItems? (.ref l) >>= _) _ _ s
 refine wpAny_bind (wpAny_seqItems hol hdl ?_)
 simp only [Int.toNat_natCast, hx]
 refine wpAny_bind (wpAny_setField ho hd (by simp) (wpAny_pure ⟨x, rfl, wpAny_pure (hQ _ ?_ (Heap.SameBut.update ..))⟩))
 exact ⟨_, Heap.get?_update_self _ ho (Obj.isFreed_of_fields (Obj.data_mapFields hd _)), (Obj.cls_mapFields ..).trans hc, by
  rw [Obj.data_mapFields hd]; simp [rawInt]⟩
theorem qy5 {it l : Addr} {i : Nat} {items} {Q : Value -> Shared -> Prop} (hh : A.handled = none) (hit : s.heap.IsTupleIter it l i) (hl : s.heap.IsTuple l items) (hx : items[i]? = none)
 (hE : ∀ h' e, Heap.ExtBut it s.heap h' -> (∃ o, h'.get? e = some o /\ o.cls = .type "StopIteration") -> E (.ref e) { s with heap := h' }) :
 wpAny (model prog w) A (Builtin.SmallTypes.nextOf (.ref it)) Q E s := by
 obtain ⟨o, ho, hc, hd⟩ := id hit
 obtain ⟨ol, hol, _, nl, hdl⟩ := hl
 unfold Builtin.SmallTypes.nextOf
 refine wpAny_bind (wpAny_callSpecial?_slot (name := Str.ofString "__next__") hit.typeIs F.slot_tuple_iterator_next
  (wpAny_call_entry F.slot_tuple_iterator_next hit.typeIs F.entry_tuple_iterator_next ?_ (F.args_tuple_iterator_next_1 _)))
 show wpAny _ _ (field (.ref it) 0 >>= _) _ _ s
 refine wpAny_bind (wpAny_field ho hd (x := .ref l) rfl ?_)
 show wpAny _ _ (if (Value.ref l == Value.none) = true then _ else _) _ _ s
 rw [if_neg (show ¬ ((Value.ref l == Value.none) = true) from Bool.false_ne_true)]
 show wpAny _ _ (field (.ref it) 1 >>= _) _ _ s
 refine wpAny_bind (wpAny_field ho hd (x := .int i 0) rfl ?_)
 show wpAny _ _ (seqItems? (.ref l) >>= _) _ _ s
 refine wpAny_bind (wpAny_seqItems hol hdl ?_)
 simp only [Int.toNat_natCast, hx]
 refine wpAny_bind (wpAny_rule (wpAny_bind (wpAny_setField ho hd (by simp) ?_)))
 show wpAny _ _ (newExc (.type "StopIteration") [] >>= _) _ _ _
 refine wpAny_bind ?_
 simp only [newExc, newTuple]
 refine wpAny_bind (wpAny_newObj_type ?_ (by size_fits))
 refine wpAny_bind (m := firstArgMember _ _) (wpAny_of_eq (a := Value.none) (by first | rfl | (simp only [firstArgMember]; rfl)) ?_)
 refine wpAny_newObj_type ?_ (by size_fits)
 simp only [raiseNew]
 refine wpAny_bind (wpAny_handled ?_)
 first | rw [show A.in1.handled = none from hh] | rw [hh]
 refine wpAny_bind (wpAny_pure (wpAny_throw ?_))
 exact hE _ _ (((Heap.SameBut.update ..).extBut.push _).push _) ⟨_, Heap.get?_push_size _ rfl, rfl⟩
end
end L2
namespace L2
open PySem PySem.Spec PyProof.Rows PySem.SeqAt
theorem xm9 : ∀ {js : List Int} {us : List Value}, G4 (js.map V.int) us -> ∃ ps : List (Int × Tok), us = ps.map (fun p => Value.int p.1 p.2) /\ ps.map (·.1) = js
 | [], _, h => by cases h; exact ⟨[], rfl, rfl⟩
 | j :: js, _, h => by
   have h : G4 (V.int j :: js.map V.int) _ := h
   cases h with
   | cons r t =>
     obtain ⟨k, rfl⟩ := r
     obtain ⟨ps, rfl, e⟩ := xm9 t
     exact ⟨(j, k) :: ps, rfl, by simp [e]⟩
end L2
namespace L2
open PySem PySem.Spec PyProof.Rows PySem.SeqAt
end L2
namespace L2
open PySem PySem.Spec PyProof.Rows PySem.SeqAt
end L2
namespace L2
open PySem PySem.Spec PyProof.Rows
def Dk {α : Type} : Sem α -> Prop
 | .pure _ => True
 | .raise _ => True
 | .unsupported _ => True
 | .finish _ => True
 | .rule _ k => Dk (k ())
 | .at _ k => Dk (k ())
 | .load _ _ k => ∀ o, Dk (k o)
 | .update _ _ f k => (∀ o : Obj, (f o).dict = o.dict) /\ Dk (k ())
 | .loadIfAlive _ k => ∀ o, Dk (k o)
 | .point _ k => Dk (k ())
 | .alloc _ k => ∀ a, Dk (k a)
 | .fresh k => ∀ a, Dk (k a)
 | .ask k => ∀ a, Dk (k a)
 | .handled _ k => ∀ a, Dk (k a)
 | .stack k => ∀ a, Dk (k a)
 | .thread k => ∀ a, Dk (k a)
 | _ => False
def wh0 (e : Addr) (od : Option Addr) (s : Shared) : Prop := ∃ o, s.heap.objs[e]? = some o /\ o.dict = od
theorem wh0.at {e : Addr} {od : Option Addr} {s : Shared} {o : Obj} (h : wh0 e od s) (g : s.heap.get? e = some o) : o.dict = od := by
 obtain ⟨o', e1, e2⟩ := h
 have := (Heap.get?_some_iff.mp g).1
 rw [e1] at this; cases this; exact e2
theorem wh0.of {e : Addr} {od : Option Addr} {s : Shared} {o : Obj} (g : s.heap.get? e = some o) (h : o.dict = od) : wh0 e od s := ⟨o, (Heap.get?_some_iff.mp g).1, h⟩
theorem yy3 {α : Type} {M : Model} {Γ : PySem.Ctx} {e : Addr} {od : Option Addr} {E : Value -> Pos -> Shared -> Prop} {t : Sem α} (d : Dk t) : ∀ {Q : α -> Pos -> Shared -> Prop} {p : Pos} {s : Shared}, wh0 e od s -> Sem.wp M Γ t Q E p s -> Sem.wp M Γ t (fun a p s => Q a p s /\ wh0 e od s) E p s := by
 induction t with
 | pure a => intro Q p s h w; exact ⟨w, h⟩
 | raise v => intro Q p s h w; exact w
 | unsupported v => intro Q p s h w; exact w
 | finish v => intro Q p s h w; exact w
 | rule _ k ih => intro Q p s h w; exact ih () d h w
 | «at» _ k ih => intro Q p s h w; exact ih () d h w
 | load a _ k ih => intro Q p s h w; obtain ⟨o, ho, w⟩ := w; exact ⟨o, ho, ih o (d o) h w⟩
 | update a _ f k ih =>
   intro Q p s h w
   obtain ⟨ha, w⟩ := w
   refine ⟨ha, ih () d.2 ?_ w⟩
   obtain ⟨o, h1, h2⟩ := h
   obtain ⟨⟨objs, l⟩, g, dr, tk, os⟩ := s
   show ∃ o, (objs.modify a f)[e]? = some o /\ o.dict = od
   have h1 : objs[e]? = some o := h1
   rw [Array.getElem?_modify]
   by_cases z : a = e
   ·rw [if_pos z, h1]; exact ⟨_, rfl, (d.1 o).trans h2⟩
   ·rw [if_neg z]; exact ⟨o, h1, h2⟩
 | loadIfAlive a k ih => intro Q p s h w; exact ih _ (d _) h w
 | point _ k ih => intro Q p s h w; exact ih () d h w
 | alloc ob k ih =>
   intro Q p s h w
   refine ih _ (d _) ?_ w
   obtain ⟨o, h1, h2⟩ := h
   obtain ⟨⟨objs, l⟩, g, dr, tk, os⟩ := s
   show ∃ o, (objs.push ob)[e]? = some o /\ o.dict = od
   have h1 : objs[e]? = some o := h1
   have hlt : e < objs.size := (Array.getElem?_eq_some_iff.mp h1).1
   refine ⟨o, ?_, h2⟩
   rw [Array.getElem?_push, if_neg (Nat.ne_of_lt hlt)]; exact h1
 | fresh k ih => intro Q p s h w; exact ih _ (d _) h w
 | ask k ih => intro Q p s h w; exact ih _ (d _) h w
 | handled _ k ih => intro Q p s h w; exact ih _ (d _) h w
 | stack k ih => intro Q p s h w; exact ih _ (d _) h w
 | thread k ih => intro Q p s h w; exact ih _ (d _) h w
 | register | choose | os | call | newGen | genState | resume | yield | fork | await => exact False.elim d
theorem wh1 {α : Type} {M : Model} {A : Around} {e : Addr} {od : Option Addr} {E : Value -> Shared -> Prop} {t : Sem α} {Q : α -> Shared -> Prop} {s : Shared} (d : Dk t) (h : wh0 e od s) (w : wpAny M A t Q E s) : wpAny M A t (fun a s => Q a s /\ wh0 e od s) E s :=
 fun Γ p hΓ => yy3 d h (w Γ p hΓ)
theorem M4 {α β : Type} {t : Sem α} {k : α -> Sem β} (h : Dk t) (hk : ∀ a, Dk (k a)) : Dk (t >>= k) := by
 show Dk (t.bind k)
 induction t with
 | pure a => exact hk a
 | raise v => exact True.intro
 | unsupported v => exact True.intro
 | finish v => exact True.intro
 | rule _ k ih => exact ih () h
 | «at» _ k ih => exact ih () h
 | load a _ k ih => exact fun o => ih o (h o)
 | update a _ f k ih => exact ⟨h.1, ih () h.2⟩
 | loadIfAlive a k ih => exact fun o => ih o (h o)
 | point _ k ih => exact ih () h
 | alloc ob k ih => exact fun o => ih o (h o)
 | fresh k ih => exact fun o => ih o (h o)
 | ask k ih => exact fun o => ih o (h o)
 | handled _ k ih => exact fun o => ih o (h o)
 | stack k ih => exact fun o => ih o (h o)
 | thread k ih => exact fun o => ih o (h o)
 | register | choose | os | call | newGen | genState | resume | yield | fork | await => exact False.elim h
theorem N7 {α : Type} {a : α} : Dk (pure a : Sem α) := True.intro
theorem qe8 {α : Type} {w : String} : Dk (unsupported w : Sem α) := True.intro
theorem wx1 {a : Addr} : Dk (load a) := fun _ => True.intro
theorem wh2 : Dk stack := fun _ => True.intro
theorem xd4 (v : Value) : Dk (fieldsOf v) := by
 unfold fieldsOf
 split
 ·refine M4 wx1 fun o => ?_
  split
  ·exact N7
  ·exact qe8
 ·exact qe8
theorem qt8 (v : Value) (i : Nat) : Dk (field v i) := by
 unfold field
 refine M4 (xd4 v) fun o => ?_
 split
 ·exact N7
 ·exact qe8
theorem wh3 (f : Array Value -> Array Value) (o : Obj) : (Obj.mapFields f o).dict = o.dict := by
 unfold Obj.mapFields
 split <;> rfl
theorem ql2 (v : Value) (i : Nat) (x : Value) : Dk (setField v i x) := by
 unfold setField
 split
 ·unfold updateField
  refine M4 wx1 fun o => ?_
  split
  ·split
   ·exact ⟨fun o => wh3 _ o, True.intro⟩
   ·exact qe8
  ·exact qe8
 ·exact qe8
theorem qh8 (e : Value) (f : Option Addr) : Dk (setFlight e f) := by
 unfold setFlight
 refine M4 (qt8 _ _) fun tb => ?_
 split
 ·exact ql2 _ _ _
 ·exact N7
theorem xs5 (env : Env) (outer : List Env) : Dk (behindIsImport env outer) := by
 unfold behindIsImport
 split
 ·exact N7
 ·split
  ·exact N7
  ·exact M4 (qt8 _ _) fun _ => N7
theorem xy8 : Dk underTheClaimsCaller := by
 unfold underTheClaimsCaller
 exact M4 wh2 fun _ => N7
theorem yg6 (env : Env) (i : Bool) : ∀ outer : List Env, Dk (keptBack env i outer)
 | [] => by
   show Dk (if (env.scope.isGenerator || env.scope.isCoroutine) = true then pure Value.none else do return if <- underTheClaimsCaller then .notImplemented else .none)
   split
   ·exact N7
   ·exact M4 xy8 fun b => N7
 | c :: l => N7
theorem xd5 : ∀ l : List Env, Dk (readyFrames l)
 | [] => N7
 | env :: outer => by
   unfold readyFrames
   split
   ·refine M4 wx1 fun o => ?_
    split
    ·exact N7
    ·exact M4 (xs5 _ _) fun b => M4 (yg6 _ _ _) fun v => M4 ⟨fun o => rfl, True.intro⟩ fun _ => xd5 outer
   ·exact qe8
theorem wh4 (l : List Env) : Dk (frameObject l) := by
 cases l with
 | nil => exact N7
 | cons env outer => unfold frameObject; exact M4 (xd5 _) fun _ => N7
theorem xi4 (env : Env) : Dk (PySem.frameOf env) := by
 unfold PySem.frameOf frameEnvs
 refine M4 (M4 wh2 fun _ => N7) fun l => M4 (wh4 _) fun o => ?_
 split
 ·exact N7
 ·exact qe8
theorem xy9 (f : Addr) (b : Bool) : Dk (entryPlaceOf f b) := by
 unfold entryPlaceOf
 refine M4 wh2 fun l => ?_
 split <;> exact N7
theorem xd6 (a b c d e : Value) (l : List Value) : Dk (EntryCells.newEntry a b c d e l) := by
 unfold EntryCells.newEntry newFields
 have last : ∀ dt : Data, Dk (newObjAsIs (.type "traceback") dt) := fun dt => by unfold newObjAsIs; exact fun a => True.intro
 have two : ∀ vs : List Value, Dk (newObj (.type "traceback") (.fields vs.toArray)) := fun vs => by
  show Dk (if vs.toArray.size > sizeLine + 2 then (unsupported "record:memory" >>= fun _ => newObjAsIs (.type "traceback") (.fields vs.toArray)) else newObjAsIs (.type "traceback") (.fields vs.toArray))
  split
  ·exact M4 qe8 fun _ => last _
  ·exact last _
 exact two _
theorem xn0 (e : Value) (env : Env) : Dk (noteFrame e env) := by
 unfold noteFrame
 split
 ·refine M4 (qt8 _ _) fun head => ?_
  have last : ∀ f, Dk (do setField e 1 (<- EntryCells.newEntry head (<- PySem.frameOf env) .none (rawInt f) .none (<- entryPlaceOf f (head != .none)))) := fun f =>
   M4 (xi4 _) fun a => M4 (xy9 _ _) fun b => M4 (xd6 _ _ _ _ _ _) fun c => ql2 _ _ _
  split
  ·refine M4 (qt8 _ _) fun x => ?_
   split
   ·exact N7
   ·exact M4 (ql2 _ _ _) fun _ => last _
  ·exact last _
 ·exact qe8
theorem wh5 (env : Env) (e : Value) : Dk (leaving env e) := M4 (xn0 _ _) fun _ => qh8 _ _
end L2
namespace L2
open PySem PySem.Spec PyProof.Rows
section
variable {P : Program} {w : World} {H H' : Hp} {h h1 h2 : Heap} {a b T : Addr} {o : HO} {l : List Env}
theorem M9.lies (x : M9 P w H h a o) : ∃ u, h.get? a = some u := by
 cases o with
 | lst xs => obtain ⟨_, _, _, _, e⟩ := x; exact ⟨_, e⟩
 | tup xs => obtain ⟨_, _, _, _, e, _⟩ := x; exact ⟨_, e⟩
 | dK kvs => obtain ⟨_, _, _, _, o, _, _, e, _⟩ := x; exact ⟨_, e⟩
 | dT kvs => obtain ⟨_, _, _, _, o, _, _, e, _⟩ := x; exact ⟨_, e⟩
 | set S n => obtain ⟨o, _, _, _, e, _⟩ := x; exact ⟨_, e⟩
 | ins C dx fs => obtain ⟨_, _, _, e, _⟩ := x; exact ⟨_, e⟩
 | own y => obtain ⟨_, e⟩ := x; exact ⟨_, e⟩
 | xd fs => obtain ⟨_, ⟨_, _, _, e, _⟩, _⟩ := x; exact ⟨_, e⟩
 | rng lo hi => obtain ⟨_, _, _, e⟩ := x; exact ⟨_, e⟩
 | frz ob u => obtain ⟨e, _⟩ := x; exact ⟨_, e⟩
 | tbl ps => exact ⟨_, (show h.get? a = some _ from x)⟩
 | met f y => exact ⟨_, (show h.get? a = some _ from x)⟩
 | ext φ => obtain ⟨_, ⟨_, e⟩, _⟩ := x; exact ⟨_, e⟩
theorem HOk.gone (x : HOk P w H h) (e : h.get? a = none) : H a = none := by
 cases q : H a with
 | none => rfl
 | some u =>
   obtain ⟨v, z⟩ := (x a u q).lies
   rw [e] at z; cases z
structure Aw (l : List Env) (a T : Addr) (h h' : Heap) : Prop where
 keep : ∀ b o, h.get? b = some o -> b ≠ a -> b ≠ T -> b ∉ frs l -> h'.get? b = some o
 slot : ∀ b o, h.get? b = some o -> b ∈ frs l -> ∃ sl, h'.get? b = some { o with slots := sl }
theorem Un.away (u : Un (frs l) [] H H' h h1) (na : h.get? a = none) (nT : h.get? T = none) (w : Aw l a T h1 h2) : Un (frs l) [] H H' h h2 := by
 have ne : ∀ {b o c}, h.get? b = some o -> h.get? c = none -> b ≠ c := fun e n z => by rw [z, n] at e; cases e
 refine ⟨fun b o q n hb hx => w.keep b o (u.keep b o q n hb hx) (ne q na) (ne q nT) hb, fun b o q n hb hx => ?_, u.free, fun b o q hx => ?_, u.tups, u.frzs, u.tbls⟩
 ·obtain ⟨sl, e⟩ := u.slot b o q n hb hx
  obtain ⟨sl', e'⟩ := w.slot b _ e hb
  exact ⟨sl', e'⟩
 ·obtain ⟨o', e⟩ := u.there b o q hx
  by_cases hb : b ∈ frs l
  ·obtain ⟨sl, e'⟩ := w.slot b o' e hb
   exact ⟨_, e'⟩
  ·exact ⟨o', w.keep b o' e (ne q na) (ne q nT) hb⟩
theorem HOk.away (x : HOk P w H h1) (nf : ∀ b ∈ frs l, H b = none) (na : H a = none) (nT : H T = none) (y : Aw l a T h1 h2) : HOk P w H h2 := fun b u e => by
 have ne : ∀ {b o c}, H b = some o -> H c = none -> b ≠ c := fun e n z => by rw [z, n] at e; cases e
 refine (x b u e).stay (fun c v hc q => ?_) (fun _ q => q) fun _ _ q => q
 have hs : ∃ o, H c = some o := by
  rcases hc with rfl | hc
  ·exact ⟨_, e⟩
  ·exact ⟨_, hc⟩
 obtain ⟨o, e'⟩ := hs
 exact y.keep c v q (ne e' na) (ne e' nT) fun hb => by rw [nf c hb] at e'; cases e'
theorem yy4 {base B : Heap} : ∀ {l : List Env}, h.FunFrames base l -> (∀ b ∈ frs l, B.get? b = none) -> (∀ b o, h.get? b = some o -> b ∈ frs l -> ∃ sl, h1.get? b = some { o with slots := sl }) -> h1.FunFrames B l := by
 intro l
 induction l with
 | nil => intro _ _ _; trivial
 | cons env r ih =>
   intro hl hB hs
   obtain ⟨hk, ⟨L, o, hf, hn, ho, hd⟩, hr⟩ := hl
   have sub : ∀ b ∈ frs r, b ∈ frs (env :: r) := fun b hb => by unfold frs; rw [List.filterMap_cons, hf]; exact List.mem_cons_of_mem _ hb
   have hL : L ∈ frs (env :: r) := by unfold frs; rw [List.filterMap_cons, hf]; exact List.mem_cons_self
   obtain ⟨sl, e⟩ := hs L o ho hL
   exact ⟨hk, ⟨L, _, hf, hB L hL, e, hd⟩, ih hr (fun b hb => hB b (sub b hb)) fun b o q hb => hs b o q (sub b hb)⟩
structure Trc (h h' : Heap) (H : Hp) (a : Addr) (cls : Value) (od : Option Addr) : Prop where
 new : h.get? a = none
 nH : H a = none
 ex : ∃ oe vs a0 T oT ts, h'.get? a = some oe /\ oe.cls = cls /\ vs[0]? = some a0 /\ oe.data = Data.fields vs /\ vs[1]? = some (Value.ref T) /\ T ≠ a /\ h'.get? T = some oT /\ oT.data = Data.fields ts /\ ts[3]? = some Value.none /\ h.get? T = none /\ H T = none /\ oe.dict = od
def Fly (P : Program) (w : World) : CXT := fun outer H s E e s' =>
 ∃ a cls od H', e = Value.ref a /\ 0 < s'.toks /\ s'.os = s.os /\ AllBare s'.gens /\ Un (frs outer) [] H H' s.heap s'.heap /\ HOk P w H' s'.heap /\ Trc s.heap s'.heap H' a cls od /\ E cls od H'
noncomputable abbrev qh9 (h : Heap) (a T : Addr) (l : List Env) : Heap := PySem.W.hideAll h (a :: T :: frs l)
theorem qp6 (h : Heap) (a T : Addr) (l : List Env) : (qh9 h a T l).StaysIn h := fun b o e => PySem.W.of_hideAll _ e
theorem xi5 : (qh9 h a T l).get? a = none := PySem.W.hideAll_none _ (by simp)
theorem xz0 : (qh9 h a T l).get? T = none := PySem.W.hideAll_none _ (by simp)
theorem wx2 : ∀ b ∈ frs l, (qh9 h a T l).get? b = none := fun b hb => PySem.W.hideAll_none _ (by simp [hb])
theorem xz1 (hs : (qh9 h a T l).StaysIn h2) (hf : ∀ b o, h.get? b = some o -> (∀ vs : Array Value, o.data ≠ Data.fields vs) -> ∃ sl, h2.get? b = some { cls := o.cls, dict := o.dict, data := o.data, slots := sl })
 {base : Heap} (ff : h.FunFrames base l) : Aw l a T h h2 := by
 refine ⟨fun b o e n1 n2 n3 => hs b o (PySem.W.hideAll_get _ e (by simp [n1, n2, n3])), fun b o e hb => ?_⟩
 obtain ⟨_, o', e', d⟩ := ff.mem hb
 rw [e] at e'; cases e'
 exact hf b _ e d
theorem xz2 {cls a0 : Value} {h0 base : Heap} (new : h0.get? a = none) (nH : H a = none) (nT0 : h0.get? T = none) (nT : H T = none) (hu : ∀ b o, h0.get? b = some o -> ∃ o', h.get? b = some o') (hok : HOk P w H h)
 (ff : h2.FunFrames base l) (t : h2.TracedW (qh9 h a T l) a cls a0) {od : Option Addr} (hd : ∀ o, h2.get? a = some o -> o.dict = od) : Trc h0 h2 H a cls od := by
 obtain ⟨oe, vs, T', oT, ts, e1, ⟨e2, e3⟩, e4, e5, e6, e7, e8, e9, e10⟩ := t
 have q : h0.get? T' = none /\ H T' = none := by
  by_cases z : T' = T
  ·rw [z]; exact ⟨nT0, nT⟩
  ·have hb : T' ∉ frs l := fun hb => by
    obtain ⟨_, o, eo, d⟩ := ff.mem hb
    rw [e8] at eo; cases eo
    exact d _ e9
   have hh : h.get? T' = none := by
    cases q : h.get? T' with
    | none => rfl
    | some u =>
      have := PySem.W.hideAll_get (a :: T :: frs l) q (by simp [z, e7, hb])
      rw [e6] at this; cases this
   refine ⟨?_, hok.gone hh⟩
   cases q : h0.get? T' with
   | none => rfl
   | some u =>
     obtain ⟨_, r⟩ := hu _ _ q
     rw [hh] at r; cases r
 exact ⟨new, nH, oe, vs, a0, T', oT, ts, e1, e2, e3, e4, e5, e7, e8, e9, e10, q.1, q.2, hd _ e1⟩
end
section
variable {X : Cx} {pins : List (Addr × Obj)} {σ : St} {H H' : Hp} {s s' : Shared} {a : Addr} {cls : Value} {E : XK}
theorem xz3 (I : Inv X pins σ H s) {h' : Heap} (u : Un (frs X.stack) [] H H' s.heap h') : ∀ b ∈ frs X.stack, H' b = none := fun b hb => by
 obtain ⟨_, o, e, _⟩ := I.stack.mem hb
 exact u.free b o e (I.stkFree b hb) (by simp)
theorem xi6 (I : Inv X pins σ H s) {h' B : Heap} (u : Un (frs X.stack) [] H H' s.heap h') (hB : ∀ b ∈ frs X.stack, B.get? b = none) : h'.FunFrames B X.stack :=
 yy4 I.stack hB fun b o e hb => u.slot b o e (I.stkFree b hb) hb (by simp)
theorem Inv.landed {h2 : Heap} {T : Addr} {g : Array GenState} {d : Drawn} {t : Nat} (I : Inv X pins σ H s) (u : Un (frs X.stack) [] H H' s.heap s'.heap) (hok : HOk X.prog X.w H' s'.heap) (hg : AllBare g) (ht : 0 < t)
 (na : s.heap.get? a = none) (nT : s.heap.get? T = none) (ha : H' a = none) (hT : H' T = none) (w : Aw X.stack a T s'.heap h2) : Inv X pins σ H' { s with heap := h2, gens := g, drawn := d, toks := t } :=
 I.call (ch := []) (u.away na nT w) (hok.away (xz3 I u) ha hT w) hg (fun b z => absurd z (by simp)) ht
theorem xi7 {Q' : Value -> Shared -> Prop} {od : Option Addr} {t : Addr} (hst : X.stack = X.env :: X.outer) (hex : X.ex = []) (hf : X.env.frame = some X.env.locals) (I : Inv X pins σ H s)
 (u : Un (frs X.stack) [] H H' s.heap s'.heap) (hok : HOk X.prog X.w H' s'.heap) (tk : 0 < s'.toks) (os : s'.os = s.os) (bare : AllBare s'.gens) (new : s.heap.get? a = none) (na : H' a = none)
 (e1 : s'.heap.get? a = some { cls := cls, dict := od, data := .fields #[.ref t, .none, .none, .none, .bool false, .none] }) (hE : E cls od H') :
 wpAny (model X.prog X.w) X.A (leaving X.env (.ref a)) (fun _ s'' => Fly X.prog X.w X.outer X.H₀ X.s₀ E (.ref a) s'') Q' s' := by
 have ff : s'.heap.FunFrames (qh9 s'.heap a a X.stack) X.stack := xi6 I u wx2
 refine wpAny_mono (wh1 (wh5 _ _) (wh0.of e1 rfl) (wpAny_leaving_firstW (Q := fun _ s'' => ∃ h2, s'' = { s' with heap := h2 } /\ Heap.LeftW (qh9 s'.heap a a X.stack) (X.env :: X.outer) a cls (.ref t) s'.heap h2) (base := qh9 s'.heap a a X.stack) (outer := X.outer) (L := X.env.locals) (a0 := Value.ref t) (by rw [I.ok.frames, hst]) (by rw [<- hst]; exact ff) hf e1 (qp6 _ _ _ _) xi5 rfl rfl rfl fun h2 L => ⟨h2, rfl, L⟩)) (fun _ s2 h => ?_) fun _ _ h => h
 obtain ⟨⟨h2, rfl, L⟩, hD⟩ := h
 rw [<- hst] at L
 obtain ⟨L1, L2, L3, L4⟩ := L
 have aw : Aw X.stack a a s'.heap h2 := xz1 L1 L4 ff
 have J : Inv X pins σ H' { s with heap := h2, gens := s'.gens, drawn := s'.drawn, toks := s'.toks } := I.landed u hok bare tk new new na na aw
 have hs0 : ∀ b o, X.s₀.heap.get? b = some o -> ∃ o', s.heap.get? b = some o' := fun b o e => I.base.there b o e (by rw [hex]; simp)
 have new0 : X.s₀.heap.get? a = none := by
  cases q : X.s₀.heap.get? a with
  | none => rfl
  | some o => obtain ⟨_, r⟩ := hs0 a o q; rw [new] at r; cases r
 refine ⟨a, cls, od, H', rfl, tk, os.trans I.os, bare, ?_, J.hok, xz2 new0 na new0 na (fun b o e => ?_) hok L2 L3 (fun o g => hD.at g), hE⟩
 ·have := J.base; rw [hex] at this; exact this
 ·obtain ⟨o', r⟩ := hs0 b o e
  exact u.there b o' r (by simp)
theorem xz4 {Q' : Value -> Shared -> Prop} {e : Value} (hst : X.stack = X.env :: X.outer) (hex : X.ex = []) (hf : X.env.frame = some X.env.locals) (I : Inv X pins σ H s) (F : Fly X.prog X.w X.stack H s E e s') :
 wpAny (model X.prog X.w) X.A (leaving X.env e) (fun _ s'' => Fly X.prog X.w X.outer X.H₀ X.s₀ E e s'') Q' s' := by
 obtain ⟨a, cls, od, H', rfl, tk, os, bare, u, hok, tr, hE⟩ := F
 obtain ⟨oe, vs, a0, T, oT, ts, e1, e2, e3, e4, e5, e6, e7, e8, e9, e10, e11, e12⟩ := tr.ex
 have ff : s'.heap.FunFrames (qh9 s'.heap a T X.stack) X.stack := xi6 I u wx2
 refine wpAny_mono (wh1 (wh5 _ _) (wh0.of e1 e12) (wpAny_leaving_nextW (Q := fun _ s'' => ∃ h2, s'' = { s' with heap := h2 } /\ Heap.LeftW (qh9 s'.heap a T X.stack) (X.env :: X.outer) a cls a0 s'.heap h2) (base := qh9 s'.heap a T X.stack) (outer := X.outer) (L := X.env.locals) (cls := cls) (a0 := a0) (by rw [I.ok.frames, hst]) (by rw [<- hst]; exact ff) hf ⟨oe, vs, T, oT, ts, e1, ⟨e2, e3⟩, e4, e5, xz0, e6, e7, e8, e9⟩ (qp6 _ _ _ _) xi5 fun h2 L => ⟨h2, rfl, L⟩)) (fun _ s2 h => ?_) fun _ _ h => h
 obtain ⟨⟨h2, rfl, L⟩, hD⟩ := h
 rw [<- hst] at L
 obtain ⟨L1, L2, L3, L4⟩ := L
 have aw : Aw X.stack a T s'.heap h2 := xz1 L1 L4 ff
 have J : Inv X pins σ H' { s with heap := h2, gens := s'.gens, drawn := s'.drawn, toks := s'.toks } := I.landed u hok bare tk tr.new e10 tr.nH e11 aw
 have hs0 : ∀ b o, X.s₀.heap.get? b = some o -> ∃ o', s.heap.get? b = some o' := fun b o e => I.base.there b o e (by rw [hex]; simp)
 have new0 : ∀ c, s.heap.get? c = none -> X.s₀.heap.get? c = none := fun c n => by
  cases q : X.s₀.heap.get? c with
  | none => rfl
  | some o => obtain ⟨_, r⟩ := hs0 c o q; rw [n] at r; cases r
 refine ⟨a, cls, od, H', rfl, tk, os.trans I.os, bare, ?_, J.hok, xz2 (new0 a tr.new) tr.nH (new0 T e10) e11 (fun b o e => ?_) hok L2 L3 (fun o g => hD.at g), hE⟩
 ·have := J.base; rw [hex] at this; exact this
 ·obtain ⟨o', r⟩ := hs0 b o e
  exact u.there b o' r (by simp)
end
section
variable {P : Program} {w : World} {K : Fg} {mg : Str -> Option Value} {base : Heap} {N : List Str} {qual : Str} {scope : Scope} {f : Addr} {cd : Value} {A : Around} {outer : List Env} {s : Shared} {H : Hp} {E : XK}
def xn1 (X : Cx) (E : XK) : Prop := ∀ (pins : List (Addr × Obj)) (σ : St) (H H' : Hp) (s s' : Shared) (a t : Addr) (cls : Value) (od : Option Addr), Inv X pins σ H s -> Un (frs X.stack) [] H H' s.heap s'.heap -> HOk X.prog X.w H' s'.heap -> 0 < s'.toks -> s'.os = s.os -> AllBare s'.gens -> s.heap.get? a = none -> H' a = none ->
 s'.heap.get? a = some { cls := cls, dict := od, data := .fields #[.ref t, .none, .none, .none, .bool false, .none] } -> E cls od H' -> X.xe (.ref a) s'
theorem wh6 : xn1 (qs2 (Fly P w) P w K mg base N qual scope f cd A outer s H E) E := fun pins σ H1 H2 s1 s2 a t cls od I u hok tk os bare new na e1 hE =>
 xi7 (X := qs2 (Fly P w) P w K mg base N qual scope f cd A outer s H E) rfl rfl rfl I u hok tk os bare new na e1 hE
theorem xs6 : wv7 (Fly P w) (qs2 (Fly P w) P w K mg base N qual scope f cd A outer s H E) E := fun pins σ H1 s1 e s' I F =>
 xz4 (X := qs2 (Fly P w) P w K mg base N qual scope f cd A outer s H E) rfl rfl rfl I F
theorem yr0 : PassesOwn (model P w) (qs2 (Fly P w) P w K mg base N qual scope f cd A outer s H E).A (qs2 (Fly P w) P w K mg base N qual scope f cd A outer s H E).env (qs2 (Fly P w) P w K mg base N qual scope f cd A outer s H E).xe :=
 PassesOwn.leaving
theorem Fun.okX {x : Str} {st : Stmt} {fd : FuncData} {ps : List Str} {k : Nat} {sp : Sp} (F : Fun K x qual st f fd) (S : G1 N ps (B9 st)) (len : ∀ vs H Q E, sp vs H Q E -> vs.length = ps.length)
 (hbody : ∀ (cdv : Value) (A : Around) (outer : List Env) (s : Shared) (H : Hp) (vs : List V) (Q : VK) (E : XK), X8 k (A.deeper (envOfC qual (B9 st) s.heap.objs.size f cdv)) -> sp vs H Q E ->
  ∃ t, PSs (qs2 (Fly P w) P w K mg base N qual (B9 st) f cdv A outer s H E) (qh2 st) t /\ t { nx := fun _ H' => Q .non H', rt := Q } (M2 N vs) H) : O2 P w K mg base (Fly P w) (k + 1) f fd ps sp := by
 obtain ⟨oc, od, kV, doc, pm, an, cdv, ct, osl, rfl, lk, hcd⟩ := F.ex
 exact yk8 lk hcd S len fun A outer s H vs Q E hr hsp => hbody cdv A outer s H vs Q E hr hsp
end
end L2
namespace L2
open PySem PySem.Spec PyProof.Rows
noncomputable abbrev bmV : List Value := [Value.type "ValueError", Value.type "Exception", Value.type "BaseException", Value.type "object"]
noncomputable abbrev Cx.held (X : Cx) (a : Addr) (E : Value -> Shared -> Prop) : Cx := { X with A := X.A.mark (some (.ref a)), calm := false, xe := E }
theorem Cx.Ok.held {X : Cx} (ok : X.Ok) (a : Addr) (E : Value -> Shared -> Prop) : (X.held a E).Ok :=
 ⟨ok.mod, ok.kind, ok.glob, ok.blt, ok.above, ok.inj, ok.has, ok.cab, (fun z => Bool.noConfusion z), ok.frames, ok.stk, ok.exf, ok.bs, ok.bsz, ok.noex, ok.exfs, ok.funs, ok.frf⟩
section
variable {X : Cx} {pins : List (Addr × Obj)} {σ : St} {H : Hp} {s : Shared} {E : Value -> Shared -> Prop} {a : Addr}
theorem Inv.held (I : Inv X pins σ H s) (a : Addr) (E : Value -> Shared -> Prop) : Inv (X.held a E) pins σ H s := ⟨I.ok.held a E, I.os, I.bare, I.base, I.loc, I.cell, I.free, I.freeC, I.pin, I.hok, I.len, I.tk⟩
theorem Inv.unheld (ok : X.Ok) (I : Inv (X.held a E) pins σ H s) : Inv X pins σ H s := ⟨ok, I.os, I.bare, I.base, I.loc, I.cell, I.free, I.freeC, I.pin, I.hok, I.len, I.tk⟩
theorem SP.unheld {D : P4} {f : Flow} {s' : Shared} (ok : X.Ok) (h : SP (X.held a E) pins D f s') : SP X pins D f s' := by
 cases f with
 | next => obtain ⟨σ', H', I, q⟩ := h; exact ⟨σ', H', I.unheld ok, q⟩
 | brk => obtain ⟨σ', H', I, q⟩ := h; exact ⟨σ', H', I.unheld ok, q⟩
 | cont => obtain ⟨σ', H', I, q⟩ := h; exact ⟨σ', H', I.unheld ok, q⟩
 | ret u => obtain ⟨v, σ', H', I, r, q⟩ := h; exact ⟨v, σ', H', I.unheld ok, r, q⟩
end
def PX (X : Cx) (e : Expr) (t : XK -> TE) : Prop :=
 ∀ (pins : List (Addr × Obj)) (s : Shared) (σ : St) (H : Hp) (Q : VK) (E : XK) (xe' : Value -> Shared -> Prop), Inv X pins σ H s -> (∀ H1 s1 e s2, Inv X pins σ H1 s1 -> Fly X.prog X.w X.stack H1 s1 E e s2 -> xe' e s2) -> t E σ H Q ->
  wpAny (model X.prog X.w) X.A (eval e X.env) (EP X pins σ Q) xe' s
section
variable {X : Cx} {k : Nat} {f C D : Addr} {fd : FuncData} {ps : List Str} {sp : Sp} {dvs : List V} {ds : List Value} {x : Str} {p pos cpos : Pos} {e : Expr} {es : List Expr} {t : TA}
theorem yg7 (F : O2 X.prog X.w X.K X.mg X.base (Fly X.prog X.w) k f fd ps sp) (hr : X8 k X.A) (hg : Gl X x) (hm : X.mg x = some (.ref f)) (hk : PySem.W.keepIn X.K (.ref f) = true) (hb : qs1 X.K fd ps ds) (hd : G4 dvs ds)
 (ha : ∀ xe', PA (X.wish xe') (e :: es) t) (hdb : autoParam ((x == ("__debug__" : Str)) = false) zAd) (he : autoParam (starEach (e :: es) X.env = (false, eval e X.env) :: starEach es X.env) zAr) (hpl : autoParam ((backTo pos (starEach es X.env)).any (·.1) = false) zAr) :
 PX X (.Call (.Name x p) (e :: es) [] pos) (fun E => C8 sp dvs E t) := by
 intro pins s σ H Q E xe' I hx h
 refine wpAny_Call_Name_kw (qm7 I hg hm ?_ hdb)
 refine PySem.W.callWith_K (h₀ := X.base) I.ok.mod.kin hk (thn (ha xe' pos pins s σ H _ (I.wish xe') h) fun us s1 ⟨vs, H1, I1, r, q⟩ => ⟨I1.kIn, ?_⟩) he hpl
 have J := I1.unwish
 have r2 : G4 (vs ++ dvs) (us ++ ds) := r.append hd
 have hl : (us ++ ds).length = ps.length := by rw [<- r2.length]; exact F.len _ _ _ _ q
 refine wpAny_call (codeAny_mono (F.run X.A X.stack s1 H1 ⟨us, []⟩ (us ++ ds) (vs ++ dvs) Q E hr J.env0 (hb s1 us J.kIn hl) r2 q) fun r s' hq => ?_)
 cases r with
 | error e => exact hx H1 s1 e s' J hq
 | ok fl =>
   cases fl with
   | ret u => exact J.after hq
   | next => exact False.elim hq
   | brk => exact False.elim hq
   | cont => exact False.elim hq
theorem yy5 {pins : List (Addr × Obj)} {σ : St} {H : Hp} {s s' : Shared} {E : XK} {e : Value} {hs : List ExceptHandler} {Q : Flow -> Shared -> Prop} {E' : Value -> Shared -> Prop} (hst : X.stack = X.env :: X.outer) (hf : X.env.frame = some X.env.locals)
 (I : Inv X pins σ H s) (F : Fly X.prog X.w X.stack H s E e s')
 (k : ∀ a cls od H' s2, e = .ref a -> s.heap.get? a = none -> E cls od H' -> Inv X pins σ H' s2 -> (∃ oe, s2.heap.get? a = some oe /\ oe.cls = cls) ->
  (∀ (A : Around) (E2 : Value -> Shared -> Prop) (Q2 : Unit -> Shared -> Prop), (∀ s3, Inv X pins σ H' s3 -> (∃ oe, s3.heap.get? a = some oe /\ oe.cls = cls /\ oe.dict = od /\ ∃ vs, oe.data = Data.fields vs) -> H' a = none -> Q2 () s3) -> wpAny (model X.prog X.w) A (setFlight (.ref a) none) Q2 E2 s2) ->
  wpAny (model X.prog X.w) X.A (handleBy (.ref a) X.env hs) Q E' s2) :
 wpAny (model X.prog X.w) X.A (noteFrame e X.env) (fun _ s₂ => wpAny (model X.prog X.w) X.A (setFlight e none) (fun _ s₃ => wpAny (model X.prog X.w) X.A (handleBy e X.env hs) Q E' s₃) E' s₂) E' s' := by
 obtain ⟨a, cls, od, H', rfl, tk, os, bare, u, hok, tr, hE⟩ := F
 obtain ⟨oe, vs, a0, T, oT, ts, e1, e2, e3, e4, e5, e6, e7, e8, e9, e10, e11, e12⟩ := tr.ex
 have ff : s'.heap.FunFrames (qh9 s'.heap a T X.stack) X.stack := xi6 I u wx2
 have W : (qh9 s'.heap a T X.stack).FlyingW X.stack a cls a0 s'.heap := ⟨qp6 _ _ _ _, xi5, ff, oe, vs, T, oT, ts, e1, ⟨e2, e3⟩, e4, e5, xz0, e6, e7, e8, e9⟩
 have inv : ∀ {h2 : Heap}, (qh9 s'.heap a T X.stack).FlyingW X.stack a cls a0 h2 -> s'.heap.UpToSlots h2 -> Inv X pins σ H' { s' with heap := h2 } := fun {h2} W2 U2 => by
  have aw : Aw X.stack a T s'.heap h2 := xz1 W2.1 U2 ff
  have J := I.landed (g := s'.gens) (d := s'.drawn) (t := s'.toks) u hok bare tk tr.new e10 tr.nH e11 aw
  obtain ⟨hh, g, d, t, os'⟩ := s'
  obtain rfl : os' = s.os := os
  exact J
 refine wpAny_mono (wh1 (xn0 _ _) (wh0.of e1 e12) (wpAny_looks_onW (Q := fun _ s2 => ∃ h1, s2 = { s' with heap := h1 } /\ Heap.HeldW (qh9 s'.heap a T X.stack) (X.env :: X.outer) a cls a0 X.env.locals h1 /\ s'.heap.UpToSlots h1) (base := qh9 s'.heap a T X.stack) (outer := X.outer) (by rw [I.ok.frames, hst]) hf (by rw [<- hst]; exact W) fun h1 W1 U1 => ⟨h1, rfl, W1, U1⟩)) (fun _ sA h => ?_) fun _ _ h => h
 obtain ⟨⟨h1, rfl, W1, U1⟩, D1⟩ := h
 refine wpAny_mono (wh1 (qh8 _ _) D1 (wpAny_landsW (s := { s' with heap := h1 }) (Q := fun _ s2 => ∃ h2, s2 = { s' with heap := h2 } /\ Heap.FlyingW (qh9 s'.heap a T X.stack) (X.env :: X.outer) a cls a0 h2 /\ h1.UpToSlots h2) W1 fun h2 W2 U2 => ⟨h2, rfl, W2, U2⟩)) (fun _ sB h => ?_) fun _ _ h => h
 obtain ⟨⟨h2, rfl, W2, U2⟩, D2⟩ := h
 rw [<- hst] at W2
 have U12 := U1.trans U2
 refine k a cls od H' _ rfl tr.new hE (inv W2 U12) ?_ fun A E2 Q2 hQ => wpAny_mono (wh1 (qh8 _ _) D2 (lands_againW (s := { s' with heap := h2 }) (Q := fun _ s3 => ∃ h3, s3 = { s' with heap := h3 } /\ Heap.FlyingW (qh9 s'.heap a T X.stack) X.stack a cls a0 h3 /\ h2.UpToSlots h3) W2 fun h3 W3 U3 => ⟨h3, rfl, W3, U3⟩)) (fun _ sC h => ?_) fun _ _ h => h
 ·obtain ⟨oe', vs', T', oT', ts', f1, ⟨f2, f3⟩, _⟩ := W2.2.2.2
  exact ⟨oe', f1, f2⟩
 ·obtain ⟨⟨h3, rfl, W3, U3⟩, D3⟩ := h
  refine hQ _ (inv W3 (U12.trans U3)) ?_ tr.nH
  obtain ⟨oe', vs', T', oT', ts', f1, ⟨f2, f3⟩, f4, _⟩ := W3.2.2.2
  exact ⟨oe', f1, f2, D3.at f1, vs', f4⟩
end
end L2
namespace L2
open PySem PySem.Spec PyProof.Rows
structure wh7 (K : Fg) (C : Addr) : Prop where
 ga : PySem.W.findIn K (.ref C) "__getattribute__" = some (some (.builtin "BaseException.__getattribute__"))
 gn : PySem.W.findIn K (.ref C) "__getattr__" = some none
 cl : PySem.W.findIn K (.ref C) "__class__" = some (some (.builtin "object.__class__"))
 bx : PySem.W.subIn K (.ref C) (.type "BaseException") = some true
 ob : PySem.W.subIn K (.ref C) (.type "object") = some true
section
variable {prog : Program} {w : World} {A : Around} {E : Value -> Shared -> Prop} {h : Heap} {g : Array GenState} {d : Drawn} {t : Nat} {os : OsState} {a C : Addr} {o : Obj} {K : Fg}
theorem xz5 {R : Result -> Shared -> Prop} (X : K.In h) (Z : wh7 K C) (hx : h.get? a = some o) (hc : o.cls = .ref C) (hq : R (.ok (.ret (.ref C))) ⟨h, g, d, t, os⟩) :
 codeAny (model prog w) A (.call (.builtin "getset_descriptor.__get__") ⟨[.builtin "object.__class__", .ref a, .ref C], []⟩) R ⟨h, g, d, t, os⟩ := by
 have hT5 : (⟨h, g, d, t, os⟩ : Shared).TypeIs (.builtin "object.__class__") "getset_descriptor" := F.typeOf_object_class
 have L := PySem.W.looks_subIn (M := model prog w) X Z.ob
 rw [<- F.owner_object_class] at L
 refine codeAny_call_builtin F.slot_gs_get.plain F.entry_gs_get (F.slot_gs_get.check _ _ _ _ _ _ _ _ hT5 (F.args_gs_get _ _ _) ?_)
 repeat (any_goals (first | assumption | (with_reducible refine wpAny_loadPart_at hx ?_; rw [hc]) | with_reducible refine L.at ?_ | wp_step))
 refine ⟨Code.quiet_builtin _ (by decide +kernel), codeAny_builtin F.entry_object_class ?_⟩
 repeat (any_goals (first | assumption | (with_reducible refine wpAny_loadPart_at hx ?_; rw [hc]) | wp_step))
theorem wh8 {M : Model} {nameV : Value} {Q : Unit -> Shared -> Prop} (X : K.In h) (Z : wh7 K C) (hx : h.get? a = some o) (hc : o.cls = .ref C) (hq : Q () ⟨h, g, d, t, os⟩) :
 wpAny M A (checkBuiltinCall "BaseException.__getattribute__" ⟨[.ref a, nameV], []⟩) Q E ⟨h, g, d, t, os⟩ := by
 have hk : builtinKind "BaseException.__getattribute__" = some .slot := by decide +kernel
 have hs : splitId "BaseException.__getattribute__" = some ("BaseException", "__getattribute__") := by decide +kernel
 have L := PySem.W.looks_subIn (M := M) X Z.bx
 have ha := F.args_bexc_ga (.ref a) nameV
 simp only [checkBuiltinCall, hk, hs]
 refine wpAny_bind ?_
 ·unfold isInstance
  repeat (first | (with_reducible refine wpAny_loadPart_at hx ?_; rw [hc]) | with_reducible refine L.at ?_ | wp_step)
  exact hq
theorem xi8 {tk : Tok} {Q : Fin -> Shared -> Prop} (X : K.In h) (Z : wh7 K C) (hx : h.get? a = some o) (hc : o.cls = .ref C) (hq : Q (.done (.ret (.ref C))) ⟨h, g, d, t, os⟩) :
 wpAny (model prog w) A (Builtin.«object.__getattribute__» ⟨[.ref a, .str "__class__" tk], []⟩) Q E ⟨h, g, d, t, os⟩ := by
 have hT5 : (⟨h, g, d, t, os⟩ : Shared).TypeIs (.builtin "object.__class__") "getset_descriptor" := F.typeOf_object_class
 have f5 := F.typeOf_object_class
 have f6 := F.slot_gs_get.lookup
 have f7 := F.slot_gs_set.lookup
 have L := PySem.W.looks_findIn (M := model prog w) X Z.cl
 repeat (any_goals (first | assumption | (with_reducible refine wpAny_loadPart_at hx ?_; rw [hc]) | with_reducible refine L.at ?_ | wp_step))
 refine xz5 X Z hx hc ?_
 repeat (any_goals (first | assumption | wp_step))
theorem xs7 {B : String} {tk : Tok} {R : Result -> Shared -> Prop} (FB : ExcAttrFacts B) (X : K.In h) (Z : wh7 K C) (hx : h.get? a = some o) (hc : o.cls = .ref C) (hq : R (.ok (.ret (.ref C))) ⟨h, g, d, t, os⟩) :
 codeAny (model prog w) A (.call (.builtin "BaseException.__getattribute__") ⟨[.ref a, .str "__class__" tk], []⟩) R ⟨h, g, d, t, os⟩ :=
 codeAny_call_builtin FB.ga.plain F.entry_bexc_ga (wh8 X Z hx hc (xi8 X Z hx hc hq))
theorem yg8 {B : String} {tk : Tok} {Q : Value -> Shared -> Prop} (FB : ExcAttrFacts B) (X : K.In h) (Z : wh7 K C) (hx : h.get? a = some o) (hc : o.cls = .ref C) (hq : Q (.ref C) ⟨h, g, d, t, os⟩) :
 wpAny (model prog w) A (getAttrBy (.ref a) (.str "__class__" tk) false) Q E ⟨h, g, d, t, os⟩ := by
 have f3 := FB.ga.bind (.ref a)
 have hx0 : (false && onTheHeap (Value.builtin "BaseException.__getattribute__")) = false := rfl
 have hx2 : (Value.builtin "BaseException.__getattribute__" == Value.builtin "object.__getattribute__") = false := by decide +kernel
 have hx1 : (onTheHeap (Value.ref C) && Value.builtin "BaseException.__getattribute__" == Value.builtin "object.__getattribute__") = false := by rw [hx2]; rfl
 have L1 := PySem.W.looks_findIn (M := model prog w) X Z.ga
 have L2 := PySem.W.looks_findIn (M := model prog w) X Z.gn
 repeat (any_goals (first | assumption | (with_reducible refine wpAny_loadPart_at hx ?_; rw [hc]) | with_reducible refine L1.at ?_ | with_reducible refine L2.at ?_ | wp_step))
 refine xs7 FB X Z hx hc ?_
 repeat (any_goals (first | assumption | wp_step))
theorem xs8 {B : String} {Q : Option Value -> Shared -> Prop} (FB : ExcAttrFacts B) (X : K.In h) (Z : wh7 K C) (hx : h.get? a = some o) (hc : o.cls = .ref C) (hq : Q (some (.ref C)) ⟨h, g, d, t + 1, os⟩) :
 wpAny (model prog w) A (getAttr? (.ref a) "__class__") Q E ⟨h, g, d, t, os⟩ := by
 unfold getAttr? getAttrBy?
 repeat (any_goals (first | assumption | with_reducible apply yg8 FB X Z hx hc | wp_step))
end
section
variable {X : Cx} {pins : List (Addr × Obj)} {σ : St} {H : Hp} {s : Shared}
theorem we0 {M : Model} {A : Around} {E : Value -> Shared -> Prop} {i : Nat} {n : Str} {pos : Pos} {Q : Unit -> Shared -> Prop} (I : Inv X pins σ H s) (hN : X.N.Nodup) (hi : X.N[i]? = some n) (hk : X.env.scope.names.lookup n = some .local)
 (h : ∀ s', Inv X pins (σ.set i none) H s' -> Q () s') : wpAny M A (do bindName X.env n .none; unbindBehindTheSuite X.env n pos) Q E s := by
 obtain ⟨m, hn, hl⟩ := id I.loc
 have hp : (X.env.scope.kind == .class || (X.env.scope.kind == .module && X.env.locals != X.env.globals)) = false := by rw [I.ok.kind]; rfl
 refine wpAny_nameGoes_keeps hk hn hp fun h' v hn' hs => h _ ?_
 have other : ∀ {b : Addr} {o : Obj}, b ≠ X.env.locals -> s.heap.get? b = some o -> h'.get? b = some o := fun nb e => (hs.2 _ nb).trans e
 have low : ∀ {b : Addr} {o : Obj}, X.s₀.heap.get? b = some o -> b ≠ X.env.locals := fun e => Nat.ne_of_lt (Nat.lt_of_lt_of_le (Heap.lt_size e) I.ok.above)
 have trk : ∀ {b : Addr} {u : HO}, H b = some u -> b ≠ X.env.locals := fun e z => by rw [z, I.free] at e; cases e
 refine ⟨I.ok, I.os, I.bare, ⟨fun b o e z hb hx => other (low e) (I.base.keep b o e z hb hx), fun b o e z hb hx => ?_, I.base.free, fun b o e hx => ?_, I.base.tups, I.base.frzs, I.base.tbls⟩, ⟨_, hn', fun j y w e1 e2 e3 => ?_⟩, fun y c e => ?_, I.free, I.freeC, fun p hp => ?_, fun b u e => ?_, ?_, Nat.succ_pos _⟩
 ·obtain ⟨sl, q⟩ := I.base.slot b o e z hb hx
  exact ⟨sl, other (low e) q⟩
 ·obtain ⟨o', q⟩ := I.base.there b o e hx
  exact ⟨o', other (low e) q⟩
 ·by_cases hj : j = i
  ·subst hj
   have := List.getElem?_set_self (l := σ) (a := (none : Option V)) (i := j) (by rw [I.len]; exact (List.getElem?_eq_some_iff.mp hi).1)
   rw [this] at e2; cases e2
  ·rw [List.getElem?_set_ne (Ne.symm hj)] at e2
   obtain ⟨u, r, q⟩ := hl j y w e1 e2 e3
   refine ⟨u, r, ?_⟩
   rcases q with ⟨k, e⟩ | ⟨k, c, e, z⟩
   ·have : y ≠ n := fun e => hj (we8 hN e1 (e ▸ hi))
    exact .inl ⟨k, by simp [this, e]⟩
   ·exact .inr ⟨k, c, e, z.sameBut hs (I.cne y c e)⟩
 ·obtain ⟨w, z⟩ := I.cell y c e
  exact ⟨w, z.sameBut hs (I.cne y c e)⟩
 ·obtain ⟨e, z, ne, nf, d⟩ := I.pin p hp
  exact ⟨other ne e, z, ne, nf, d⟩
 ·refine (I.hok b u e).stay (fun c w hc q => other ?_ q) (fun _ q => q) fun _ _ q => q
  rcases hc with rfl | hc
  ·exact trk e
  ·exact trk hc
 ·rw [List.length_set]; exact I.len
end
end L2
namespace L2
open PySem PySem.Spec PyProof.Rows
section
variable {X : Cx} {pins : List (Addr × Obj)} {σ : St} {H H' : Hp} {s s2 : Shared} {a C : Addr}
theorem Inv.track {o : HO} (I1 : Inv X pins σ H s) (na : s.heap.get? a = none) (I : Inv X pins σ H' s2) (ha : H' a = none) (hex : X.ex = []) (new : M9 X.prog X.w (upd H' a o) s2.heap a o) : Inv X pins σ (upd H' a o) s2 := by
 have ne : ∀ {b : Addr} {u : Obj}, s.heap.get? b = some u -> b ≠ a := fun e z => by rw [z, na] at e; cases e
 have nH : ∀ {b : Addr} {u : HO}, H' b = some u -> b ≠ a := fun e z => by rw [z, ha] at e; cases e
 have n0 : ∀ {b : Addr} {u : Obj}, X.s₀.heap.get? b = some u -> b ≠ a := fun {b u} e => by
  obtain ⟨u', q⟩ := I1.base.there b u e (by rw [hex]; simp)
  exact ne q
 refine ⟨I.ok, I.os, I.bare, ⟨I.base.keep, I.base.slot, fun b u e z hx => ?_, I.base.there, fun b xs e => ?_, fun b u xs e => ?_, fun b ps e => ?_⟩, I.loc, I.cell, ?_, fun y c e => ?_, fun p hp => ?_, fun b u e => ?_, I.len, I.tk⟩
 ·rw [B8 (n0 e)]; exact I.base.free b u e z hx
 ·have := I.base.tups b xs e; rw [B8 (nH this)]; exact this
 ·have := I.base.frzs b u xs e; rw [B8 (nH this)]; exact this
 ·obtain ⟨m, q⟩ := I.base.tbls b ps e
  exact ⟨m, by rw [B8 (nH q)]; exact q⟩
 ·obtain ⟨m, ⟨u, _, _, q, _⟩, _⟩ := I1.loc
  rw [B8 (ne q)]; exact I.free
 ·obtain ⟨v, u, q, _⟩ := I1.cell y c e
  rw [B8 (ne q)]; exact I.freeC y c e
 ·obtain ⟨e, z, n1, nf, d⟩ := I.pin p hp
  exact ⟨e, by rw [B8 (ne (I1.pin p hp).1)]; exact z, n1, nf, d⟩
 ·by_cases hb : b = a
  ·subst hb; rw [A8] at e; cases e; exact new
  ·rw [B8 hb] at e
   exact (I.hok b u e).stay (fun c v _ q => q) (fun c q => by rw [B8 (nH q)]; exact q) fun c xs q => by rw [B8 (nH q)]; exact q
end
end L2
namespace L2
open PySem PySem.Spec PyProof.Rows
structure qp7 (K : Fg) (D : Addr) : Prop where
 c : PySem.W.isClsIn K D = true
 t : PySem.W.typeIn K (.ref D) = some (.type "type")
section
variable {K : Fg} {C D a : Addr} {b : Bool}
theorem yg9 (hs : PySem.W.subIn K (.ref C) (.ref C) = some true) (hc : qp7 K D) (h : PySem.W.subIn K (.ref C) (.ref D) = some b) : PySem.W.kitOne K (.ref C) (.ref D) = some b := by
 unfold PySem.W.kitOne
 by_cases e : C = D
 ·subst e
  rw [hs] at h; cases h
  rw [if_pos (by simp)]
 ·rw [if_neg (by simpa using e)]
  unfold PySem.W.kitCls
  dsimp only
  have h1 : (PySem.W.clsIn K D).isSome = true := hc.c
  rw [if_pos (by rw [h1, hc.t]; rfl)]
  exact h
theorem yr1 {T : String} (hm : PySem.W.kitMeta T = true) (h : PySem.W.subIn K (.ref C) (.type T) = some b) : PySem.W.kitOne K (.ref C) (.type T) = some b := by
 unfold PySem.W.kitOne
 rw [if_neg (by simp)]
 unfold PySem.W.kitCls
 dsimp only
 rw [if_pos hm]
 exact h
theorem xz6 (Z : wh7 K C) (hc : qp7 K C) : PySem.W.KitX K (.ref a) (.ref C) (fun h => ∃ o, h.get? a = some o /\ o.cls = .ref C) where
 ty := fun M h X ⟨o, e, c⟩ => c ▸ (PySem.W.Looks.ld e).andThen .now
 it := fun M h X _ => by
  have z : (PySem.W.clsIn K C).isSome = true := hc.c
  unfold PySem.W.clsIn at z
  split at z
  next o1 o2 cd o3 ho =>
   intro A' Q' E' s' k q
   unfold isType loadHead
   exact wpAny_bind (wpAny_loadPart (k _ _ (X _ _ ho)) (wpAny_pure q))
  next => cases z
 ne := fun h tp dd its n sl X e => by
  have z : (PySem.W.clsIn K C).isSome = true := hc.c
  unfold PySem.W.clsIn at z
  split at z
  next o1 o2 cd o3 ho =>
   refine Bool.eq_false_iff.mpr fun q => ?_
   obtain rfl : C = tp := Value.ref.inj (beq_iff_eq.mp q)
   have := (X _ _ ho).symm.trans e
   cases this
  next => cases z
 ca := fun {prog w A E Q s} X ⟨o, e, c⟩ q => by
  obtain ⟨h, g, d, t, os⟩ := s
  exact xs8 F.excAttr_ValueError X Z e c q
end
structure yh0 (K : Fg) (C : Addr) : Prop where
 z : wh7 K C
 c : qp7 K C
 s : PySem.W.subIn K (.ref C) (.ref C) = some true
theorem wc9 : bootBuiltins ("ValueError" : Str) = some (.type "ValueError") := PyProof.Rows.Boot.«ValueError»
end L2
namespace L2
open PySem PySem.Spec PyProof.Rows
theorem qp7.obj {K : Fg} {C : Addr} {h : Heap} (c : qp7 K C) (X : K.In h) : ∃ o, h.get? C = some o /\ o.cls = .type "type" := by
 have z : (PySem.W.clsIn K C).isSome = true := c.c
 have t := c.t
 unfold PySem.W.clsIn at z
 split at z
 next o1 o2 cd o3 ho =>
  refine ⟨_, X _ _ ho, ?_⟩
  simpa [PySem.W.typeIn, ho] using t
 next => cases z
section
variable {M : Model} {A : Around} {E : Value -> Shared -> Prop} {env : Env} {C : Addr} {K : Fg}
theorem xs9 {s : Shared} {x : Sem Value} {Q : Flow -> Shared -> Prop} (hb : PySem.W.subIn K (.ref C) (.type "BaseException") = some true) (hc : qp7 K C) (hh : A.handled = none)
 (h : wpAny M A x (fun v s₁ => ∃ e dx t, v = .ref e /\ K.In s₁.heap /\ s₁.heap.get? e = some { cls := .ref C, dict := dx, data := .fields #[t, .none, .none, .none, .bool false, .none] } /\ E (.ref e) s₁) E s) :
 wpAny M A (raiseStmt env (some x) none) Q E s := by
 unfold raiseStmt
 refine wpAny_bind (wpAny_mono h (fun v s₁ h₁ => ?_) fun _ _ x => x)
 obtain ⟨e, dx, t, rfl, X, he, hE⟩ := h₁
 obtain ⟨hp, g, d, tk, os⟩ := s₁
 have L := PySem.W.looks_subIn (M := M) X hb
 obtain ⟨oC, hC, hCc⟩ := hc.obj X
 repeat (first | with_reducible refine wpAny_loadPart_at he ?_ | (with_reducible refine wpAny_loadPart_at hC ?_; rw [hCc]) | with_reducible refine L.at ?_ | wp_step)
 exact wpAny_raiseNew_none hh hE
end
section
variable {prog : Program} {w : World} {A : Around} {E : Value -> Shared -> Prop} {h : Heap} {g : Array GenState} {d : Drawn} {t : Nat} {os : OsState}
variable {nm q : Str} {C N : Addr} {bs bm bmB : List Value} {hdct : Bool} {sn : List Str} {sub : List Value} {ab : Bool} {col : Option Bool} {dd : Option Addr} {k0 k1 k2 k3 k5 : Option Value} {B newId initId : String} {K : Fg}
theorem yy6 (F : ExcBaseFacts B newId initId bmB) (T : OwnTail h bmB bm) (X : K.In h) {rest : List Value} {fI : Addr} {Q : Fin -> Shared -> Prop} (hC : h.get? C = some (excClassObj nm q C N bs bm hdct sn sub ab col dd k0 k1 k2 k3 k5 newId))
 (hi : PySem.W.findIn K (.ref C) "__init__" = some (some (.ref fI))) (hf : PySem.W.typeIn K (.ref fI) = some (.type "function"))
 (hq : ∀ h' e, h.objs.size <= e -> Heap.MadeExcOf h h' e (.ref C) rest -> wpAny (model prog w) A (call (.ref fI) (.ref e :: rest)) (fun r s' => r = .none /\ Q (.done (.ret (.ref e))) s') E ⟨h', g, d, t, os⟩) (hz : rest.length <= sizeLine) :
 wpAny (model prog w) A (Builtin.«type.__call__» ⟨.ref C :: rest, []⟩) Q E ⟨h, g, d, t, os⟩ := by
 repeat (first | with_reducible refine wpAny_loadPart_at hC ?_ | with_reducible refine wpAny_madeBy_exc hC ?_ | wp_step)
 refine codeAny_call_builtin_code (Code.quiet_builtin _ F.quiet) (wpAny_check_new_subT F T hC ?_)
 refine codeAny_exc_new_subT F T hC ?_ hz
 show wpAny _ _ _ _ _ _
 have keep : ∀ b o, h.get? b = some o -> ((h.push { cls := .type "tuple", data := .seq rest.toArray }).push { cls := .ref C, data := .fields #[.ref h.objs.size, .none, .none, .none, .bool false, .none] }).get? b = some o := fun b o e => Heap.get?_push_of_some _ (Heap.get?_push_of_some _ e)
 have here : ((h.push { cls := .type "tuple", data := .seq rest.toArray }).push { cls := .ref C, data := .fields #[.ref h.objs.size, .none, .none, .none, .bool false, .none] }).get? (h.objs.size + 1) = some { cls := .ref C, data := .fields #[.ref h.objs.size, .none, .none, .none, .bool false, .none] } := by heap_get
 have own : (Value.ref C :: bm).contains (.ref C) = true := by simp
 have X1 := X.keeps keep
 have hC1 := keep _ _ hC
 unfold isInstance
 repeat (first | with_reducible refine wpAny_loadPart_at here ?_ | (with_reducible refine wpAny_isSubtype_exc hC1 ?_; rw [own]) | wp_step)
 show wpAny _ _ (typeLookup (.ref C) _) _ _ _
 refine (PySem.W.looks_findIn X1 hi).at ?_
 refine wpAny_holding (wpAny_bind ?_)
 unfold bindSpecial
 refine wpAny_bind ((PySem.W.looks_typeIn X1 hf).at ?_)
 rw [if_pos (by decide)]
 refine wpAny_pure (wpAny_bind (wpAny_mono (hq _ (h.objs.size + 1) (Nat.le_succ _) ⟨keep, Heap.get?_none_of_le (Nat.le_succ _), h.objs.size, here, Heap.get?_none_of_le (Nat.le_refl _), ?_⟩) (fun r s' hr => ?_) fun _ _ x => x))
 ·exact Heap.get?_push_of_some _ (Heap.get?_push_at rfl rfl)
 ·obtain ⟨rfl, hQ⟩ := hr
  wp_walk
  exact hQ
theorem yy7 (F : ExcBaseFacts B newId initId bmB) (T : OwnTail h bmB bm) (X : K.In h) {rest : List Value} {fI : Addr} {Q : Value -> Shared -> Prop} (hC : h.get? C = some (excClassObj nm q C N bs bm hdct sn sub ab col dd k0 k1 k2 k3 k5 newId))
 (hi : PySem.W.findIn K (.ref C) "__init__" = some (some (.ref fI))) (hf : PySem.W.typeIn K (.ref fI) = some (.type "function"))
 (hq : ∀ h' e, h.objs.size <= e -> Heap.MadeExcOf h h' e (.ref C) rest -> wpAny (model prog w) (A.under (.builtin "type.__call__" ⟨.ref C :: rest, []⟩)) (call (.ref fI) (.ref e :: rest)) (fun r s' => r = .none /\ Q (.ref e) s') E ⟨h', g, d, t, os⟩) (hz : rest.length <= sizeLine) :
 wpAny (model prog w) A (call (.ref C) rest) Q E ⟨h, g, d, t, os⟩ := by
 have f1 := tc_lookup
 have f2 := tc_bind (.ref C)
 have hT : (⟨h, g, d, t, os⟩ : Shared).TypeIs (.ref C) "type" := ⟨_, hC, rfl⟩
 refine wpAny_call (codeAny_of_tree ?_)
 show wpAny _ _ (callAny (.ref C) _) _ _ _
 repeat (any_goals (first | assumption | with_reducible refine wpAny_loadPart_at hC ?_ | wp_step))
 refine ⟨rfl, ?_⟩
 refine codeAny_call_builtin_at (Code.quiet_builtin _ (by decide +kernel)) entry_typeCall (wpAny_check_type_call_sub hC (yy6 F T X hC hi hf (fun h' e hle hm => ?_) hz))
 exact hq h' e hle hm
theorem yy8 (F : ExcBaseFacts B newId initId bmB) (T : OwnTail h bmB bm) {e t0 : Addr} {dx : Option Addr} {v : Value} {Q : Value -> Shared -> Prop} (hC : h.get? C = some (excClassObj nm q C N bs bm hdct sn sub ab col dd k0 k1 k2 k3 k5 newId))
 (he : h.get? e = some { cls := .ref C, dict := dx, data := .fields #[.ref t0, .none, .none, .none, .bool false, .none] })
 (hq : ∀ h' a, (∀ b o, b ≠ e -> h.get? b = some o -> h'.get? b = some o) -> h'.get? e = some { cls := .ref C, dict := dx, data := .fields #[.ref a, .none, .none, .none, .bool false, .none] } -> Q .none ⟨h', g, d, t, os⟩) :
 wpAny (model prog w) A (call (.builtin initId) [.ref e, v]) Q E ⟨h, g, d, t, os⟩ := by
 refine wpAny_call (codeAny_call_builtin F.init.plain F.initEntry (wpAny_check_init_subT F T hC he rfl ?_))
 wp_walk
 refine hq _ h.objs.size (fun b o nb hb => ?_) ?_
 ·rw [Heap.get?_update_other _ _ (Ne.symm nb)]
  exact Heap.get?_push_of_some _ hb
 ·rw [Heap.get?_update_self _ (Heap.get?_push_of_some _ he) rfl]
  rfl
end
section
open Builtin Builtin.ObjectAttr
variable {prog : Program} {w : World} {A : Around} {E : Value -> Shared -> Prop} {h : Heap} {g : Array GenState} {d : Drawn} {t : Nat} {os : OsState}
variable {nm q : Str} {C N x : Addr} {bs bm bmB : List Value} {sn : List Str} {sub : List Value} {ab : Bool} {col : Option Bool} {dd : Option Addr} {k0 k1 k2 k3 k5 : Option Value} {newId : String} {K : Fg} {mA : Str -> Option Value} {y : Str} {v : Value}
theorem xd7 {bmB tl : List Value} (self : Value) (what : Str) (T : OwnTail h bmB tl) : refuseLoop self what tl = refuseLoop self what bmB := by
 induction T with
 | base => rfl
 | own _ _ _ _ ih => rw [refuseLoop_ref]; exact ih
theorem xi9 {tk : Tok} {Q : Fin -> Shared -> Prop} {ns : List Str} (SF : StoreFacts "ValueError" bmV "object.__setattr__" "object") (T : OwnTail h bmV bm) (X : K.In h)
 (hC : h.get? C = some (excClassObj nm q C N bs bm true sn sub ab col dd k0 k1 k2 k3 k5 newId)) (hy : PySem.W.findIn K (.ref C) y = some none) (I : h.Inst x C mA)
 (hq : ∀ h' tk', h'.Inst x C (fun z => if z = y then some v else mA z) ->
  (∀ b o, b ≠ x -> (∀ o0 dx, h.get? x = some o0 -> o0.dict = some dx -> b ≠ dx) -> h.get? b = some o -> h'.get? b = some o) ->
  (∀ o0, h.get? x = some o0 -> ∃ o1, h'.get? x = some o1 /\ o1.cls = o0.cls /\ o1.data = o0.data /\ o1.slots = o0.slots /\ (∀ dx, o0.dict = some dx -> o1.dict = some dx) /\ (o0.dict = none -> o1.dict = some h.objs.size)) -> t <= tk' -> Q (.done (.ret .none)) ⟨h', g, d, tk', os⟩)
 (hw : Within mA ns) (hz : ns.length <= 1000) : wpAny (model prog w) A (Builtin.«object.__setattr__» ⟨[.ref x, .str y tk, v], []⟩) Q E ⟨h, g, d, t, os⟩ := by
 obtain ⟨o, ex, ec, enc, ed⟩ := I
 have hp : refuseLoop (.ref x) "__setattr__" bm = pure () := (xd7 _ _ T).trans (SF.passes (.ref x))
 have L := PySem.W.looks_findIn (M := model prog w) X hy
 unfold Builtin.«object.__setattr__»
 repeat (first | rw [refuse_eq] | (rw [refuseLoop_ref, hp]) | (with_reducible refine wpAny_loadPart_at ex ?_; rw [ec]) | with_reducible refine wpAny_mroOf_exc hC ?_ | with_reducible refine L.at ?_ | wp_step)
 rcases ed with ⟨dn, mn⟩ | ⟨dx, de, nx, hns⟩
 ·rw [dn, if_neg (by simp [typeHasDict])]
  split
  ·rename_i z; cases z
  split
  ·rename_i c z; exact absurd z (enc c)
  ·have ex1 : (h.push { cls := .type "dict", data := .dict #[] }).get? x = some o := Heap.get?_push_of_some _ ex
   have nxs : x ≠ h.objs.size := Nat.ne_of_lt (Heap.lt_size ex)
   refine wpAny_bind (wpAny_alloc' (wpAny_bind (wpAny_update' ex1 (wpAny_pure ?_))))
   have e2 : ((h.push { cls := .type "dict", data := .dict #[] }).update x fun o => { cls := o.cls, dict := some h.objs.size, data := o.data, slots := o.slots }).get? h.objs.size = some { cls := .type "dict", data := .dict #[] } := (Heap.get?_update_ne _ _ _ _ nxs.symm).trans (Heap.get?_push_at rfl rfl)
   have e3 : ((h.push { cls := .type "dict", data := .dict #[] }).update x fun o => { cls := o.cls, dict := some h.objs.size, data := o.data, slots := o.slots }).Ns h.objs.size (fun _ => none) := ⟨_, #[], _, e2, rfl, fun e he => absurd he (by simp), fun _ => rfl⟩
   show wpAny _ _ (storeInDict h.objs.size (.str y tk) y v) _ _ _
   unfold storeInDict newKeyGuard
   refine wpAny_bind (wpAny_pure (wpAny_bind (wpAny_nsSet1 (Heap.Ns1.of_empty e3) fun h' en es => ?_)))
   obtain ⟨oD, eD, pD, f1, f2, f3⟩ := en.count (Within.cons y v Within.nil)
   refine wpAny_bind (wpAny_lookBehind f1 (by rw [f2]; exact pastItsLine_dict (Nat.le_trans f3 (by rw [List.length_cons, List.length_nil, sizeLine_eq]; omega))) ?_)
   wp_walk
   have ex' : h'.get? x = some { cls := o.cls, dict := some h.objs.size, data := o.data, slots := o.slots } := by
    refine (es.2 x nxs).trans (Heap.get?_update_self _ ex1 ?_)
    have fr := (Heap.get?_some_iff.mp ex).2
    obtain ⟨oc, od, odt, osl⟩ := o
    cases odt <;> first | rfl | exact fr
   refine hq h' _ ⟨_, ex', ec, enc, .inr ⟨h.objs.size, rfl, nxs.symm, ?_⟩⟩ (fun b ob nb _ eb => ?_) (fun o0 e0 => ?_) (Nat.le_succ _)
   ·obtain ⟨o', l, p, a1, a2, a3, a4, a5⟩ := en
    exact ⟨o', l, p, a1, a2, a3, a4, fun z => by rw [a5 z]; by_cases hz : z = y <;> simp [hz, mn]⟩
   ·exact (es.2 b (Nat.ne_of_lt (Heap.lt_size eb))).trans ((Heap.get?_update_ne _ _ _ _ nb).trans (Heap.get?_push_of_some _ eb))
   ·rw [ex] at e0; cases e0
    exact ⟨_, ex', rfl, rfl, rfl, fun dx e => (by rw [dn] at e; cases e), fun _ => rfl⟩
 ·rw [de]
  refine wpAny_pure ?_
  show wpAny _ _ (storeInDict dx (.str y tk) y v) _ _ _
  unfold storeInDict newKeyGuard
  refine wpAny_bind (wpAny_pure (wpAny_bind (wpAny_nsSet1 hns fun h' en es => ?_)))
  obtain ⟨oD, eD, pD, f1, f2, f3⟩ := en.count (Within.cons y v hw)
  refine wpAny_bind (wpAny_lookBehind f1 (by rw [f2]; exact pastItsLine_dict (Nat.le_trans f3 (by rw [List.length_cons, sizeLine_eq]; omega))) ?_)
  wp_walk
  refine hq h' _ ⟨o, (es.2 x nx.symm).trans ex, ec, enc, .inr ⟨dx, de, nx, en⟩⟩ (fun b ob _ nb eb => (es.2 b (nb o dx ex de)).trans eb) (fun o0 e0 => ⟨o0, (es.2 x nx.symm).trans e0, rfl, rfl, rfl, fun _ e => e, fun z => by rw [ex] at e0; cases e0; rw [de] at z; cases z⟩) (Nat.le_succ _)
theorem xj0 {M : Model} {o : Obj} {nameV : Value} {Q : Unit -> Shared -> Prop} (SF : StoreFacts "ValueError" bmV "object.__setattr__" "object") (T : OwnTail h bmV bm)
 (hC : h.get? C = some (excClassObj nm q C N bs bm true sn sub ab col dd k0 k1 k2 k3 k5 newId)) (ex : h.get? x = some o) (ec : o.cls = .ref C) (hq : Q () ⟨h, g, d, t, os⟩) :
 wpAny M A (checkBuiltinCall "object.__setattr__" ⟨[.ref x, nameV, v], []⟩) Q E ⟨h, g, d, t, os⟩ := by
 have cb : (Value.ref C :: bm).contains (.type "object") = true := by rw [List.contains_cons, T.hasType SF.hasOwner, Bool.or_true]
 have ha := SF.args (.ref x) nameV v
 simp only [checkBuiltinCall, SF.kind, SF.split]
 refine wpAny_bind ?_
 ·unfold isInstance
  repeat (first | (with_reducible refine wpAny_loadPart_at ex ?_; rw [ec]) | (with_reducible refine wpAny_isSubtype_exc hC ?_; rw [cb]) | wp_step)
  exact hq
theorem zb1 {Q : Unit -> Shared -> Prop} {ns : List Str} (SF : StoreFacts "ValueError" bmV "object.__setattr__" "object") (T : OwnTail h bmV bm) (X : K.In h)
 (hC : h.get? C = some (excClassObj nm q C N bs bm true sn sub ab col dd k0 k1 k2 k3 k5 newId)) (hsa : PySem.W.findIn K (.ref C) "__setattr__" = some (some (.builtin "object.__setattr__"))) (hy : PySem.W.findIn K (.ref C) y = some none) (I : h.Inst x C mA)
 (hq : ∀ h' tk', h'.Inst x C (fun z => if z = y then some v else mA z) ->
  (∀ b o, b ≠ x -> (∀ o0 dx, h.get? x = some o0 -> o0.dict = some dx -> b ≠ dx) -> h.get? b = some o -> h'.get? b = some o) ->
  (∀ o0, h.get? x = some o0 -> ∃ o1, h'.get? x = some o1 /\ o1.cls = o0.cls /\ o1.data = o0.data /\ o1.slots = o0.slots /\ (∀ dx, o0.dict = some dx -> o1.dict = some dx) /\ (o0.dict = none -> o1.dict = some h.objs.size)) -> t <= tk' -> Q () ⟨h', g, d, tk', os⟩)
 (hw : Within mA ns) (hz : ns.length <= 1000) : wpAny (model prog w) A (setAttr (.ref x) y v) Q E ⟨h, g, d, t, os⟩ := by
 obtain ⟨o, ex, ec, _⟩ := id I
 have f3 := SF.slot.bind (.ref x)
 have L := PySem.W.looks_findIn (M := model prog w) X hsa
 unfold setAttr callSpecial? specialOf
 repeat (any_goals (first | assumption | (with_reducible refine wpAny_loadPart_at ex ?_; rw [ec]) | with_reducible refine L.at ?_ | wp_step))
 refine codeAny_call_builtin SF.slot.plain SF.entry (xj0 SF T hC ex ec (xi9 SF T X hC hy I (fun h' tk' I' a b c => ?_) hw hz))
 repeat (any_goals (first | assumption | wp_step))
 exact hq h' tk' I' a b (by omega)
end
end L2
namespace L2
open PySem PySem.Spec PyProof.Rows
end L2
namespace L2
open PySem PySem.Spec PyProof.Rows PySem.SeqAt
end L2
namespace L2
open PySem PySem.Spec PyProof.Rows PySem.SeqAt
end L2
namespace L2
open PySem PySem.Spec PyProof.Rows PySem.SeqAt
section
variable {prog : Program} {w : World} {A : Around} {E : Value -> Shared -> Prop} {s : Shared} {κ : Type} [DecidableEq κ] {knd : KeyKind prog w κ}
theorem xt0 {d : Addr} {kvs : List (κ × Value)} {Q : Bool -> Shared -> Prop} (hm : s.heap.DictOf knd d kvs) (h : Q false s) : wpAny (model prog w) A (Builtin.List.listLengthHint (.ref d)) Q E s := by
 unfold Builtin.List.listLengthHint
 refine wpAny_bind (wpAny_specialOf hm.typeIs F.slot_dict_len.lookup ?_)
 generalize hid : ("dict.__len__" : String) = id0
 wp_delta
 rw [show splitId id0 = some ("dict", "__len__") from by subst hid; decide +kernel]
 subst hid
 refine wpAny_bind (wpAny_isInstance (T := "dict") (b := true) hm.typeIs (by rw [isSubtype_type]; kernel_rfl) ?_)
 refine wpAny_ite_split (fun hab => absurd hab (by decide)) (fun _ => ?_)
 refine wpAny_ite_split (fun _ => ?_) (fun hab => absurd (by decide +kernel) hab)
 exact wpAny_bind (wpAny_typeOf (T := "dict") hm.typeIs (wpAny_pure h))
abbrev xz7 (knd : KeyKind prog w κ) (kvs : List (κ × Value)) : Nat -> Value -> Prop := fun i v => ∃ k x, kvs[i]? = some (k, x) /\ knd.is k v = true
theorem xd8 {R : Result -> Shared -> Prop} {d : Addr} {kvs : List (κ × Value)} {ep : Nat} (hh : A.handled = none) (hd : (d == sysModules) = false) (hm : s.heap.DictAt knd d kvs ep) (hlen : kvs.length <= 2 ^ 24)
 (S : Addr) (res : Value) (c₀ : Nat) (hSd : S ≠ d) (hS : s.heap.get? S = some { cls := .type "list", data := .seq #[] c₀ })
 (hR : ∀ h' tk acc' c', (∀ b o, b ≠ S -> s.heap.get? b = some o -> h'.get? b = some o) -> h'.get? S = some { cls := .type "list", dict := none, data := .seq acc' c', slots := #[] } ->
  ItemsOf (xz7 knd kvs) acc' kvs.length -> R (.ok (.ret res)) { s with heap := h', toks := tk }) :
 wpAny (model prog w) A.in1 (Builtin.List.listExtendWith (.ref S) (.ref d) res)
  (fun fin s' => match fin with | .done f => R (.ok f) s' | .again c' => c'.quiet = true /\ codeAny (model prog w) A c' R s') (fun e s' => R (.error e) s') s := by
 have hSlt : S < s.heap.objs.size := Heap.lt_size hS
 have hSI : S ≠ s.heap.objs.size := Nat.ne_of_lt hSlt
 have hdI : d ≠ s.heap.objs.size := by obtain ⟨o, es, ho, _⟩ := hm; exact Nat.ne_of_lt (Heap.lt_size ho)
 have hSf : S ∉ [s.heap.objs.size, d] := by simp [hSI, hSd]
 have W := (Walks.dictKeys (knd := knd) (prog := prog) (w := w) (A := A.in1) hh s.heap.objs.size d hdI kvs ep).toS
 have key : ∀ (h : Heap) (c₁ tk : Nat), h.IsKeyIter s.heap.objs.size d 0 kvs.length ep -> h.DictAt knd d kvs ep -> (∀ b o, b ≠ S -> s.heap.get? b = some o -> h.get? b = some o) ->
  h.get? S = some { cls := .type "list", data := .seq #[] c₁ } -> codeAny (model prog w) A (.builtin "list.extend.loop" ⟨[.ref S, .ref s.heap.objs.size, res], []⟩) R { s with heap := h, toks := tk } := by
  intro h c₁ tk hit hdt hk hS₁
  refine codeAny_extend_loopS W (by rw [sizeLine_eq]; omega) S hSf res kvs.length 0 _ #[] c₁ rfl (Nat.zero_le _) ⟨hit, hdt⟩ hS₁ (ItemsOf.nil _) fun s' acc' c' hm hS' hacc => ?_
  rw [Moved.eq_with hm]
  refine hR s'.heap s'.toks acc' c' (fun b o hb e => hm.heap b o (fun hmem => ?_) (hk b o hb e)) hS' hacc
  rcases List.mem_cons.mp hmem with e' | hmem
  ·exact hb e'
  ·exact absurd (Heap.lt_size e) (by rw [List.mem_singleton.mp hmem]; exact Nat.lt_irrefl _)
 unfold Builtin.List.listExtendWith
 refine wpAny_bind (wpAny_typeOf (T := "dict") hm.dictOf.typeIs ?_)
 have h1 : Builtin.List.listSameRef (.ref S) (.ref d) = false := by simp [Builtin.List.listSameRef, hSd]
 have h2 : (Value.type "dict" == Value.type "list") = false := by decide
 have h3 : (Value.type "dict" == Value.type "tuple") = false := by decide
 simp only [h1, h2, h3, Bool.or_false, Bool.false_eq_true, if_false]
 refine wpAny_bind (wpAny_pyIter_dict hd hm ?_)
 have hdP : (s.heap.push { cls := .type "dict_keyiterator", data := .fields #[.ref d, .int 0 0, .int kvs.length 0, .int ep 0] }).DictAt knd d kvs ep := hm.at' fun o e => Heap.get?_push_of_some _ e
 refine wpAny_bind (wpAny_holding (xt0 hdP.dictOf ?_))
 have hit₁ : Heap.IsKeyIter (s.heap.push { cls := .type "dict_keyiterator", data := .fields #[.ref d, .int 0 0, .int kvs.length 0, .int ep 0] }) s.heap.objs.size d 0 kvs.length ep := ⟨_, Heap.get?_push_size _ rfl, rfl, rfl⟩
 have hS₁ := Heap.get?_push_of_some { cls := .type "dict_keyiterator", data := .fields #[.ref d, .int 0 0, .int kvs.length 0, .int ep 0] } hS
 refine wpAny_ite_split (fun _ => ?_) (fun _ => wpAny_pure ⟨plainId_quiet F.plain_extend_loop _, key _ c₀ _ hit₁ hdP (fun b o _ e => Heap.get?_push_of_some _ e) hS₁⟩)
 refine wpAny_bind (wpAny_rule ?_)
 refine wpAny_bind ?_
 show wpAny _ _ (updateSeq S (·.push .none) >>= fun _ => updateSeq S (·.pop)) _ _ _
 refine wpAny_bind (wpAny_updateSeq hS₁ rfl ?_)
 have hS₂ := Heap.get?_update_self (Obj.mapSeq (·.push Value.none)) hS₁ rfl
 refine wpAny_updateSeq (hz := by seq_fits) hS₂ rfl ?_
 have hS₃ := Heap.get?_update_self (Obj.mapSeq (·.pop)) hS₂ rfl
 refine wpAny_pure ⟨plainId_quiet F.plain_extend_loop _, key _ _ _ ?_ ?_ (fun b o hb e => ?_) hS₃⟩
 ·exact hit₁.at fun o e => (Heap.get?_update_other _ _ hSI).trans ((Heap.get?_update_other _ _ hSI).trans e)
 ·exact hdP.at' fun o e => (Heap.get?_update_other _ _ hSd).trans ((Heap.get?_update_other _ _ hSd).trans e)
 ·exact (Heap.get?_update_other _ _ (Ne.symm hb)).trans ((Heap.get?_update_other _ _ (Ne.symm hb)).trans (Heap.get?_push_of_some _ e))
theorem wh9 {R : Result -> Shared -> Prop} {d : Addr} {kvs : List (κ × Value)} {ep : Nat} (hh : A.handled = none) (hd : (d == sysModules) = false) (hm : s.heap.DictAt knd d kvs ep) (hlen : kvs.length <= 2 ^ 24)
 (S : Addr) (hSd : S ≠ d) (hS : s.heap.get? S = some { cls := .type "list", data := .seq #[] })
 (hR : ∀ h' tk acc' c', (∀ b o, b ≠ S -> s.heap.get? b = some o -> h'.get? b = some o) -> h'.get? S = some { cls := .type "list", dict := none, data := .seq acc' c', slots := #[] } ->
  ItemsOf (xz7 knd kvs) acc' kvs.length -> R (.ok (.ret .none)) { s with heap := h', toks := tk }) :
 wpAny (model prog w) A.in1 (Builtin.«list.__init__» ⟨[.ref S, .ref d], []⟩)
  (fun fin s' => match fin with | .done f => R (.ok f) s' | .again c' => c'.quiet = true /\ codeAny (model prog w) A c' R s') (fun e s' => R (.error e) s') s := by
 show wpAny _ _ (do let old <- Builtin.List.listItems (.ref S); Builtin.List.listUpdate (.ref S) (fun _ => #[]); letGo old.toList.reverse; Builtin.List.listExtendWith (.ref S) (.ref d) .none) _ _ s
 refine wpAny_bind ?_
 unfold Builtin.List.listItems
 refine wpAny_bind (wpAny_seqItems hS rfl (wpAny_pure ?_))
 show wpAny _ _ (updateSeq S (fun _ => #[]) >>= fun _ => letGo (#[] : Array Value).toList.reverse >>= fun _ => Builtin.List.listExtendWith (.ref S) (.ref d) .none) _ _ s
 refine wpAny_bind (wpAny_updateSeq hS rfl ?_)
 have hS₂ := Heap.get?_update_self (Obj.mapSeq (fun _ => (#[] : Array Value))) hS rfl
 have oth : ∀ b o, b ≠ S -> s.heap.get? b = some o -> (s.heap.update S (Obj.mapSeq (fun _ => (#[] : Array Value)))).get? b = some o :=
  fun b o hb e => (Heap.get?_update_other _ _ (Ne.symm hb)).trans e
 refine wpAny_bind (wpAny_letGo ?_)
 refine xd8 hh hd (hm.at' fun o e => oth d o (Ne.symm hSd) e) hlen S .none _ hSd hS₂ fun h' tk acc' c' hk hS' hacc => ?_
 exact hR h' tk acc' c' (fun b o hb e => hk b o hb (oth b o hb e)) hS' hacc
theorem wi0 {Q : Value -> Shared -> Prop} {d : Addr} {kvs : List (κ × Value)} {ep : Nat} (hh : A.handled = none) (hd : (d == sysModules) = false) (hm : s.heap.DictAt knd d kvs ep) (hlen : kvs.length <= 2 ^ 24)
 (hQ : ∀ h' tk acc' c', (∀ b o, s.heap.get? b = some o -> h'.get? b = some o) ->
  h'.get? s.heap.objs.size = some { cls := .type "list", dict := none, data := .seq acc' c', slots := #[] } -> ItemsOf (xz7 knd kvs) acc' kvs.length -> Q (.ref s.heap.objs.size) { s with heap := h', toks := tk }) :
 wpAny (model prog w) A (call (.type "list") [.ref d]) Q E s := by
 refine callType_codes (Q₁ := fun obj s₁ => obj = .ref s.heap.objs.size /\ s₁ = { s with heap := s.heap.push { cls := .type "list", data := .seq #[] } }) F.called_list (F.typeCall_list_1 _) F.entry_list_init
  (code_list_new _ ⟨rfl, rfl⟩) fun obj s₁ h₁ => ?_
 obtain ⟨rfl, rfl⟩ := h₁
 have hS : (s.heap.push { cls := .type "list", data := .seq #[] }).get? s.heap.objs.size = some { cls := .type "list", data := .seq #[] } := Heap.get?_push_size _ rfl
 have hdI : d ≠ s.heap.objs.size := by obtain ⟨o, es, ho, _⟩ := hm; exact Nat.ne_of_lt (Heap.lt_size ho)
 refine ⟨⟨_, hS, rfl⟩, F.args_list_init_2 _ _, wh9 (A := A.in1) hh hd (hm.at' fun o e => Heap.get?_push_of_some _ e) hlen _ (Ne.symm hdI) hS fun h' tk acc' c' hk hS' hacc => ?_⟩
 exact ⟨rfl, hQ h' tk acc' c' (fun b o e => hk b o (Nat.ne_of_lt (Heap.lt_size e)) (Heap.get?_push_of_some _ e)) hS' hacc⟩
end
theorem wi1 : ∀ (xs : List V) (us : List Value), xs.length = us.length -> (∀ (j : Nat) (u : Value), us[j]? = some u -> ∃ x, xs[j]? = some x /\ G8 x u) -> G4 xs us
 | [], [], _, _ => .nil
 | [], _ :: _, h, _ => by cases h
 | _ :: _, [], h, _ => by cases h
 | x :: xs, u :: us, h, g => by
   obtain ⟨y, e, r⟩ := g 0 u rfl
   cases e
   exact .cons r (wi1 xs us (by simpa using h) fun j v e => by simpa using g (j + 1) v (by simpa using e))
theorem yy9 {P : Program} {w : World} {k : Key} {u : Value} (h : (O1 P w).is k u = true) : G8 (kV k) u := by
 rcases N3 (show we6 k u = true from h) with ⟨i, t, rfl, rfl⟩ | ⟨x, t, rfl, rfl⟩
 ·exact ⟨t, rfl⟩
 ·exact ⟨t, rfl⟩
section
variable {X : Cx}
def xz8 : List V -> Hp -> VK -> Prop := fun xs H Q => ∃ p kvs, xs = [.ref p] /\ Rd H p (.dK kvs) /\ ∀ l, H l = none -> Q (.ref l) (upd H l (.lst (kvs.map fun y => kV y.1)))
theorem wi2 (hc : X.calm = true) : Q9 X (.type "list") xz8 := by
 intro pins s σ H xs us Q I r h
 obtain ⟨p, kvs, rfl, hq, q⟩ := h
 obtain ⟨u, rfl, rx⟩ := qf3 r
 cases rx
 obtain ⟨z, hd, vs, rel, o, es, ep, dd⟩ := xc3 I.hok hq
 have hlen := rel.length
 have hkeys := rel.keys
 have hs : sizeLine = 16777216 := sizeLine_eq
 refine wpAny_with_toks (n := 1) I.tk (wi0 (knd := O1 X.prog X.w) (kvs := vs) (ep := ep) (I.ok.hd hc) hd ⟨o, es, dd⟩ (by omega) fun h' tk acc' c' kp e it => ?_)
 intro htk
 have hv : G4 (kvs.map fun y => kV y.1) acc'.toList := by
  refine wi1 _ _ (by simp [it.1, hlen]) fun j v hv => ?_
  obtain ⟨k, x, hx, hk⟩ := it.2 j v (by simpa using hv)
  refine ⟨kV k, ?_, yy9 hk⟩
  have : (kvs.map (·.1))[j]? = some k := by rw [hkeys, List.getElem?_map, hx]; rfl
  rw [List.getElem?_map] at this ⊢
  cases e2 : kvs[j]? with
  | none => rw [e2] at this; cases this
  | some y => rw [e2] at this; cases this; rfl
 exact ⟨.ref s.heap.objs.size, _, I.laid (t' := tk) kp (Nat.le_refl _) (show M9 X.prog X.w _ h' _ (.lst (kvs.map fun y => kV y.1)) from ⟨by rw [List.length_map]; exact z, acc'.toList, c', hv, by simpa using e⟩), rfl, q _ (I.hok.fresh (Nat.le_refl _))⟩
end
end L2
namespace L2
open PySem PySem.Spec PyProof.Rows PySem.SeqAt
end L2
namespace L2
open PySem PySem.Spec PyProof.Rows
structure X5 (h : Heap) (z TI TO i1 i2 l1 l2 : Addr) (f0 a b : Value) (k1 k2 : Nat) (xs ys : Array Value) : Prop where
 z : IsZip h z TI TO f0
 TI : IsPair h TI (.ref i1) (.ref i2)
 TO : IsPair h TO a b
 i1 : h.IsTupleIter i1 l1 k1
 i2 : h.IsTupleIter i2 l2 k2
 l1 : h.IsTuple l1 xs
 l2 : h.IsTuple l2 ys
section
variable {prog : Program} {w : World} {A : Around} {E : Value -> Shared -> Prop} {s : Shared} {z TI TO i1 i2 l1 l2 : Addr} {k1 k2 : Nat} {xs ys : Array Value} {x y a b f0 f1 : Value}
theorem X5.setZ {h : Heap} (hA : ZipApart z TI TO i1 i2 l1 l2) (Z : X5 h z TI TO i1 i2 l1 l2 f0 a b k1 k2 xs ys) {j : Nat} {v : Value} (e : #[f0, Value.bool false, Value.bool false, Value.ref TI, Value.ref TO].setIfInBounds j v = #[f1, Value.bool false, Value.bool false, Value.ref TI, Value.ref TO]) : X5 (h.update z (Obj.mapFields fun x => x.setIfInBounds j v)) z TI TO i1 i2 l1 l2 f1 a b k1 k2 xs ys := by
 have sz := (Heap.SameBut.update h z (Obj.mapFields fun x => x.setIfInBounds j v)).2
 refine ⟨?_, (sz _ hA.TIz).trans Z.TI, (sz _ hA.TOz).trans Z.TO, Z.i1.at fun o e => (sz _ hA.i1z).trans e, Z.i2.at fun o e => (sz _ hA.i2z).trans e, Z.l1.at fun o e => (sz _ hA.l1z).trans e, Z.l2.at fun o e => (sz _ hA.l2z).trans e⟩
 have e0 : Obj.mapFields (fun x => x.setIfInBounds j v) { cls := Value.type "zip", data := Data.fields #[f0, Value.bool false, Value.bool false, Value.ref TI, Value.ref TO] } = { cls := Value.type "zip", data := Data.fields #[f1, Value.bool false, Value.bool false, Value.ref TI, Value.ref TO] } := by
  unfold Obj.mapFields
  simp only [e]
 have := Heap.get?_update_self (Obj.mapFields fun x => x.setIfInBounds j v) Z.z (by rw [e0]; rfl)
 rw [e0] at this
 exact this
theorem X5.keep {h h' : Heap} (Z : X5 h z TI TO i1 i2 l1 l2 f0 a b k1 k2 xs ys) (k : ∀ c o, h.get? c = some o -> h'.get? c = some o) : X5 h' z TI TO i1 i2 l1 l2 f0 a b k1 k2 xs ys :=
 ⟨k _ _ Z.z, k _ _ Z.TI, k _ _ Z.TO, Z.i1.at (k _), Z.i2.at (k _), Z.l1.at (k _), Z.l2.at (k _)⟩
theorem X5.fst {h h' : Heap} (hA : ZipApart z TI TO i1 i2 l1 l2) (Z : X5 h z TI TO i1 i2 l1 l2 f0 a b k1 k2 xs ys) (g : h'.IsTupleIter i1 l1 (k1 + 1)) (sb : Heap.SameBut i1 h h') : X5 h' z TI TO i1 i2 l1 l2 f0 a b (k1 + 1) k2 xs ys :=
 ⟨(sb.2 _ (Ne.symm hA.i1z)).trans Z.z, (sb.2 _ hA.TIi1).trans Z.TI, (sb.2 _ hA.TOi1).trans Z.TO, g, Z.i2.at fun o e => (sb.2 _ (Ne.symm hA.i12)).trans e, Z.l1.at fun o e => (sb.2 _ hA.l1i1).trans e, Z.l2.at fun o e => (sb.2 _ hA.l2i1).trans e⟩
theorem X5.snd {h h' : Heap} (hA : ZipApart z TI TO i1 i2 l1 l2) (Z : X5 h z TI TO i1 i2 l1 l2 f0 a b k1 k2 xs ys) (g : h'.IsTupleIter i2 l2 (k2 + 1)) (sb : Heap.SameBut i2 h h') : X5 h' z TI TO i1 i2 l1 l2 f0 a b k1 (k2 + 1) xs ys :=
 ⟨(sb.2 _ (Ne.symm hA.i2z)).trans Z.z, (sb.2 _ hA.TIi2).trans Z.TI, (sb.2 _ hA.TOi2).trans Z.TO, Z.i1.at fun o e => (sb.2 _ hA.i12).trans e, g, Z.l1.at fun o e => (sb.2 _ hA.l1i2).trans e, Z.l2.at fun o e => (sb.2 _ hA.l2i2).trans e⟩
theorem X5.setO {h : Heap} (hA : ZipApart z TI TO i1 i2 l1 l2) (Z : X5 h z TI TO i1 i2 l1 l2 f0 a b k1 k2 xs ys) {a' b' : Value} {j : Nat} {v : Value} (e : #[a, b].setIfInBounds j v = #[a', b']) : X5 (h.update TO (Obj.mapSeq fun x => x.setIfInBounds j v)) z TI TO i1 i2 l1 l2 f0 a' b' k1 k2 xs ys := by
 have sz := (Heap.SameBut.update h TO (Obj.mapSeq fun x => x.setIfInBounds j v)).2
 refine ⟨(sz _ (Ne.symm hA.TOz)).trans Z.z, (sz _ hA.TITO).trans Z.TI, ?_, Z.i1.at fun o e => (sz _ (Ne.symm hA.TOi1)).trans e, Z.i2.at fun o e => (sz _ (Ne.symm hA.TOi2)).trans e, Z.l1.at fun o e => (sz _ hA.l1TO).trans e, Z.l2.at fun o e => (sz _ hA.l2TO).trans e⟩
 have e0 : Obj.mapSeq (fun x => x.setIfInBounds j v) { cls := Value.type "tuple", data := Data.seq #[a, b] } = { cls := Value.type "tuple", data := Data.seq #[a', b'] } := by
  unfold Obj.mapSeq
  simp only [e]
  rfl
 have := Heap.get?_update_self (Obj.mapSeq fun x => x.setIfInBounds j v) Z.TO (by rw [e0]; rfl)
 rw [e0] at this
 exact this
theorem xz9 {f : Value -> Sem Unit} {it l : Addr} {i : Nat} {items} {x : Value} {Q : Option Value -> Shared -> Prop} (hit : s.heap.IsTupleIter it l i) (hl : s.heap.IsTuple l items) (hx : items[i]? = some x)
 (hQ : ∀ h', h'.IsTupleIter it l (i + 1) -> Heap.SameBut it s.heap h' -> Q (some x) { s with heap := h' }) :
 wpAny (model prog w) A ((Builtin.SmallTypes.nextOf (.ref it) >>= fun v => pure (some v)).onRaise f) Q E s :=
 wpAny_onRaise (wpAny_bind (qt7 hit hl hx fun h' a b => wpAny_pure (hQ h' a b)))
theorem wt8 {f : Value -> Sem Unit} {it l : Addr} {i : Nat} {items} {Q : Option Value -> Shared -> Prop} (hh : A.handled = none) (hit : s.heap.IsTupleIter it l i) (hl : s.heap.IsTuple l items) (hx : items[i]? = none)
 (hE : ∀ h' e, Heap.ExtBut it s.heap h' -> (∃ o, h'.get? e = some o /\ o.cls = .type "StopIteration") -> wpAny (model prog w) A (f (.ref e)) (fun _ s' => E (.ref e) s') E { s with heap := h' }) :
 wpAny (model prog w) A ((Builtin.SmallTypes.nextOf (.ref it) >>= fun v => pure (some v)).onRaise f) Q E s :=
 wpAny_onRaise (wpAny_bind (qy5 hh hit hl hx hE))
theorem xt1 {Q : Value -> Shared -> Prop} (hA : ZipApart z TI TO i1 i2 l1 l2) (Z : X5 s.heap z TI TO i1 i2 l1 l2 .none a b k1 k2 xs ys) (e1 : xs[k1]? = some x) (e2 : ys[k2]? = some y)
 (h : ∀ h', X5 h' z TI TO i1 i2 l1 l2 (rawInt s.heap.objs.size) x y (k1 + 1) (k2 + 1) xs ys -> IsPair h' s.heap.objs.size x y -> h'.objs.size = s.heap.objs.size + 1 ->
  (∀ c o, c ≠ z -> c ≠ TO -> c ≠ i1 -> c ≠ i2 -> s.heap.get? c = some o -> h'.get? c = some o) -> Q (.ref s.heap.objs.size) { s with heap := h' }) :
 wpAny (model prog w) A (Builtin.«zip.__next__» { pos := [.ref z] }) (fun fin s' => ∃ v, fin = Fin.done (Flow.ret v) /\ Q v s') E s := by
 obtain ⟨hp, g, d, tk, os⟩ := s
 unfold Builtin.«zip.__next__»
 refine wpAny_bind (wpAny_of_eq (a := (Value.ref z, [])) rfl ?_)
 show wpAny _ _ (field (.ref z) 2 >>= _) _ _ _
 refine wpAny_bind (wpAny_field Z.z rfl (x := .bool false) rfl ?_)
 show wpAny _ _ (field (.ref z) 3 >>= _) _ _ _
 refine wpAny_bind (wpAny_field Z.z rfl (x := .ref TI) rfl ?_)
 show wpAny _ _ (seqItems? (.ref TI) >>= _) _ _ _
 refine wpAny_bind (wpAny_seqItems Z.TI rfl ?_)
 show wpAny _ _ (Builtin.SmallTypes.ownedTupleIsFree (.ref z) >>= _) _ _ _
 refine wpAny_bind ?_
 show wpAny _ _ (field (.ref z) 0 >>= _) _ _ _
 refine wpAny_bind (wpAny_field Z.z rfl (x := .none) rfl ?_)
 refine wpAny_pure ?_
 show wpAny _ _ (rule "zip.__next__.owned-tuple-again" >>= _) _ _ _
 refine wpAny_bind (wpAny_rule ?_)
 show wpAny _ _ (field (.ref z) 4 >>= _) _ _ _
 refine wpAny_bind (wpAny_field Z.z rfl (x := .ref TO) rfl ?_)
 show wpAny _ _ (setField (.ref z) 0 .ellipsis >>= _) _ _ _
 refine wpAny_bind (wpAny_setField Z.z rfl (by simp) ?_)
 replace Z : X5 hp z TI TO i1 i2 l1 l2 .none a b k1 k2 xs ys := Z
 have Z1 := Z.setZ hA (f1 := .ellipsis) (j := 0) (v := .ellipsis) rfl
 have kz := (Heap.SameBut.update hp z (Obj.mapFields fun x => x.setIfInBounds 0 .ellipsis))
 generalize hp.update z (Obj.mapFields fun x => x.setIfInBounds 0 .ellipsis) = H1 at *
 refine wpAny_bind ?_
 show wpAny _ _ (forIn [(Value.ref i1, 0), (Value.ref i2, 1)] _ _) _ _ _
 rw [List.forIn_cons]
 refine wpAny_bind ?_
 refine wpAny_bind (xz9 (s := ⟨H1, _, _, _, _⟩) Z1.i1 Z1.l1 e1 fun H2 g2 sb2 => ?_)
 have Z2 := Z1.fst hA g2 sb2
 refine wpAny_bind (wpAny_seqItems (s := ⟨H2, _, _, _, _⟩) Z2.TO rfl ?_)
 refine wpAny_bind (wpAny_updateSeq (s := ⟨H2, _, _, _, _⟩) Z2.TO rfl ?_ (by rw [sizeLine_eq]; simp) (by rw [sizeLine_eq]; simp))
 have Z3 := Z2.setO hA (j := 0) (v := x) (a' := x) (b' := b) rfl
 have k3 := (Heap.SameBut.update H2 TO (Obj.mapSeq fun x_1 => x_1.setIfInBounds 0 x))
 generalize H2.update TO (Obj.mapSeq fun x_1 => x_1.setIfInBounds 0 x) = H3 at *
 refine wpAny_bind (wpAny_letGo (wpAny_pure ?_))
 show wpAny _ _ (forIn [(Value.ref i2, 1)] _ _) _ _ _
 rw [List.forIn_cons]
 refine wpAny_bind ?_
 refine wpAny_bind (xz9 (s := ⟨H3, _, _, _, _⟩) Z3.i2 Z3.l2 e2 fun H4 g4 sb4 => ?_)
 have Z4 := Z3.snd hA g4 sb4
 refine wpAny_bind (wpAny_seqItems (s := ⟨H4, _, _, _, _⟩) Z4.TO rfl ?_)
 refine wpAny_bind (wpAny_updateSeq (s := ⟨H4, _, _, _, _⟩) Z4.TO rfl ?_ (by rw [sizeLine_eq]; simp) (by rw [sizeLine_eq]; simp))
 have Z5 := Z4.setO hA (j := 1) (v := y) (a' := x) (b' := y) rfl
 have k5 := (Heap.SameBut.update H4 TO (Obj.mapSeq fun x_1 => x_1.setIfInBounds 1 y))
 generalize H4.update TO (Obj.mapSeq fun x_1 => x_1.setIfInBounds 1 y) = H5 at *
 refine wpAny_bind (wpAny_letGo (wpAny_pure ?_))
 show wpAny _ _ (forIn [] _ _) _ _ _
 rw [List.forIn_nil]
 refine wpAny_pure ?_
 refine wpAny_bind (wpAny_seqItems (s := ⟨H5, _, _, _, _⟩) Z5.TO rfl ?_)
 refine wpAny_bind (wpAny_newTuple ?_ (by rw [sizeLine_eq]; simp))
 have hsz : H5.objs.size = hp.objs.size := by rw [k5.1, sb4.1]; show H3.objs.size = _; rw [k3.1, sb2.1]; exact kz.1
 have Z6 := Z5.keep (h' := H5.push { cls := Value.type "tuple", data := Data.seq #[x, y] }) fun c o e => Heap.get?_push_of_some _ e
 have hn : IsPair (H5.push { cls := Value.type "tuple", data := Data.seq #[x, y] }) hp.objs.size x y := by rw [<- hsz]; exact Heap.get?_push_size _ rfl
 have hs6 : (H5.push { cls := Value.type "tuple", data := Data.seq #[x, y] }).objs.size = hp.objs.size + 1 := by rw [Heap.size_push, hsz]
 have k6 : ∀ c o, c ≠ z -> c ≠ TO -> c ≠ i1 -> c ≠ i2 -> hp.get? c = some o -> (H5.push { cls := Value.type "tuple", data := Data.seq #[x, y] }).get? c = some o := fun c o n1 n2 n3 n4 e =>
  Heap.get?_push_of_some _ ((k5.2 c n2).trans ((sb4.2 c n4).trans ((k3.2 c n2).trans ((sb2.2 c n3).trans ((kz.2 c n1).trans e)))))
 show wpAny _ _ (Builtin.SmallTypes.ownedTupleHandOut (.ref z) (.ref H5.objs.size) >>= _) _ _ _
 rw [hsz]
 show wpAny _ _ (_ >>= _) _ _ ⟨H5.push { cls := Value.type "tuple", data := Data.seq #[x, y] }, _, _, _, _⟩
 generalize H5.push { cls := Value.type "tuple", data := Data.seq #[x, y] } = H6 at *
 have nz : hp.objs.size ≠ z := fun e => absurd (Heap.lt_size Z.z) (by rw [e]; exact Nat.lt_irrefl _)
 refine wpAny_bind ?_
 show wpAny _ _ (setField (.ref z) 0 (rawInt hp.objs.size) >>= _) _ _ _
 refine wpAny_bind (wpAny_setField Z6.z rfl (by simp) ?_)
 have Z7 := Z6.setZ hA (f1 := rawInt hp.objs.size) (j := 0) (v := rawInt hp.objs.size) rfl
 have k7 := Heap.SameBut.update H6 z (Obj.mapFields fun x => x.setIfInBounds 0 (rawInt hp.objs.size))
 show wpAny _ _ _ _ _ ⟨H6.update z (Obj.mapFields fun x => x.setIfInBounds 0 (rawInt hp.objs.size)), _, _, _, _⟩
 generalize H6.update z (Obj.mapFields fun x => x.setIfInBounds 0 (rawInt hp.objs.size)) = H7 at *
 show wpAny _ _ (setField (.ref z) 1 (.bool false)) _ _ _
 refine wpAny_setField Z7.z rfl (by simp) ?_
 have Z8 := Z7.setZ hA (f1 := rawInt hp.objs.size) (j := 1) (v := .bool false) rfl
 have k8 := Heap.SameBut.update H7 z (Obj.mapFields fun x => x.setIfInBounds 1 (.bool false))
 refine wpAny_pure ⟨_, rfl, h _ Z8 ((k8.2 _ nz).trans ((k7.2 _ nz).trans hn)) (by rw [k8.1, k7.1]; exact hs6) fun c o n1 n2 n3 n4 e => (k8.2 _ n1).trans ((k7.2 _ n1).trans (k6 c o n1 n2 n3 n4 e))⟩
theorem ya0 {Q : PySem.Fin -> Shared -> Prop} (hh : A.handled = none) (hA : ZipApart z TI TO i1 i2 l1 l2) (Z : X5 s.heap z TI TO i1 i2 l1 l2 .none a b k1 k2 xs ys) (e : xs[k1]? = none \/ ys[k2]? = none)
 (h : ∀ h' e, (∀ c o, c ≠ z -> c ≠ TO -> c ≠ i1 -> c ≠ i2 -> s.heap.get? c = some o -> h'.get? c = some o) -> (∃ o, h'.get? e = some o /\ o.cls = .type "StopIteration") -> E (.ref e) { s with heap := h' }) :
 wpAny (model prog w) A (Builtin.«zip.__next__» { pos := [.ref z] }) Q E s := by
 obtain ⟨hp, g, d, tk, os⟩ := s
 unfold Builtin.«zip.__next__»
 refine wpAny_bind (wpAny_of_eq (a := (Value.ref z, [])) rfl ?_)
 show wpAny _ _ (field (.ref z) 2 >>= _) _ _ _
 refine wpAny_bind (wpAny_field Z.z rfl (x := .bool false) rfl ?_)
 show wpAny _ _ (field (.ref z) 3 >>= _) _ _ _
 refine wpAny_bind (wpAny_field Z.z rfl (x := .ref TI) rfl ?_)
 show wpAny _ _ (seqItems? (.ref TI) >>= _) _ _ _
 refine wpAny_bind (wpAny_seqItems Z.TI rfl ?_)
 show wpAny _ _ (Builtin.SmallTypes.ownedTupleIsFree (.ref z) >>= _) _ _ _
 refine wpAny_bind ?_
 show wpAny _ _ (field (.ref z) 0 >>= _) _ _ _
 refine wpAny_bind (wpAny_field Z.z rfl (x := .none) rfl ?_)
 refine wpAny_pure ?_
 show wpAny _ _ (rule "zip.__next__.owned-tuple-again" >>= _) _ _ _
 refine wpAny_bind (wpAny_rule ?_)
 show wpAny _ _ (field (.ref z) 4 >>= _) _ _ _
 refine wpAny_bind (wpAny_field Z.z rfl (x := .ref TO) rfl ?_)
 show wpAny _ _ (setField (.ref z) 0 .ellipsis >>= _) _ _ _
 refine wpAny_bind (wpAny_setField Z.z rfl (by simp) ?_)
 replace Z : X5 hp z TI TO i1 i2 l1 l2 .none a b k1 k2 xs ys := Z
 have Z1 := Z.setZ hA (f1 := .ellipsis) (j := 0) (v := .ellipsis) rfl
 have kz := (Heap.SameBut.update hp z (Obj.mapFields fun x => x.setIfInBounds 0 .ellipsis))
 generalize hp.update z (Obj.mapFields fun x => x.setIfInBounds 0 .ellipsis) = H1 at *
 refine wpAny_bind ?_
 show wpAny _ _ (forIn [(Value.ref i1, 0), (Value.ref i2, 1)] _ _) _ _ _
 rw [List.forIn_cons]
 refine wpAny_bind ?_
 have hdl : ∀ (h' : Heap) (e : Addr) (Hb : Heap), Hb.get? z = some { cls := Value.type "zip", data := Data.fields #[Value.ellipsis, Value.bool false, Value.bool false, Value.ref TI, Value.ref TO] } -> (∀ c o, c ≠ i1 -> c ≠ i2 -> Hb.get? c = some o -> h'.get? c = some o) -> (∀ c o, c ≠ z -> c ≠ TO -> c ≠ i1 -> c ≠ i2 -> hp.get? c = some o -> Hb.get? c = some o) -> (∃ o, h'.get? e = some o /\ o.cls = .type "StopIteration") ->
  wpAny (model prog w) A (setField (.ref z) 0 .none) (fun _ s' => E (.ref e) s') E ⟨h', g, d, tk, os⟩ := by
  intro h' e Hb hb kb kp ⟨o, ho, hc⟩
  have hz := kb z _ (Ne.symm hA.i1z) (Ne.symm hA.i2z) hb
  have ne : e ≠ z := fun c => by rw [c, hz] at ho; cases ho; exact absurd hc (show ¬ (Value.type "zip" = Value.type "StopIteration") by decide)
  refine wpAny_setField hz rfl (by simp) ?_
  have k8 := Heap.SameBut.update h' z (Obj.mapFields fun x => x.setIfInBounds 0 .none)
  exact h _ e (fun c o n1 n2 n3 n4 q => (k8.2 _ n1).trans (kb c o n3 n4 (kp c o n1 n2 n3 n4 q))) ⟨o, (k8.2 _ ne).trans ho, hc⟩
 cases q : xs[k1]? with
 | none =>
   exact wpAny_bind (wt8 (s := ⟨H1, _, _, _, _⟩) hh Z1.i1 Z1.l1 q fun h' e k hs => hdl h' e H1 Z1.z (fun c o n1 _ y => k c o n1 y) (fun c o n1 _ _ _ y => (kz.2 c n1).trans y) hs)
 | some x =>
   have q2 : ys[k2]? = none := by rcases e with e | e; · rw [q] at e; cases e
                                  ·exact e
   refine wpAny_bind (xz9 (s := ⟨H1, _, _, _, _⟩) Z1.i1 Z1.l1 q fun H2 g2 sb2 => ?_)
   have Z2 := Z1.fst hA g2 sb2
   refine wpAny_bind (wpAny_seqItems (s := ⟨H2, _, _, _, _⟩) Z2.TO rfl ?_)
   refine wpAny_bind (wpAny_updateSeq (s := ⟨H2, _, _, _, _⟩) Z2.TO rfl ?_ (by rw [sizeLine_eq]; simp) (by rw [sizeLine_eq]; simp))
   have Z3 := Z2.setO hA (j := 0) (v := x) (a' := x) (b' := b) rfl
   have k3 := (Heap.SameBut.update H2 TO (Obj.mapSeq fun x_1 => x_1.setIfInBounds 0 x))
   generalize H2.update TO (Obj.mapSeq fun x_1 => x_1.setIfInBounds 0 x) = H3 at *
   refine wpAny_bind (wpAny_letGo (wpAny_pure ?_))
   show wpAny _ _ (forIn [(Value.ref i2, 1)] _ _) _ _ _
   rw [List.forIn_cons]
   refine wpAny_bind ?_
   exact wpAny_bind (wt8 (s := ⟨H3, _, _, _, _⟩) hh Z3.i2 Z3.l2 q2 fun h' e k hs => hdl h' e H3 Z3.z (fun c o _ n2 y => k c o n2 y) (fun c o n1 n2 n3 _ y => (k3.2 c n2).trans ((sb2.2 c n3).trans ((kz.2 c n1).trans y))) hs)
theorem qy6 {Q : Option Value -> Shared -> Prop} (hA : ZipApart z TI TO i1 i2 l1 l2) (Z : X5 s.heap z TI TO i1 i2 l1 l2 .none a b k1 k2 xs ys) (e1 : xs[k1]? = some x) (e2 : ys[k2]? = some y)
 (h : ∀ h', X5 h' z TI TO i1 i2 l1 l2 (rawInt s.heap.objs.size) x y (k1 + 1) (k2 + 1) xs ys -> IsPair h' s.heap.objs.size x y -> h'.objs.size = s.heap.objs.size + 1 ->
  (∀ c o, c ≠ z -> c ≠ TO -> c ≠ i1 -> c ≠ i2 -> s.heap.get? c = some o -> h'.get? c = some o) -> Q (some (.ref s.heap.objs.size)) { s with heap := h' }) :
 wpAny (model prog w) A (pyNext (.ref z)) Q E s := by
 have ty : s.TypeIs (.ref z) "zip" := ⟨_, Z.z, rfl⟩
 unfold pyNext
 refine wpAny_bind (wpAny_attempt (wpAny_callSpecial?_slot (name := Str.ofString "__next__") ty F.slot_zip_next
  (wpAny_call_entry F.slot_zip_next ty F.entry_zip_next ?_ (F.args_zip_next_1 _))))
 exact xt1 hA Z e1 e2 fun h' a b c d => wpAny_pure (h h' a b c d)
theorem wd0 {Q : Option Value -> Shared -> Prop} (hh : A.handled = none) (hA : ZipApart z TI TO i1 i2 l1 l2) (Z : X5 s.heap z TI TO i1 i2 l1 l2 .none a b k1 k2 xs ys) (e : xs[k1]? = none \/ ys[k2]? = none)
 (h : ∀ h', (∀ c o, c ≠ z -> c ≠ TO -> c ≠ i1 -> c ≠ i2 -> s.heap.get? c = some o -> h'.get? c = some o) -> Q none { s with heap := h' }) :
 wpAny (model prog w) A (pyNext (.ref z)) Q E s := by
 have ty : s.TypeIs (.ref z) "zip" := ⟨_, Z.z, rfl⟩
 unfold pyNext
 refine wpAny_bind (wpAny_attempt (wpAny_callSpecial?_slot (name := Str.ofString "__next__") ty F.slot_zip_next
  (wpAny_call_entry F.slot_zip_next ty F.entry_zip_next ?_ (F.args_zip_next_1 _))))
 refine ya0 hh hA Z e fun h' ex kk zq => ?_
 obtain ⟨o, ho, hc⟩ := zq
 refine wpAny_bind (wpAny_isInstance (T := "StopIteration") (b := true) ⟨_, ho, hc⟩ isSubtype_stop ?_)
 exact wpAny_pure (h h' kk)
end
theorem yh1 : isSubtype (.type "zip") (.type "zip") = pure true := by rw [isSubtype_type]; kernel_rfl
theorem wi3 (l1 l2 : Addr) (xs ys : Array Value) (n1 n2 : Nat) (d1 d2 : Option Addr) (s1 s2 : Array (Option Value)) :
 Meets (Builtin.«zip.__new__» ⟨[.type "zip", .ref l1, .ref l2], []⟩) (fun _ R s => s.heap.get? l1 = some { cls := .type "tuple", dict := d1, data := .seq xs n1, slots := s1 } /\ s.heap.get? l2 = some { cls := .type "tuple", dict := d2, data := .seq ys n2, slots := s2 } /\
  R (.ok (.ret (.ref (s.heap.objs.size + 4))))
   { s with heap := ((((s.heap.push { cls := .type "tuple_iterator", data := .fields #[.ref l1, .int 0 0] }).push { cls := .type "tuple_iterator", data := .fields #[.ref l2, .int 0 0] }).push { cls := .type "tuple", data := .seq #[.ref s.heap.objs.size, .ref (s.heap.objs.size + 1)] }).push { cls := .type "tuple", data := .seq #[.none, .none] }).push { cls := .type "zip", data := .fields #[.none, .bool false, .bool false, .ref (s.heap.objs.size + 2), .ref (s.heap.objs.size + 3)] } }) :=
 .of_wp fun prog w A R s h => by
  obtain ⟨hp, g, d, tk, os⟩ := s; obtain ⟨hl1, hl2, h⟩ := h
  have hL1 : Heap.IsTuple (Shared.heap ⟨hp, g, d, tk, os⟩) l1 xs := ⟨_, hl1, rfl, n1, rfl⟩
  have hL2 : Heap.IsTuple (hp.push { cls := .type "tuple_iterator", data := .fields #[.ref l1, .int 0 0] }) l2 ys := ⟨_, Heap.get?_push_of_some _ hl2, rfl, n2, rfl⟩
  have hsub := yh1
  unfold Builtin.«zip.__new__»
  refine wpAny_bind ?_
  show wpAny _ _ (isType (.type "zip") >>= _) _ _ _
  refine wpAny_bind (wpAny_of_eq (a := true) rfl ?_)
  show wpAny _ _ (isSubtype (.type "zip") (.type "zip") >>= _) _ _ _
  rw [hsub]
  refine wpAny_bind (wpAny_pure ?_)
  show wpAny _ _ (pure (Value.type "zip", [Value.ref l1, Value.ref l2])) _ _ _
  refine wpAny_pure ?_
  show wpAny _ _ (Builtin.SmallTypes.iterAll [Value.ref l1, Value.ref l2] >>= _) _ _ _
  refine wpAny_bind ?_
  unfold Builtin.SmallTypes.iterAll
  refine wpAny_bind ?_
  rw [List.forIn_cons]
  refine wpAny_bind ?_
  refine wpAny_bind (wpAny_holding (wpAny_pyIter_tuple hL1 (wpAny_pure ?_)))
  show wpAny _ _ (forIn [Value.ref l2] _ _) _ _ _
  rw [List.forIn_cons]
  refine wpAny_bind ?_
  refine wpAny_bind (wpAny_holding (wpAny_pyIter_tuple (s := ⟨_, _, _, _, _⟩) hL2 (wpAny_pure ?_)))
  show wpAny _ _ (forIn [] _ _) _ _ _
  rw [List.forIn_nil]
  refine wpAny_pure ?_
  refine wpAny_pure ?_
  refine wpAny_bind (wpAny_newTuple ?_ (by rw [sizeLine_eq]; simp))
  refine wpAny_bind (wpAny_newTuple ?_ (by rw [sizeLine_eq]; simp))
  refine wpAny_bind ?_
  unfold Builtin.SmallTypes.newRecord
  refine wpAny_newObj_type (T := "zip") ?_ (by show _ <= _; rw [sizeLine_eq]; simp [Builtin.SmallTypes.ownedTupleFields])
  simp only [Heap.size_push]
  refine wpAny_pure ?_
  exact ⟨_, rfl, h⟩
theorem wd1 {prog : Program} {w : World} {A : Around} {E : Value -> Shared -> Prop} {s : Shared} {l1 l2 : Addr} {xs ys : Array Value} {Q : Value -> Shared -> Prop} (h1 : s.heap.IsTuple l1 xs) (h2 : s.heap.IsTuple l2 ys)
 (h : ∀ h', X5 h' (s.heap.objs.size + 4) (s.heap.objs.size + 2) (s.heap.objs.size + 3) s.heap.objs.size (s.heap.objs.size + 1) l1 l2 .none .none .none 0 0 xs ys -> (∀ b o, s.heap.get? b = some o -> h'.get? b = some o) -> Q (.ref (s.heap.objs.size + 4)) { s with heap := h' }) :
 wpAny (model prog w) A (call (.type "zip") [.ref l1, .ref l2]) Q E s := by
 obtain ⟨hp, g, d, tk, os⟩ := s
 obtain ⟨⟨c1, d1, t1, s1⟩, g1, hc1, n1, hd1⟩ := h1
 obtain ⟨⟨c2, d2, t2, s2⟩, g2, hc2, n2, hd2⟩ := h2
 replace hc1 : c1 = .type "tuple" := hc1
 replace hd1 : t1 = .seq xs n1 := hd1
 replace hc2 : c2 = .type "tuple" := hc2
 replace hd2 : t2 = .seq ys n2 := hd2
 subst hc1 hd1 hc2 hd2
 replace g1 : hp.get? l1 = _ := g1
 replace g2 : hp.get? l2 = _ := g2
 refine callType_new F.called_zip (by decide) (F.typeCall_zip_2 _ _) (F.newCall_zip_2 _ _) (fun obj => F.args_object_init_3 obj _ _) F.entry_zip_new
  (wi3 l1 l2 xs ys n1 n2 d1 d2 s1 s2) ⟨g1, g2, ?_⟩
 have z1 : (hp.push { cls := .type "tuple_iterator", data := .fields #[.ref l1, .int 0 0] }).objs.size = hp.objs.size + 1 := Heap.size_push ..
 have k1 : ∀ b o, hp.get? b = some o -> (hp.push { cls := .type "tuple_iterator", data := .fields #[.ref l1, .int 0 0] }).get? b = some o := fun b o e => Heap.get?_push_of_some _ e
 have e1 : Heap.IsTupleIter (hp.push { cls := .type "tuple_iterator", data := .fields #[.ref l1, .int 0 0] }) hp.objs.size l1 0 := ⟨_, Heap.get?_push_size _ rfl, rfl, rfl⟩
 show _ /\ Q (.ref (hp.objs.size + 4)) ⟨((((hp.push { cls := .type "tuple_iterator", data := .fields #[.ref l1, .int 0 0] }).push { cls := .type "tuple_iterator", data := .fields #[.ref l2, .int 0 0] }).push { cls := .type "tuple", data := .seq #[.ref hp.objs.size, .ref (hp.objs.size + 1)] }).push { cls := .type "tuple", data := .seq #[.none, .none] }).push { cls := .type "zip", data := .fields #[.none, .bool false, .bool false, .ref (hp.objs.size + 2), .ref (hp.objs.size + 3)] }, g, d, tk, os⟩
 generalize hp.push { cls := .type "tuple_iterator", data := .fields #[.ref l1, .int 0 0] } = A1 at *
 have z2 : (A1.push { cls := .type "tuple_iterator", data := .fields #[.ref l2, .int 0 0] }).objs.size = hp.objs.size + 2 := by rw [Heap.size_push, z1]
 have k2 : ∀ b o, A1.get? b = some o -> (A1.push { cls := .type "tuple_iterator", data := .fields #[.ref l2, .int 0 0] }).get? b = some o := fun b o e => Heap.get?_push_of_some _ e
 have e2 : Heap.IsTupleIter (A1.push { cls := .type "tuple_iterator", data := .fields #[.ref l2, .int 0 0] }) (hp.objs.size + 1) l2 0 := ⟨_, by rw [<- z1]; exact Heap.get?_push_size _ rfl, rfl, rfl⟩
 generalize A1.push { cls := .type "tuple_iterator", data := .fields #[.ref l2, .int 0 0] } = A2 at *
 have z3 : (A2.push { cls := .type "tuple", data := .seq #[.ref hp.objs.size, .ref (hp.objs.size + 1)] }).objs.size = hp.objs.size + 3 := by rw [Heap.size_push, z2]
 have k3 : ∀ b o, A2.get? b = some o -> (A2.push { cls := .type "tuple", data := .seq #[.ref hp.objs.size, .ref (hp.objs.size + 1)] }).get? b = some o := fun b o e => Heap.get?_push_of_some _ e
 have e3 : IsPair (A2.push { cls := .type "tuple", data := .seq #[.ref hp.objs.size, .ref (hp.objs.size + 1)] }) (hp.objs.size + 2) (.ref hp.objs.size) (.ref (hp.objs.size + 1)) := by rw [<- z2]; exact Heap.get?_push_size _ rfl
 generalize A2.push { cls := .type "tuple", data := .seq #[.ref hp.objs.size, .ref (hp.objs.size + 1)] } = A3 at *
 have z4 : (A3.push { cls := .type "tuple", data := .seq #[.none, .none] }).objs.size = hp.objs.size + 4 := by rw [Heap.size_push, z3]
 have k4 : ∀ b o, A3.get? b = some o -> (A3.push { cls := .type "tuple", data := .seq #[.none, .none] }).get? b = some o := fun b o e => Heap.get?_push_of_some _ e
 have e4 : IsPair (A3.push { cls := .type "tuple", data := .seq #[.none, .none] }) (hp.objs.size + 3) .none .none := by rw [<- z3]; exact Heap.get?_push_size _ rfl
 generalize A3.push { cls := .type "tuple", data := .seq #[.none, .none] } = A4 at *
 have k5 : ∀ b o, A4.get? b = some o -> (A4.push { cls := .type "zip", data := .fields #[.none, .bool false, .bool false, .ref (hp.objs.size + 2), .ref (hp.objs.size + 3)] }).get? b = some o := fun b o e => Heap.get?_push_of_some _ e
 have e5 : IsZip (A4.push { cls := .type "zip", data := .fields #[.none, .bool false, .bool false, .ref (hp.objs.size + 2), .ref (hp.objs.size + 3)] }) (hp.objs.size + 4) (hp.objs.size + 2) (hp.objs.size + 3) .none := by rw [<- z4]; exact Heap.get?_push_size _ rfl
 generalize A4.push { cls := .type "zip", data := .fields #[.none, .bool false, .bool false, .ref (hp.objs.size + 2), .ref (hp.objs.size + 3)] } = A5 at *
 have k25 : ∀ b o, A2.get? b = some o -> A5.get? b = some o := fun b o e => k5 _ _ (k4 _ _ (k3 _ _ e))
 have k05 : ∀ b o, hp.get? b = some o -> A5.get? b = some o := fun b o e => k25 _ _ (k2 _ _ (k1 _ _ e))
 exact ⟨⟨_, e5, rfl⟩, h A5 ⟨e5, k5 _ _ (k4 _ _ e3), k5 _ _ e4, (e1.at (k2 _)).at (k25 _), e2.at (k25 _), ⟨_, k05 _ _ g1, rfl, n1, rfl⟩, ⟨_, k05 _ _ g2, rfl, n2, rfl⟩⟩ k05⟩
def Itz (K : Fg) (a b : Addr) : It := ⟨fun i H => ∃ xs ys x y, SqT K H a xs /\ SqT K H b ys /\ xs[i]? = some x /\ ys[i]? = some y, fun i H v H' => ∃ p x y, v = .ref p /\ H p = none /\ (∀ xs, SqT K H a xs -> xs[i]? = some x) /\ (∀ ys, SqT K H b ys -> ys[i]? = some y) /\ H' = upd H p (.tup [x, y]), fun i H => ∃ xs ys, SqT K H a xs /\ SqT K H b ys /\ (xs.length <= i \/ ys.length <= i)⟩
theorem xt2 {P : Program} {w : World} {K : Fg} {elts : List Expr} {k : Nat} {pos : Pos} {z TI TO i1 i2 a b : Addr} (hA : ZipApart z TI TO i1 i2 a b) :
 wn6 P w K (.Tuple elts k pos) (Itz K a b) [z, TI, TO, i1, i2] z (fun i h => IsZip h z TI TO .none /\ IsPair h TI (.ref i1) (.ref i2) /\ (∃ u v, IsPair h TO u v) /\ h.IsTupleIter i1 a i /\ h.IsTupleIter i2 b i) where
 mem := by simp
 obj := by
  rintro i h ⟨e1, e2, ⟨u, v, e3⟩, ⟨o4, e4, _, d4⟩, o5, e5, _, d5⟩ c hc
  have hc : c = z \/ c = TI \/ c = TO \/ c = i1 \/ c = i2 := by simpa using hc
  rcases hc with rfl | rfl | rfl | rfl | rfl
  ·exact ⟨_, e1, fun v z => by cases (show Data.fields _ = Data.cell v from z)⟩
  ·exact ⟨_, e2, fun v z => by cases (show Data.seq _ _ = Data.cell v from z)⟩
  ·exact ⟨_, e3, fun v z => by cases (show Data.seq _ _ = Data.cell v from z)⟩
  ·exact ⟨_, e4, fun v z => by rw [d4] at z; cases z⟩
  ·exact ⟨_, e5, fun v z => by rw [d5] at z; cases z⟩
 keep := fun i h h' ⟨e1, e2, ⟨u, v, e3⟩, e4, e5⟩ kk => ⟨kk z (by simp) _ e1, kk TI (by simp) _ e2, ⟨u, v, kk TO (by simp) _ e3⟩, e4.at fun o q => kk i1 (by simp) o q, e5.at fun o q => kk i2 (by simp) o q⟩
 item := by
  intro X hP hw hK hc i pins s σ H E I hf ⟨e1, e2, ⟨u, v, e3⟩, e4, e5⟩ hg
  subst hP hw hK
  obtain ⟨xs, ys, x, y, hq1, hq2, hx, hy⟩ := hg
  obtain ⟨its, rv, p1, hz⟩ := I.tuple hq1
  obtain ⟨jts, rw_, p2, hz2⟩ := I.tuple hq2
  obtain ⟨x', hx', rx⟩ := rv.get hx
  obtain ⟨y', hy', ry⟩ := rw_.get hy
  have Z : X5 s.heap z TI TO i1 i2 a b .none u v i i its.toArray jts.toArray := ⟨e1, e2, e3, e4, e5, p1, p2⟩
  have nT : ∀ c, c ∈ [z, TI, TO, i1, i2] -> s.heap.objs.size ≠ c := by
   intro c hc e
   have hc : c = z \/ c = TI \/ c = TO \/ c = i1 \/ c = i2 := by simpa using hc
   have hlt : c < s.heap.objs.size := by
    rcases hc with rfl | rfl | rfl | rfl | rfl
    ·exact Heap.lt_size e1
    ·exact Heap.lt_size e2
    ·exact Heap.lt_size e3
    ·obtain ⟨o, e4, _⟩ := e4; exact Heap.lt_size e4
    ·obtain ⟨o, e5, _⟩ := e5; exact Heap.lt_size e5
   rw [e] at hlt
   exact absurd hlt (Nat.lt_irrefl _)
  refine qy6 hA Z (x := x') (y := y') (by simpa using hx') (by simpa using hy') fun h' Z' hp hsz kk => ⟨_, rfl, wpAny_letOwnedTupleGo_zip Z'.z fun h2 z2 sb => ?_⟩
  have k2 : ∀ c, c ≠ z -> h2.get? c = h'.get? c := fun c n => sb.2 c n
  have hp2 : IsPair h2 s.heap.objs.size x' y' := (k2 _ (nT z (by simp))).trans hp
  have I1 : Inv X pins σ (upd H s.heap.objs.size (.tup [x, y])) { s with heap := h2, toks := s.toks } := I.turnLaid (ch := [z, TI, TO, i1, i2]) (fun b hb => hf b hb) (fun c o hb e => by
   have hb : c ≠ z /\ c ≠ TI /\ c ≠ TO /\ c ≠ i1 /\ c ≠ i2 := by simpa using hb
   exact (k2 c hb.1).trans (kk c o hb.1 hb.2.2.1 hb.2.2.2.1 hb.2.2.2.2 e)) (Nat.le_refl _) ⟨by rw [sizeLine_eq]; simp, [x', y'], .cons rx (.cons ry .nil), ⟨_, hp2, rfl, 0, rfl⟩⟩ I.tk
  refine ⟨.ref s.heap.objs.size, _, I1, rfl, ⟨s.heap.objs.size, x, y, rfl, I.hok.fresh (Nat.le_refl _), fun xs2 h2 => by rw [I.tuple_inj h2 hq1]; exact hx, fun ys2 h2 => by rw [I.tuple_inj h2 hq2]; exact hy, rfl⟩, ⟨z2, (k2 _ hA.TIz).trans Z'.TI, ⟨_, _, (k2 _ hA.TOz).trans Z'.TO⟩, Z'.i1.at fun o e => (k2 _ hA.i1z).trans e, Z'.i2.at fun o e => (k2 _ hA.i2z).trans e⟩, fun c hc => ?_⟩
  rw [B8 (Ne.symm (nT c hc))]
  exact (hf c hc).1
 done := by
  intro X hP hw hK hc i pins s σ H E I hf ⟨e1, e2, ⟨u, v, e3⟩, e4, e5⟩ hg
  subst hP hw hK
  obtain ⟨xs, ys, hq1, hq2, hl⟩ := hg
  obtain ⟨its, rv, p1, hz⟩ := I.tuple hq1
  obtain ⟨jts, rw_, p2, hz2⟩ := I.tuple hq2
  have Z : X5 s.heap z TI TO i1 i2 a b .none u v i i its.toArray jts.toArray := ⟨e1, e2, e3, e4, e5, p1, p2⟩
  have l1 := rv.length
  have l2 := rw_.length
  exact wd0 (I.ok.hd hc) hA Z (by rcases hl with hl | hl; · left; simp; omega
                                  ·right; simp; omega) fun h' kk => ⟨rfl, I.turnedL (ch := [z, TI, TO, i1, i2]) (t' := s.toks) (fun b hb => hf b hb) (fun c o hb e => by
   have hb : c ≠ z /\ c ≠ TI /\ c ≠ TO /\ c ≠ i1 /\ c ≠ i2 := by simpa using hb
   exact kk c o hb.1 hb.2.2.1 hb.2.2.2.1 hb.2.2.2.2 e) I.tk⟩
 self := fun A i s Q E st h => wpAny_pyIter_zip st.1 h
def yr2 (K : Fg) (ta : TA) : TI := fun σ H R => ta σ H fun vs H1 => ∃ a b xs ys, vs = [.ref a, .ref b] /\ SqT K H1 a xs /\ SqT K H1 b ys /\ R (Itz K a b) H1
theorem yr3 {X : Cx} {elts : List Expr} {k : Nat} {tpos p pos : Pos} {l m : Expr} {ta : TA} (hg : Gl X "zip") (hm : X.mg "zip" = none) (ha : PA X [l, m] ta) (hs : autoParam (starEach [l, m] X.env = (false, eval l X.env) :: starEach [m] X.env) zAr) (hs2 : autoParam (starEach [m] X.env = [(false, eval m X.env)]) zAr) :
 PI X (.Tuple elts k tpos) (.Call (.Name "zip" p) [l, m] [] pos) (yr2 X.K ta) := by
 intro pins s σ H R I h
 refine Call_ (qg5 I hg hm boot_zip (PyProof.Rows.callWith_type1 (thn (ha pos pins s σ H _ I h) fun us s1 zq => ?_) hs (by rw [hs2]; rfl)))
 obtain ⟨vs, H1, I1, r1, q1⟩ := zq
 obtain ⟨a, b, xs, ys, e, hq1, hq2, q⟩ := q1
 subst e
 obtain ⟨v, w, rfl, rv, rw_⟩ := xb9 r1
 cases rv
 cases rw_
 obtain ⟨its, rv, pT, hz⟩ := I1.tuple hq1
 obtain ⟨jts, rw_, pU, hz2⟩ := I1.tuple hq2
 have ha1 : a < s1.heap.objs.size := by obtain ⟨o, e, _⟩ := (show s1.heap.IsTuple a its.toArray from pT); exact Heap.lt_size e
 have hb1 : b < s1.heap.objs.size := by obtain ⟨o, e, _⟩ := (show s1.heap.IsTuple b jts.toArray from pU); exact Heap.lt_size e
 refine wd1 (show s1.heap.IsTuple a its.toArray from pT) (show s1.heap.IsTuple b jts.toArray from pU) fun h' Z hk => ?_
 have I2 : Inv X pins σ H1 { s1 with heap := h' } := I1.kept (t' := s1.toks) hk
 refine wpAny_pyIter_zip Z.z ?_
 refine ⟨s1.heap.objs.size + 4, _, _, _, H1, rfl, I2, xt2 (PyProof.Rows.zipApart_new ha1 hb1), ⟨Z.z, Z.TI, ⟨_, _, Z.TO⟩, Z.i1, Z.i2⟩, fun c hc => ?_, q⟩
 have hc : s1.heap.objs.size <= c := by
  have hc : c = s1.heap.objs.size + 4 \/ c = s1.heap.objs.size + 2 \/ c = s1.heap.objs.size + 3 \/ c = s1.heap.objs.size \/ c = s1.heap.objs.size + 1 := by simpa using hc
  rcases hc with rfl | rfl | rfl | rfl | rfl
  all_goals first | exact Nat.le_refl _ | exact Nat.le_add_right _ _
 exact I1.fpOk hc (I1.hok.fresh hc)
section
variable {σ : St} {H : Hp} {K : Fg}
theorem yr4 {ta : TA} {R : It -> Hp -> Prop} (h : ta σ H fun vs H1 => ∃ a b xs ys, vs = [.ref a, .ref b] /\ SqT K H1 a xs /\ SqT K H1 b ys /\ R (Itz K a b) H1) : yr2 K ta σ H R := h
theorem ya1 {g : TG} {tt : TT} {te : TE} {σ' : St} {Q : VK} {a b : Addr} {xs zs : List V} (hq : SqT K H a xs) (hr : SqT K H b zs) (Pv : Nat -> List V -> Hp -> Prop) (h0 : Pv 0 [] H) (hlen : ∀ i ys H, i <= min xs.length zs.length -> Pv i ys H -> ys.length <= sizeLine)
 (hk : ∀ i ys H, Pv i ys H -> SqT K H a xs /\ SqT K H b zs)
 (hs : ∀ i x z ys H p, xs[i]? = some x -> zs[i]? = some z -> Pv i ys H -> H p = none -> g (.ref p) σ' (upd H p (.tup [x, z])) fun σ2 H2 => tt σ2 H2 fun b H3 => if b = true then te σ2 H3 fun y H4 => PAt Pv (i + 1) (ys ++ [y]) H4 else PAt Pv (i + 1) ys H3)
 (hd : ∀ ys H, Pv (min xs.length zs.length) ys H -> ∀ p, H p = none -> Q (.ref p) (upd H p (.lst ys))) :
 ∃ c d xs' ys', [V.ref a, V.ref b] = [.ref c, .ref d] /\ SqT K H c xs' /\ SqT K H d ys' /\ qo5 g tt te σ' Q (Itz K c d) H := by
 refine ⟨a, b, xs, zs, rfl, hq, hr, fun i m ys H => m = min xs.length zs.length - i /\ i <= min xs.length zs.length /\ Pv i ys H, ⟨_, rfl, Nat.zero_le _, h0⟩, ?_⟩
 rintro i m ys H ⟨rfl, hi, p⟩
 refine ⟨hlen i ys H hi p, ?_⟩
 obtain ⟨q1, q2⟩ := hk i ys H p
 by_cases hlt : i < min xs.length zs.length
 ·have l1 : i < xs.length := by omega
  have l2 : i < zs.length := by omega
  refine .inr ⟨⟨xs, zs, xs[i], zs[i], q1, q2, by simp [l1], by simp [l2]⟩, Pv (i + 1), fun ys' H' q => ⟨min xs.length zs.length - (i + 1), by omega, rfl, hlt, q⟩, fun v H' y => ?_⟩
  obtain ⟨t, x, z, rfl, ht, hx, hz, rfl⟩ := y
  exact hs i x z ys H t (hx xs q1) (hz zs q2) p ht
 ·have e : i = min xs.length zs.length := by omega
  subst e
  exact .inl ⟨⟨xs, zs, q1, q2, by omega⟩, hd ys H p⟩
end
end L2
namespace L2
open PySem PySem.Spec PyProof.Rows
end L2
namespace L2
open PySem PySem.Spec PyProof.Rows PySem.SeqAt
end L2
namespace L2
open PySem PySem.Spec PyProof.Rows
def yh2 (K : Fg) (a : Addr) : It := ⟨fun i H => ∃ xs x, SqL K H a xs /\ xs[i]? = some x, fun i H x H' => ∃ p y, x = .ref p /\ H p = none /\ (∀ xs, SqL K H a xs -> xs[i]? = some y) /\ H' = upd H p (.tup [.int i, y]), fun i H => ∃ xs, SqL K H a xs /\ xs.length <= i⟩
theorem xj1 {P : Program} {w : World} {K : Fg} {elts : List Expr} {k : Nat} {pos : Pos} (a e it : Addr) (hei : e ≠ it) :
 wn6 P w K (.Tuple elts k pos) (yh2 K a) [e, it] e (fun i h => (∃ old, IsEnum h e it i old) /\ h.IsListIter it a i) where
 mem := by simp
 obj := by
  rintro i h ⟨⟨old, e1⟩, o2, e2, _, d2⟩ b hb
  have hb : b = e \/ b = it := by simpa using hb
  rcases hb with rfl | rfl
  ·exact ⟨_, e1, fun v z => by cases (show Data.fields _ = Data.cell v from z)⟩
  ·exact ⟨_, e2, fun v z => by rw [d2] at z; cases z⟩
 keep := fun i h h' st kk => ⟨let ⟨old, e1⟩ := st.1; ⟨old, kk e (by simp) _ e1⟩, st.2.at fun o q => kk it (by simp) o q⟩
 item := by
  intro X hP hw hK hc i pins s σ H E I hf st hg
  subst hP hw hK
  obtain ⟨xs, x, hq, hx⟩ := hg
  obtain ⟨its, rv, p, hz⟩ := I.list hq
  obtain ⟨u, hu, ru⟩ := rv.get hx
  have hil : i < its.toArray.size := by rw [List.size_toArray]; exact (List.getElem?_eq_some_iff.mp hu).1
  have pT : s.heap.IsList a its.toArray := p.isList
  have nea : a ≠ it := fun z => by
   obtain ⟨o1, h1, c1, _⟩ := pT
   obtain ⟨o2, h2, c2, _⟩ := st.2
   rw [z, h2] at h1
   cases h1
   rw [c1] at c2
   exact absurd c2 (by decide)
  have nee : e ≠ a := fun z => by
   obtain ⟨o1, h1, c1, _⟩ := pT
   obtain ⟨old, h2⟩ := st.1
   rw [<- z] at h1
   have h2 : s.heap.get? e = some _ := h2
   rw [h2] at h1
   cases h1
   exact absurd c1 (show ¬ (Value.type "enumerate" = Value.type "list") by decide)
  have W := WalksT.enumerateD (prog := X.prog) (w := X.w) (A := X.A) (Draws.list (A := X.A.in1) (show X.A.in1.handled = none from I.ok.hd hc) it a nea its.toArray) e hei (by simp [hei, nee]) (by simp)
  refine wpAny_with_toks (n := 1) I.tk (W.item i s _ _ hil ⟨st.1, st.2, pT⟩ fun T vs h' tk hv hT htup hmid kk ht => ?_)
  have ht : 0 < tk := ht
  obtain ⟨tk1, y, hy, rfl⟩ := hv
  have hy : its[i]? = some y := by simpa using hy
  rw [hu] at hy
  injection hy with hy
  subst hy
  have hap := W.apart i T h' hmid
  refine ⟨_, rfl, W.go elts k pos i T { s with heap := h', toks := tk } _ _ hmid fun h2 st2 k2 => ?_⟩
  have htup2 : IsTup h2 T [Value.int i tk1, u].toArray := by
   obtain ⟨o, e, c⟩ := htup
   exact ⟨o, k2 T o hap e, by simpa using c⟩
  have I1 : Inv X pins σ (upd H T (.tup [.int i, x])) { s with heap := h2, toks := tk } := I.turnLaid (ch := [e, it]) (fun b hb => hf b hb) (fun b u hb e => k2 b u hb (kk b u hb e)) hT ⟨by rw [sizeLine_eq]; simp, [Value.int i tk1, u], .cons ⟨tk1, rfl⟩ (.cons ru .nil), htup2⟩ ht
  refine ⟨.ref T, _, I1, rfl, ⟨T, x, rfl, I.hok.fresh hT, fun ys hy => by rw [I.list_inj hy hq]; exact hx, rfl⟩, ⟨st2.1, st2.2.1⟩, fun b hb => ?_⟩
  have hb2 : ∃ o, s.heap.get? b = some o := by
   have hb : b = e \/ b = it := by simpa using hb
   rcases hb with rfl | rfl
   ·obtain ⟨old, e1⟩ := st.1; exact ⟨_, e1⟩
   ·obtain ⟨o, e1, _⟩ := st.2; exact ⟨_, e1⟩
  obtain ⟨o, e⟩ := hb2
  rw [B8 (Nat.ne_of_lt (Nat.lt_of_lt_of_le (Heap.lt_size e) hT))]
  exact (hf b hb).1
 done := by
  intro X hP hw hK hc i pins s σ H E I hf st hg
  subst hP hw hK
  obtain ⟨xs, hq, hx⟩ := hg
  obtain ⟨its, rv, p, hz⟩ := I.list hq
  have pT : s.heap.IsList a its.toArray := p.isList
  have hno : its.toArray[i]? = none := by
   have := rv.length
   simp; omega
  obtain ⟨old, he⟩ := st.1
  have D : Draws X.prog X.w X.A.in1 it [it, a] 0 (fun _ _ => True) (fun _ h => h.IsListIter it a i /\ h.IsList a its.toArray) :=
   { live := fun _ _ st => let ⟨o, ho, _⟩ := st.1; ⟨o, ho⟩
     frame := fun _ _ _ st hk => ⟨st.1.at fun o e => hk it (by simp) o e, st.2.at fun o e => hk a (by simp) o e⟩
     item := fun j s Q E hj => absurd hj (Nat.not_lt_zero _)
     done := fun s Q E st hE => wpAny_nextOf_list_end (show X.A.in1.handled = none from I.ok.hd hc) st.1 st.2 hno hE }
  exact wpAny_pyNext_enum_endD D he ⟨st.2, pT⟩ fun h' hx => ⟨rfl, I.turnedL (ch := [e, it]) (t' := s.toks) (fun b hb => hf b hb) (fun b o hb y => hx b o (fun z => hb (by simp [z])) y) I.tk⟩
 self := fun A i s Q E st h => let ⟨old, e1⟩ := st.1; wpAny_pyIter_enum e1 h
def wi4 (K : Fg) (ta : TA) : TI := fun σ H R => ta σ H fun vs H1 => ∃ a xs, vs = [.ref a] /\ SqL K H1 a xs /\ R (yh2 K a) H1
theorem wi5 {X : Cx} {elts : List Expr} {k : Nat} {tpos p pos : Pos} {l : Expr} {ta : TA} (hg : Gl X "enumerate") (hm : X.mg "enumerate" = none) (ha : PA X [l] ta) (hs : autoParam (starEach [l] X.env = [(false, eval l X.env)]) zAr) :
 PI X (.Tuple elts k tpos) (.Call (.Name "enumerate" p) [l] [] pos) (wi4 X.K ta) := by
 intro pins s σ H R I h
 refine Call_ (qg5 I hg hm boot_enumerate (PyProof.Rows.callWith_type1 (thn (ha pos pins s σ H _ I h) fun us s1 zq => ?_) hs rfl))
 obtain ⟨vs, H1, I1, r1, q1⟩ := zq
 obtain ⟨a, xs, e, hq, q⟩ := q1
 subst e
 obtain ⟨v, rfl, rv⟩ := qf3 r1
 cases rv
 obtain ⟨its, rv, pT, hz⟩ := I1.list hq
 refine call_enumerate_list pT.isList fun h' he hit hz hk => ?_
 have I2 : Inv X pins σ H1 { s1 with heap := h' } := I1.kept (t' := s1.toks) hk
 refine wpAny_pyIter_enum he ?_
 have ne : s1.heap.objs.size + 1 ≠ s1.heap.objs.size := by omega
 refine ⟨s1.heap.objs.size + 1, _, _, _, H1, rfl, I2, xj1 a (s1.heap.objs.size + 1) s1.heap.objs.size ne, ⟨⟨_, he⟩, hit⟩, fun b hb => ?_, q⟩
 have hb : b = s1.heap.objs.size + 1 \/ b = s1.heap.objs.size := by simpa using hb
 rcases hb with rfl | rfl
 ·exact I1.fpOk (Nat.le_succ _) (I1.hok.fresh (Nat.le_succ _))
 ·exact I1.fpOk (Nat.le_refl _) (I1.hok.fresh (Nat.le_refl _))
section
variable {σ : St} {H : Hp} {K : Fg}
theorem wi6 {ta : TA} {R : It -> Hp -> Prop} (h : ta σ H fun vs H1 => ∃ a xs, vs = [.ref a] /\ SqL K H1 a xs /\ R (yh2 K a) H1) : wi4 K ta σ H R := h
theorem qy7 {g : TG} {tb : TS} {D : P4} {a : Addr} {xs : List V} (hq : SqL K H a xs) (Pv : Nat -> St -> Hp -> Prop) (h0 : Pv 0 σ H) (hk : ∀ i σ H', Pv i σ H' -> SqL K H' a xs)
 (hs : ∀ i x σ H p, xs[i]? = some x -> Pv i σ H -> H p = none -> g (.ref p) σ (upd H p (.tup [.int i, x])) fun σ2 H2 => tb { D with nx := PAt Pv (i + 1), ct := PAt Pv (i + 1), bk := D.nx } σ2 H2) (hd : ∀ σ H, Pv xs.length σ H -> D.nx σ H) :
 ∃ b ys, [V.ref a] = [.ref b] /\ SqL K H b ys /\ xh9 g tb D σ (yh2 K b) H := by
 refine ⟨a, xs, rfl, hq, fun i m σ H => m = xs.length - i /\ i <= xs.length /\ Pv i σ H, ⟨xs.length, by simp, Nat.zero_le _, h0⟩, ?_⟩
 rintro i m σ H ⟨rfl, hi, p⟩
 have sq := hk i σ H p
 by_cases hlt : i < xs.length
 ·refine .inr ⟨⟨xs, xs[i], sq, by simp [hlt]⟩, Pv (i + 1), fun σ' H' p' => ⟨xs.length - (i + 1), by omega, rfl, hlt, p'⟩, fun x H' y => ?_⟩
  obtain ⟨t, z, rfl, ht, hz, rfl⟩ := y
  exact hs i z σ H t (hz xs sq) p ht
 ·have e : i = xs.length := by omega
  subst e
  exact .inl ⟨⟨xs, sq, Nat.le_refl _⟩, hd σ H p⟩
end
section
variable {X : Cx}
def qy8 : V -> List V -> Hp -> VK -> Prop := fun x vs H Q => ∃ z y : Str, x = .str z /\ vs = [.str y] /\ 1 <= y.length /\ z.length <= 1000000 /\ ∀ p, H p = none -> Q (.ref p) (upd H p (.lst (B2 (PySem.Txt.split z y))))
theorem wt9 : ∀ (l : List Str) (n : Nat), G4 (B2 l) (strsFrom n l)
 | [], _ => .nil
 | x :: l, n => .cons ⟨_, rfl⟩ (wt9 l _)
theorem ql3 : MtR X "str.split" qy8 := by
 intro pins s σ H x vs v us Q I rx rv h
 obtain ⟨z, y, rfl, rfl, hy, hz, q⟩ := h
 obtain ⟨t, rfl⟩ := rx
 obtain ⟨u, rfl, ru⟩ := rv.one
 obtain ⟨t', rfl⟩ := ru
 have hy0 : (y.length == 0) = false := by simp; omega
 have hf := I.hok.fresh (Nat.le_refl _)
 have one : ∀ (e : PySem.Txt.split z y = [z]), listOfItself z t X.A (wants (EP X pins σ Q) X.xe) s := fun e => by
  rw [e] at q
  exact ⟨.ref s.heap.objs.size, _, I.laid (t' := s.toks) (o := .lst (B2 [z])) (fun b o e => Heap.get?_push_of_some _ e) (Nat.le_refl _) ⟨by show 1 <= _; rw [sizeLine_eq]; decide, [.str z t], 0, .cons ⟨t, rfl⟩ .nil, Heap.get?_push_size _ rfl⟩ I.tk, rfl, q _ hf⟩
 by_cases h1 : (decide (z.length < y.length) || decide (Builtin.Str.strKind z < Builtin.Str.strKind y)) = true
 ·refine call_meets F.slot_str_split (typeIs_str _ _ _) F.entry_str_split (F.args_str_split_2 _ _) (meets_str_split_cannot_occur z y t t' h1) (one ?_)
  unfold PySem.Txt.split; rw [if_pos h1]
 ·have h1' := Bool.eq_false_iff.mpr h1
  by_cases h2 : (Builtin.Str.occurrences z y 0 z.length (z.length + 1)).isEmpty = true
  ·refine call_meets F.slot_str_split (typeIs_str _ _ _) F.entry_str_split (F.args_str_split_2 _ _) (meets_str_split_not_found z y t t' h1' hy0 h2) (one ?_)
   unfold PySem.Txt.split; rw [if_neg h1, if_pos h2]
  ·have h2' := Bool.eq_false_iff.mpr h2
   have e : PySem.Txt.split z y = Builtin.Str.partsBetween z (Builtin.Str.occurrences z y 0 z.length (z.length + 1)) y.length := by unfold PySem.Txt.split; rw [if_neg h1, if_neg h2]
   have hl := (PyProof.Rows.fact_split z y).2
   rw [e] at hl
   refine call_meets F.slot_str_split (typeIs_str _ _ _) F.entry_str_split (F.args_str_split_2 _ _) (meets_str_split_sep z y t t' h1' hy0 h2' (by rw [sizeLine_eq]; omega) (by rw [sizeLine_eq]; omega)) ?_
   rw [<- e] at hl ⊢
   have hvl : (B2 (PySem.Txt.split z y)).length <= sizeLine := by show (List.map _ _).length <= _; rw [List.length_map, sizeLine_eq]; omega
   exact ⟨.ref s.heap.objs.size, _, I.laid (o := .lst (B2 (PySem.Txt.split z y))) (fun b o e => Heap.get?_push_of_some _ e) (Nat.le_refl _) ⟨hvl, _, 0, wt9 _ _, Heap.get?_push_size _ rfl⟩ (Nat.lt_of_lt_of_le I.tk (Nat.le_add_right _ _)), rfl, q _ hf⟩
end
end L2
namespace L2
open PySem PySem.Spec PyProof.Rows
noncomputable def wi7 (K : Fg) (C : Addr) : Bool := match K.lookup C with
 | some ⟨.type "type", _, .cls cd, sl⟩ => (match cd.mro, sl.toList with
   | .ref C' :: bm, [_, _, _, _, some (.builtin n), _] => C' == C && n == "ValueError.__new__" && !cd.hasDel && PySem.W.tailIn K bmV bm && cd.hasDict
   | _, _ => false)
 | _ => false
theorem qt9 {K : Fg} {h : Heap} {C : Addr} (X : K.In h) (q : wi7 K C = true) :
 ∃ bm N nm qn bs sn sub ab col dd k0 k1 k2 k3 k5, h.get? C = some (excClassObj nm qn C N bs bm true sn sub ab col dd k0 k1 k2 k3 k5 "ValueError.__new__") /\ OwnTail h bmV bm := by
 revert q
 unfold wi7
 split
 next dd cd sl ho =>
  split
  next C' bm k0 k1 k2 k3 n k5 hm hs =>
   intro q
   simp only [Bool.and_eq_true, beq_iff_eq, Bool.not_eq_true'] at q
   obtain ⟨⟨⟨⟨q1, q2⟩, q3⟩, q4⟩, q5⟩ := q
   subst q1 q2
   cases cd
   simp only at hm q3 q5
   subst hm q3 q5
   obtain ⟨sl⟩ := sl
   simp only at hs
   subst hs
   exact ⟨bm, _, _, _, _, _, _, _, _, dd, k0, k1, k2, k3, k5, X _ _ ho, PySem.W.tail_of_in X q4⟩
  next => intro q; cases q
 next => intro q; cases q
section
variable {prog : Program} {w : World} {A : Around} {E : Value -> Shared -> Prop} {h : Heap} {g : Array GenState} {d : Drawn} {t : Nat} {os : OsState} {a C dx : Addr} {o : Obj} {K : Fg} {mA : Str -> Option Value} {y : Str} {v : Value}
theorem xj2 {tk : Tok} {Q : Fin -> Shared -> Prop} (X : K.In h) (qi : wi7 K C = true) (hy : PySem.W.findIn K (.ref C) y = some none) (hx : h.get? a = some o) (hc : o.cls = .ref C) (hnc : ∀ c, o.data ≠ .cls c) (hd : o.dict = some dx) (hn : h.Ns1 dx mA) (hv : mA y = some v) (hq : Q (.done (.ret v)) ⟨h, g, d, t, os⟩) :
 wpAny (model prog w) A (Builtin.«object.__getattribute__» ⟨[.ref a, .str y tk], []⟩) Q E ⟨h, g, d, t, os⟩ := by
 obtain ⟨bm, N, nm, qn, bs, sn, sub, ab, col, dd, k0, k1, k2, k3, k5, hC, T⟩ := qt9 X qi
 have L := PySem.W.looks_findIn (M := model prog w) X hy
 repeat (any_goals (first | assumption | (with_reducible refine wpAny_loadPart_at hx ?_; rw [hc]) | with_reducible refine L.at ?_ | wp_step))
 split
 ·rename_i c z; exact absurd z (hnc c)
 unfold instanceDict
 repeat (any_goals (first | assumption | (with_reducible refine wpAny_loadPart_at hx ?_; rw [hc]) | with_reducible refine wpAny_loadPart_at hC ?_ | with_reducible refine L.at ?_ | wp_step))
 rw [hd]
 refine wpAny_pure ?_
 show wpAny _ _ (nsGet dx y) _ _ _
 refine wpAny_nsGet hn.ns ?_
 rw [hv]
 repeat (any_goals (first | assumption | wp_step))
theorem xt3 {B : String} {tk : Tok} {R : Result -> Shared -> Prop} (FB : ExcAttrFacts B) (X : K.In h) (Z : wh7 K C) (qi : wi7 K C = true) (hy : PySem.W.findIn K (.ref C) y = some none) (hx : h.get? a = some o) (hc : o.cls = .ref C) (hnc : ∀ c, o.data ≠ .cls c) (hd : o.dict = some dx) (hn : h.Ns1 dx mA) (hv : mA y = some v) (hq : R (.ok (.ret v)) ⟨h, g, d, t, os⟩) :
 codeAny (model prog w) A (.call (.builtin "BaseException.__getattribute__") ⟨[.ref a, .str y tk], []⟩) R ⟨h, g, d, t, os⟩ :=
 codeAny_call_builtin FB.ga.plain F.entry_bexc_ga (wh8 X Z hx hc (xj2 X qi hy hx hc hnc hd hn hv hq))
theorem zb2 {B : String} {b : Bool} {Q : Value -> Shared -> Prop} (FB : ExcAttrFacts B) (X : K.In h) (Z : wh7 K C) (qi : wi7 K C = true) (hy : PySem.W.findIn K (.ref C) y = some none) (hx : h.get? a = some o) (hc : o.cls = .ref C) (hnc : ∀ c, o.data ≠ .cls c) (hd : o.dict = some dx) (hn : h.Ns1 dx mA) (hv : mA y = some v) (hh : PySem.W.handedIn v = true) (hq : Q v ⟨h, g, d, t + 1, os⟩) :
 wpAny (model prog w) A (getAttr (.ref a) y b) Q E ⟨h, g, d, t, os⟩ := by
 have f3 := FB.ga.bind (.ref a)
 have hx2 : (Value.builtin "BaseException.__getattribute__" == Value.builtin "object.__getattribute__") = false := by decide +kernel
 have hx1 : (onTheHeap (Value.ref C) && Value.builtin "BaseException.__getattribute__" == Value.builtin "object.__getattribute__") = false := by rw [hx2]; rfl
 have L1 := PySem.W.looks_findIn (M := model prog w) X Z.ga
 have L2 := PySem.W.looks_findIn (M := model prog w) X Z.gn
 unfold getAttr
 repeat (any_goals (first | assumption | (with_reducible refine wpAny_loadPart_at hx ?_; rw [hc]) | with_reducible refine L1.at ?_ | with_reducible refine L2.at ?_ | wp_step))
 rw [if_neg (by show ¬ (b && false) = true; cases b <;> decide)]
 repeat (any_goals (first | assumption | (with_reducible refine wpAny_loadPart_at hx ?_; rw [hc]) | wp_step))
 refine xt3 FB X Z qi hy hx hc hnc hd hn hv ?_
 repeat (any_goals (first | assumption | wp_step))
 show wpAny _ _ (handedOut v) _ _ _
 rw [PySem.W.handedOut_of hh]; exact wpAny_pure hq
end
noncomputable def qy9 (a C : Addr) (od : Option Addr) : HO := .ext fun h => ∃ o, h.get? a = some o /\ o.cls = .ref C /\ o.dict = od /\ ∃ vs, o.data = .fields vs
theorem yh3 {P : Program} {w : World} {H : Hp} {h : Heap} {a C : Addr} {od : Option Addr} {o : Obj} (e : h.get? a = some o) (c : o.cls = .ref C) (d : o.dict = od) (v : ∃ vs, o.data = .fields vs) : M9 P w H h a (qy9 a C od) :=
 ⟨⟨o, e, c, d, v⟩, ⟨o, e⟩, fun h1 h2 ⟨u, e1, r⟩ k => ⟨u, k u e1, r⟩⟩
structure ExI (K : Fg) (C : Addr) (f : Str) : Prop where
 Z : wh7 K C
 qi : wi7 K C = true
 hy : PySem.W.findIn K (.ref C) f = some none
def ya2 (K : Fg) (ta : TE) (f : Str) : TE := fun σ H Q => ta σ H fun x H1 => ∃ a C dx fs v, x = .ref a /\ H1 a = some (qy9 a C (some dx)) /\ H1 dx = some (.xd fs) /\ ExI K C f /\ fs.lookup f = some v /\ Q v H1
section
variable {X : Cx} {e : Expr} {f : Str} {pos : Pos} {ta : TE}
theorem xj3 (he : PE X e ta) (hb : attributeBase e f X.env (eval e X.env) = eval e X.env) : PE X (.Attribute e f pos) (ya2 X.K ta f) := by
 intro pins s σ H Q I h
 refine ye3 hb (thn (he pins s σ H _ I h) fun u s1 zq => ?_)
 obtain ⟨x, H1, I1, rx, a, C, dx, fs, v, ex, ea, ed, c, l, q⟩ := zq
 subst ex
 obtain rfl : u = Value.ref a := rx
 obtain ⟨⟨o, o1, o2, o3, vs, o4⟩, _⟩ := I1.hok _ _ ea
 obtain ⟨mA, hn, r⟩ := I1.hok _ _ ed
 obtain ⟨u, hu, ru⟩ := we7.some_of (v := v) (o := mA f) (by rw [<- l]; exact r f)
 obtain ⟨hh, g, d, t, os⟩ := s1
 exact zb2 F.excAttr_ValueError I1.kIn c.Z c.qi c.hy o1 o2 (fun c z => by rw [o4] at z; cases z) o3 hn hu (xq5 ru) ⟨v, H1, I1.tok _, ru, q⟩
end
def wu0 (C : Addr) (i : Nat) (te : XK -> TE) (ts : TS) : TS := fun D σ H =>
 te (fun cls od H' => cls = .ref C /\ ∀ a, H' a = none -> ts { nx := fun σ' H2 => D.nx (σ'.set i none) H2, rt := D.rt, bk := fun σ' H2 => D.bk (σ'.set i none) H2, ct := fun σ' H2 => D.ct (σ'.set i none) H2 } (σ.set i (some (.ref a))) (upd H' a (qy9 a C od))) σ H fun _ H' => D.nx σ H'
section
variable {X : Cx} {C D : Addr} {pos : Pos} {e : Expr}
theorem yh4 {te : XK -> TE} {ts : TS} {b₀ : Stmt} {suite : List Stmt} {ep hp np : Pos} {y n : Str} {i : Nat} (he : PX X e te) (hg : Gl X y) (hm : X.mg y = some (.ref D)) (hx : PySem.W.exmOne X.K (.ref C) (.ref D) = some true)
 (hN : X.N.Nodup) (hi : X.N[i]? = some n) (hk : X.env.scope.names.lookup n = some .local) (hs : ∀ a xe', PSs (X.held a xe') (b₀ :: suite) ts) (hex : autoParam (X.ex = []) zAr) (hst : autoParam (X.stack = X.env :: X.outer) zAr) (hf : autoParam (X.env.frame = some X.env.locals) zAr)
 (hsw : autoParam (swapsWith e none ep.line X.env = pure false) zAr) (hdb : autoParam ((y == ("__debug__" : Str)) = false) zAd) :
 PS X (.Try [.Expr e ep] [.ExceptHandler (some (.Name y np)) (some n) (b₀ :: suite) hp] [] [] pos) (wu0 C i te ts) := by
 intro pins s σ H D I h
 refine wpAny_Try_except (wpAny_execs_cons (wpAny_Expr_any (thn (he pins s σ H _ _ _ I (fun H1 s1 e s2 I1 F => ?_) h) fun v s1 ⟨v', H1, I1, r1, q1⟩ => ?_) I.quiet hsw))
 ·refine yy5 hst hf I1 F fun a cls od H' s3 e1 na hE J ⟨oe, o1, o2⟩ k => ?_
  obtain ⟨rfl, q⟩ := hE
  refine wpAny_handleBy_cons (codeAny_handlers_test (qm7 (J.held a fun _ _ => False) hg hm ?_ hdb)) (by intro q; cases q)
  have lk : PySem.W.Looks (model X.prog X.w) s3.heap (typeOf (.ref a)) (.ref C) := o2 ▸ (PySem.W.Looks.ld o1).andThen .now
  refine (PySem.W.exm_one J.kIn lk hx).here ?_
  refine codeAny_handlers_suite_as (k _ _ _ fun s4 J4 ⟨oe4, p1, p2, p3⟩ nH => ?_)
  have J5 := Inv.track I1 na J4 nH hex (yh3 p1 p2 p3.1 p3.2)
  refine we9 J5 hN hi (.inl hk) (v := .ref a) rfl (fun s5 J6 => ?_) (.inr hk)
  refine wpAny_mono (hs a _ pins s5 _ _ _ (J6.held a _) (q a nH)) (fun f s6 z => ?_) fun _ _ z => z
  have z := z.unheld I.ok
  cases f with
  | next => obtain ⟨σ', H2, J7, q7⟩ := z; exact we0 J7 hN hi hk fun s7 J8 => ⟨_, H2, J8, q7⟩
  | brk => obtain ⟨σ', H2, J7, q7⟩ := z; exact we0 J7 hN hi hk fun s7 J8 => ⟨_, H2, J8, q7⟩
  | cont => obtain ⟨σ', H2, J7, q7⟩ := z; exact we0 J7 hN hi hk fun s7 J8 => ⟨_, H2, J8, q7⟩
  | ret u => obtain ⟨v, σ', H2, J7, r7, q7⟩ := z; exact we0 J7 hN hi hk fun s7 J8 => ⟨v, _, H2, J8, r7, q7⟩
 ·exact wpAny_execs_nil (wpAny_execs_nil ⟨σ, H1, I1, q1⟩)
end
end L2
namespace L2
open PySem PySem.Spec PyProof.Rows
noncomputable def ErX (e C : Addr) (od : Option Addr) : HO := .ext fun h => ∃ t, h.get? e = some { cls := .ref C, dict := od, data := .fields #[.ref t, .none, .none, .none, .bool false, .none] }
theorem xj4 {P : Program} {w : World} {H : Hp} {h : Heap} {e C t : Addr} {od : Option Addr} (g : h.get? e = some { cls := .ref C, dict := od, data := .fields #[.ref t, .none, .none, .none, .bool false, .none] }) : M9 P w H h e (ErX e C od) :=
 ⟨⟨t, g⟩, ⟨_, g⟩, fun h1 h2 ⟨u, e1⟩ k => ⟨u, k _ e1⟩⟩
noncomputable def rmv (H : Hp) (e : Addr) : Hp := fun b => if b = e then none else H b
theorem xd9 {H : Hp} {e : Addr} : rmv H e e = none := by unfold rmv; rw [if_pos rfl]
theorem qa9 {H : Hp} {e b : Addr} (h : b ≠ e) : rmv H e b = H b := by unfold rmv; rw [if_neg h]
structure InI (K : Fg) (mg : Str -> Option Value) (x : Str) (C f : Addr) : Prop where
 mx : mg x = some (.ref C)
 qi : wi7 K C = true
 hi : PySem.W.findIn K (.ref C) "__init__" = some (some (.ref f))
 hf : PySem.W.typeIn K (.ref f) = some (.type "function")
 kp : PySem.W.keepIn K (.ref C) = true
 bx : PySem.W.subIn K (.ref C) (.type "BaseException") = some true
 ck : qp7 K C
def qu0 (C : Addr) (E : XK) (sp : Sp) (t : TA) : TS := fun _ σ H => t σ H fun vs H1 => vs.length <= sizeLine /\ ∀ e, H1 e = none -> sp (.ref e :: vs) (upd H1 e (ErX e C none)) (fun v H2 => v = .non /\ ∃ od, H2 e = some (ErX e C od) /\ E (.ref C) od (rmv H2 e)) E0
section
variable {P : Program} {w : World} {H H1 H2 : Hp} {h h1 h2 : Heap} {e C : Addr} {od : Option Addr} {fs : List Addr}
theorem HOk.rmv (x : HOk P w H2 h2) (he : H2 e = some (ErX e C od)) : HOk P w (rmv H2 e) h2 := fun b u q => by
 have nb : b ≠ e := fun z => by rw [z, xd9] at q; cases q
 rw [qa9 nb] at q
 refine (x b u q).stay (fun c v _ q => q) (fun c q => ?_) fun c xs q => ?_
 ·rw [qa9 (fun z => by rw [z, he] at q; cases q)]; exact q
 ·rw [qa9 (fun z => by rw [z, he] at q; cases q)]; exact q
theorem Un.rmv (hok : HOk P w H1 h) (k : ∀ b o, h.get? b = some o -> h1.get? b = some o) (ne : h.get? e = none) (u : Un fs [] (upd H1 e (ErX e C od)) H2 h1 h2) : Un fs [] H1 (rmv H2 e) h h2 := by
 have nb : ∀ {b : Addr} {o : Obj}, h.get? b = some o -> b ≠ e := fun g z => by rw [z, ne] at g; cases g
 have nH : ∀ {b : Addr} {o : HO}, H1 b = some o -> b ≠ e := fun g => by obtain ⟨_, q⟩ := (hok _ _ g).lies; exact nb q
 refine ⟨fun b o g n hb hx => u.keep b o (k b o g) (by rw [B8 (nb g)]; exact n) hb hx, fun b o g n hb hx => u.slot b o (k b o g) (by rw [B8 (nb g)]; exact n) hb hx, fun b o g n hx => ?_, fun b o g hx => u.there b o (k b o g) hx, fun b xs g => ?_, fun b o v g => ?_, fun b ps g => ?_⟩
 ·rw [qa9 (nb g)]; exact u.free b o (k b o g) (by rw [B8 (nb g)]; exact n) hx
 ·rw [qa9 (nH g)]; exact u.tups b xs (by rw [B8 (nH g)]; exact g)
 ·rw [qa9 (nH g)]; exact u.frzs b o v (by rw [B8 (nH g)]; exact g)
 ·obtain ⟨m, q⟩ := u.tbls b ps (by rw [B8 (nH g)]; exact g)
  exact ⟨m, by rw [qa9 (nH g)]; exact q⟩
end
section
variable {X : Cx} {C f : Addr} {x : Str} {np cpos pos : Pos} {e₀ : Expr} {es : List Expr} {t : TA} {E : XK} {k : Nat} {fd : FuncData} {ps : List Str} {sp : Sp}
theorem wu1 (O : InI X.K X.mg x C f) (FI : O2 X.prog X.w X.K X.mg X.base CX0 k f fd ps sp) (hr : X8 (k + 1) X.A) (hb : qs1 X.K fd ps []) (hx : xn1 X E) (hg : Gl X x) (hc : X.calm = true) (ha : PA X (e₀ :: es) t)
 (hdb : autoParam ((x == ("__debug__" : Str)) = false) zAd) (he : autoParam (starEach (e₀ :: es) X.env = (false, eval e₀ X.env) :: starEach es X.env) zAr) (hpl : autoParam ((backTo cpos (starEach es X.env)).any (·.1) = false) zAr) :
 PS X (.Raise (some (.Call (.Name x np) (e₀ :: es) [] cpos)) none pos) (qu0 C E sp t) := by
 intro pins s σ H D I h
 rw [arm_exec_Raise]
 refine wpAny_bind (wpAny_standAt (xs9 (K := X.K) (C := C) O.bx O.ck (I.ok.hd hc) ?_))
 refine wpAny_bind (wpAny_mono (Q := fun v s₁ => ∃ e dx t, v = .ref e /\ X.K.In s₁.heap /\ s₁.heap.get? e = some { cls := .ref C, dict := dx, data := .fields #[t, .none, .none, .none, .bool false, .none] } /\ X.xe (.ref e) s₁) ?_ (fun v s3 h3 => wpAny_bind (wpAny_standAt (wpAny_pure h3))) fun _ _ x => x)
 refine wpAny_Call_Name_kw (qm7 I hg O.mx ?_ hdb)
 refine PySem.W.callWith_K (h₀ := X.base) I.ok.mod.kin O.kp (thn (ha cpos pins s σ H _ I h) fun us s1 ⟨vs, H1, I1, r, hz, q⟩ => ⟨I1.kIn, ?_⟩) he hpl
 obtain ⟨bm, N, nm, qn, bs, sn, sub, ab, col, dd, k0, k1, k2, k3, k5, hC, T⟩ := qt9 I1.kIn O.qi
 obtain ⟨hh, g, d, tt, os⟩ := s1
 rw [List.nil_append]
 refine yy7 F.excBase_ValueError T I1.kIn hC O.hi O.hf (fun h' e hle hm => ?_) (by rw [<- r.length]; exact hz)
 obtain ⟨t0, e1, e2, e3⟩ := hm.there
 have I2 : Inv X pins σ (upd H1 e (ErX e C none)) _ := I1.laid (o := ErX e C none) hm.keeps hle (xj4 e1)
 have hq := q e (I1.hok.gone hm.new)
 have r2 : G4 (V.ref e :: vs) (Value.ref e :: us) := .cons rfl r
 have hl : (Value.ref e :: us ++ []).length = ps.length := by
  rw [List.append_nil]
  have e := r2.length
  rw [FI.len _ _ _ _ hq] at e
  exact e.symm
 refine wpAny_call (codeAny_mono (FI.run _ X.stack _ _ ⟨Value.ref e :: us, []⟩ (Value.ref e :: us) _ _ E0 (hr.make C us []) (I2.env0.make C us []) (by have := hb _ (Value.ref e :: us) I2.kIn hl; rw [List.append_nil] at this; exact this) r2 hq) fun r s' hq' => ?_)
 cases r with
 | error e => exact False.elim hq'
 | ok fl =>
   cases fl with
   | ret u =>
     have J := I2.after hq'
     obtain ⟨v, H', tk, os', bare, un, hok, rv, ev, od, hH, hE⟩ := hq'
     obtain ⟨v', H'', I3, _⟩ := J
     subst ev
     obtain ⟨⟨t1, g1⟩, _⟩ := hok _ _ hH
     exact ⟨rv, e, od, .ref t1, rfl, I3.kIn, g1, hx pins σ H1 (rmv H' e) _ s' e t1 (.ref C) od I1 (un.rmv I1.hok hm.keeps hm.new) (hok.rmv hH) tk os' bare hm.new xd9 g1 hE⟩
   | next => exact False.elim hq'
   | brk => exact False.elim hq'
   | cont => exact False.elim hq'
end
end L2
namespace L2
open PySem PySem.Spec PyProof.Rows
section
variable {X : Cx} {e : Expr} {t : TE}
def yr5 (c1 c2 : Str) (t : TE) : TE := fun σ H Q => t σ H fun x H1 => ∃ i : Int, x = .int i /\ i.natAbs <= 1000 /\ Q (.str (c1 ++ Str.ofString (toString i) ++ c2)) H1
theorem yr6 {c1 c2 : Str} {j1 j2 : Nat} {p1 p2 p3 pos : Pos} (he : PE X e t) (h1 : autoParam (c1.length <= 4096) zAd) (h2 : autoParam (c2.length <= 4096) zAd) :
 PE X (.JoinedStr [.Constant (.str c1) j1 p1, .FormattedValue e (-1) none p2, .Constant (.str c2) j2 p3] pos) (yr5 c1 c2 t) := by
 intro pins s σ H Q I h
 have e0 : Str.empty ++ c1 = c1 := Str.empty_append c1
 have hs : sizeLine = 16777216 := sizeLine_eq
 refine JoinedStr_many (joinParts_cons (Calls.Constant_str ?_))
 refine ⟨by rw [e0, hs]; omega, ?_⟩
 rw [e0]
 refine joinParts_cons (FormattedValue_plain (thn (he pins _ σ H _ (I.tok _) h) fun u s1 zq => ?_))
 obtain ⟨x, H1, I1, r1, i, e1, hi, q⟩ := zq
 subst e1
 obtain ⟨tk, rfl⟩ := r1
 have hl : i.natAbs.log2 < 1920 := Nat.lt_of_le_of_lt (Nat.log2_le_self _) (by omega)
 have hz := int_text_len_1921 hl
 refine wpAny_formatField_int hl ?_
 refine ⟨by rw [strLen_append, hs]; show _ + (Str.ofString (toString i)).length <= _; omega, ?_⟩
 refine joinParts_consE (joinParts_cons (Calls.Constant_str ?_))
 refine ⟨by rw [strLen_append, strLen_append, hs]; show _ + (Str.ofString (toString i)).length + _ <= _; omega, joinParts_nilE (joinParts_nil ?_ (by rw [strLen_append, strLen_append, hs]; show _ + (Str.ofString (toString i)).length + _ <= _; omega))⟩
 exact ⟨.str (c1 ++ Str.ofString (toString i) ++ c2), H1, I1.tok _, ⟨_, rfl⟩, q⟩
end
structure BaI (K : Fg) (mg : Str -> Option Value) (x : Str) (B : Addr) : Prop where
 mx : mg x = some (.ref B)
 hg : PySem.W.specialIn K (.ref B) "__getattribute__" = some (some (.builtin "type.__getattribute__"))
 hr : PySem.W.readsIn K B (.type "type") = true
 e : PySem.W.findCls K (.ref B) (.type "type") "__init__" = some (.val (.builtin "ValueError.__init__"))
theorem yr7 {H : Hp} {a : Addr} {o : HO} (h : H a = some o) : upd H a o = H := by
 funext b
 by_cases z : b = a
 ·subst z; rw [A8, h]
 ·rw [B8 z]
def yr8 (K : Fg) (t : TA) : TE := fun σ H Q => t σ H fun vs H1 => ∃ e C od v, vs = [.ref e, v] /\ H1 e = some (ErX e C od) /\ wi7 K C = true /\ Q .non H1
structure SeI (K : Fg) (C : Addr) (f : Str) : Prop where
 qi : wi7 K C = true
 sa : PySem.W.findIn K (.ref C) "__setattr__" = some (some (.builtin "object.__setattr__"))
 hy : PySem.W.findIn K (.ref C) f = some none
def yh5 (K : Fg) (ta tv : TE) (f : Str) : TS := fun D σ H => tv σ H fun y H1 => ta σ H1 fun x H2 => ∃ e C, x = .ref e /\ H2 e = some (ErX e C none) /\ SeI K C f /\
 ∀ dx, H2 dx = none -> dx ≠ e -> D.nx σ (upd (upd H2 e (ErX e C (some dx))) dx (.xd [(f, y)]))
section
variable {X : Cx} {B : Addr} {x f : Str} {o value : Expr} {np apos pos pos' : Pos} {e₀ : Expr} {es : List Expr} {t : TA} {ta tv : TE}
theorem yr9 {pl : Sem Bool} (O : BaI X.K X.mg x B) (hg : Gl X x) (ha : PA X (e₀ :: es) t) (hdb : autoParam ((x == ("__debug__" : Str)) = false) zAd)
 (hst : autoParam (starEach (e₀ :: es) X.env = (false, eval e₀ X.env) :: starEach es X.env) zAr) (hpl : autoParam ((backTo pos (starEach es X.env)).any (·.1) = false) zAr)
 (ht : eval (.Call (.Attribute (.Name x np) "__init__" apos) (e₀ :: es) [] pos) X.env = (do
  let ov <- eval (.Name x np) X.env
  standAt apos.atName
  let (f, first) <- holding [ov] (getMethod ov "__init__" pl)
  callWith pos f first (backTo pos (starEach (e₀ :: es) X.env)) (backToKw pos (keywordEach [] X.env))) := by rfl) :
 PE X (.Call (.Attribute (.Name x np) "__init__" apos) (e₀ :: es) [] pos) (yr8 X.K t) := by
 intro pins s σ H Q I h
 refine PySem.W.methodCall_KW (pl := pl) (qm7 I hg O.mx ?_ hdb) ht
 refine PySem.W.method_cls I.kIn O.hg (PySem.W.cls_value I.kIn O.hr O.e rfl ?_)
 have I' : Inv X pins σ H { s with toks := s.toks + 1 } := I.tok _
 show wpAny _ _ (callWith pos (.builtin "ValueError.__init__") [] (backTo pos (starEach (e₀ :: es) X.env)) []) _ _ _
 refine PyProof.Rows.callWith_builtin1 (thn (ha pos pins _ σ H _ I' h) fun us s2 zq => ?_) hst hpl
 obtain ⟨vs, H2, I2, r, e, C, od, v, ev, hH, qi, q2⟩ := zq
 subst ev
 obtain ⟨u0, us, rfl, r0, r1⟩ : ∃ u0 us', us = u0 :: us' /\ G8 (.ref e) u0 /\ G4 [v] us' := by
  cases r with | cons r0 r1 => exact ⟨_, _, rfl, r0, r1⟩
 obtain rfl : u0 = Value.ref e := r0
 obtain ⟨u1, rfl, r2⟩ : ∃ u1, us = [u1] /\ G8 v u1 := by
  cases r1 with | cons r2 r3 => cases r3; exact ⟨_, rfl, r2⟩
 obtain ⟨bm, N, nm, qn, bs, sn, sub, ab, col, dd, k0, k1, k2, k3, k5, hC, T⟩ := qt9 I2.kIn qi
 obtain ⟨⟨t0, g0⟩, _⟩ := I2.hok _ _ hH
 obtain ⟨hh, g, d, tt, os⟩ := s2
 show wpAny _ _ (call (.builtin "ValueError.__init__") [.ref e, u1]) _ _ _
 refine yy8 F.excBase_ValueError T hC g0 fun h' a k g1 => ?_
 have J := I2.write (x := e) (e := e) (o := ErX e C od) (h' := h') (t' := tt) (by rw [hH]; exact True.intro) (.inl rfl) k ⟨_, g1⟩ (xj4 g1) I2.tk
 rw [yr7 hH] at J
 exact ⟨.non, H2, J, rfl, q2⟩
theorem ys0 (ha : PE X o ta) (hv : PE X value tv) (hs : swapsWith value (some (.Attribute o f pos')) pos.line X.env = pure false) (hex : autoParam (X.ex = []) zAr) : PS X (.Assign [.Attribute o f pos'] value pos) (yh5 X.K ta tv f) := by
 intro pins s σ H D I h
 refine plainObj_wpAny_Assign_Attribute (thn (hv pins s σ H _ I h) fun u s1 ⟨y, H1, I1, ry, q⟩ => thn (ha pins s1 σ H1 _ I1 q) fun ov s2 zq => ?_) hs
 obtain ⟨x, H2, I2, rx, e, C, ex, he, S, q2⟩ := zq
 subst ex
 obtain rfl : ov = Value.ref e := rx
 obtain ⟨bm, N, nm, qn, bs, sn, sub, ab, col, dd, k0, k1, k2, k3, k5, hC, T⟩ := qt9 I2.kIn S.qi
 obtain ⟨⟨t0, g0⟩, _⟩ := I2.hok _ _ he
 have In : s2.heap.Inst e C (fun _ => none) := ⟨_, g0, rfl, fun c z => (by cases z), .inl ⟨rfl, fun _ => rfl⟩⟩
 obtain ⟨hh, g, d, tt, os⟩ := s2
 refine zb1 F.store_ValueError T I2.kIn hC S.sa S.hy In (fun h' tk' I' k c ht => ?_) (ns := []) Within.nil (by simp)
 obtain ⟨o1, g1, c1, c2, c3, c4, c5⟩ := c _ g0
 have c5 := c5 rfl
 have ne : hh.objs.size ≠ e := Nat.ne_of_gt (Heap.lt_size g0)
 have k' : ∀ b u, b ≠ e -> hh.get? b = some u -> h'.get? b = some u := fun b u nb gb => k b u nb (fun o0 dx z1 z2 => by rw [g0] at z1; cases z1; cases z2) gb
 have g1' : h'.get? e = some { cls := .ref C, dict := some hh.objs.size, data := .fields #[.ref t0, .none, .none, .none, .bool false, .none] } := by
  obtain ⟨oc, od, odt, osl⟩ := o1
  have c1 : oc = .ref C := c1
  have c2 : odt = .fields #[.ref t0, .none, .none, .none, .bool false, .none] := c2
  have c3 : osl = #[] := c3
  have c5 : od = some hh.objs.size := c5
  rw [c1, c2, c3, c5] at g1
  exact g1
 obtain ⟨o2, f1, f2, f3, f4⟩ := I'
 rw [g1'] at f1
 cases f1
 obtain ⟨dx, e1, e2, hn⟩ : ∃ d, (some hh.objs.size : Option Addr) = some d /\ d ≠ e /\ h'.Ns1 d (fun z => if z = f then some u else none) := by
  rcases f4 with ⟨z, _⟩ | h
  ·cases z
  ·exact h
 cases e1
 have J := I2.write (x := e) (e := e) (o := ErX e C (some hh.objs.size)) (h' := h') (t' := tk') (by rw [he]; exact True.intro) (.inl rfl) k' ⟨_, g1'⟩ (xj4 g1') (Nat.lt_of_lt_of_le I2.tk ht)
 have hfr : H2 hh.objs.size = none := I2.fresh
 have J2 := Inv.track (a := hh.objs.size) (o := .xd [(f, y)]) I2 (Heap.get?_none_of_le (Nat.le_refl _)) J (by rw [B8 ne]; exact hfr) hex ⟨_, hn, fun f' => ?_⟩
 ·exact ⟨σ, _, J2, q2 _ hfr ne⟩
 ·show we7 ([(f, y)].lookup f') (if f' = f then some u else none)
  by_cases z : f' = f
  ·subst z; rw [if_pos rfl, List.lookup_cons_self]; exact ry
  ·rw [if_neg z, List.lookup_cons, show (f' == f) = false from beq_false_of_ne z]; exact True.intro
end
section
variable {K : Fg} {σ : St} {H : Hp} {Q : VK} {D : P4} {t : TA} {te ta tv : TE} {f c1 c2 : Str} {C : Addr} {E : XK} {sp : Sp}
theorem ys1 (h : t σ H fun vs H1 => ∃ e C od v, vs = [.ref e, v] /\ H1 e = some (ErX e C od) /\ wi7 K C = true /\ Q .non H1) : yr8 K t σ H Q := h
theorem ys3 (h : te σ H fun x H1 => ∃ i : Int, x = .int i /\ i.natAbs <= 1000 /\ Q (.str (c1 ++ Str.ofString (toString i) ++ c2)) H1) : yr5 c1 c2 te σ H Q := h
theorem ys4 (h : tv σ H fun y H1 => ta σ H1 fun x H2 => ∃ e C, x = .ref e /\ H2 e = some (ErX e C none) /\ SeI K C f /\ ∀ dx, H2 dx = none -> dx ≠ e -> D.nx σ (upd (upd H2 e (ErX e C (some dx))) dx (.xd [(f, y)]))) : yh5 K ta tv f D σ H := h
theorem wu2 (h : t σ H fun vs H1 => vs.length <= sizeLine /\ ∀ e, H1 e = none -> sp (.ref e :: vs) (upd H1 e (ErX e C none)) (fun v H2 => v = .non /\ ∃ od, H2 e = some (ErX e C od) /\ E (.ref C) od (rmv H2 e)) E0) : qu0 C E sp t D σ H := h
theorem xj5 (h : ta σ H fun x H1 => ∃ a C dx fs v, x = .ref a /\ H1 a = some (qy9 a C (some dx)) /\ H1 dx = some (.xd fs) /\ ExI K C f /\ fs.lookup f = some v /\ Q v H1) : ya2 K ta f σ H Q := h
end
end L2
namespace L2
open PySem PySem.Spec PyProof.Rows
section
variable {X : Cx}
def xj6 (K : Fg) : List V -> Hp -> VK -> Prop := fun xs H Q => ∃ (p : Addr) (js : List Int), xs = [.ref p] /\ SqL K H p (js.map V.int) /\ js ≠ [] /\ ∀ j : Int, j ∈ js -> (∀ i ∈ js, j <= i) -> Q (.int j) H
theorem xt4 (hc : X.calm = true) : Q9 X (.builtin "min") (xj6 X.K) := by
 intro pins s σ H xs us Q I r h
 obtain ⟨p, js, rfl, hq, hne, q⟩ := h
 obtain ⟨u, rfl, ru⟩ := qf3 r
 cases ru
 obtain ⟨its, rv, pl, hz⟩ := I.list hq
 obtain ⟨ps, rfl, e⟩ := xm9 rv
 have hl : s.heap.IsList p (intItems ps.toArray) := by
  have := pl.isList
  rw [show intItems ps.toArray = (ps.map (fun p => Value.int p.1 p.2)).toArray by unfold intItems; simp]
  exact this
 have hlen : 0 < ps.toArray.size := by
  rw [List.size_toArray]
  cases ps with
  | nil => exact absurd e.symm hne
  | cons _ _ => simp
 refine wpAny_with_toks (n := 1) I.tk (min_intList (I.ok.hd hc) hl hlen fun v h' tk hv hk ht => ?_)
 obtain ⟨t, rfl⟩ := intItems_at hv
 have b := argBest_lt (numAt ps.toArray) (ps.toArray.size - 1)
 have at_ : ∀ i, i < ps.length -> numAt ps.toArray i = (js[i]?).getD 0 := fun i hi => by
  unfold numAt
  rw [<- e, List.getElem?_map]
  simp
 have hjl : js.length = ps.length := by rw [<- e]; simp
 have hs : ps.toArray.size = ps.length := List.size_toArray ..
 rw [hs] at b hlen
 refine ⟨.int _, H, I.kept hk ht, ⟨_, rfl⟩, q _ ?_ fun i hi => ?_⟩
 ·rw [hs, at_ _ (by omega)]
  have : argBest (fun i j => decide (numAt ps.toArray i < numAt ps.toArray j)) (ps.length - 1) < js.length := by omega
  rw [List.getElem?_eq_getElem this]
  exact List.getElem_mem this
 ·obtain ⟨k, hk, rfl⟩ := List.getElem_of_mem hi
  have := b.2 k (by omega)
  rw [at_ k (by omega), List.getElem?_eq_getElem hk] at this
  rw [hs]
  exact this
theorem ys5 {H : Hp} {Q : VK} {K : Fg} {p : Addr} {js : List Int} (h : SqL K H p (js.map V.int)) (hne : js ≠ []) (q : ∀ j : Int, j ∈ js -> (∀ i ∈ js, j <= i) -> Q (.int j) H) : xj6 K [.ref p] H Q := ⟨p, js, rfl, h, hne, q⟩
end
end L2
namespace L2
open PySem PySem.Spec PyProof.Rows
def qc9 (K : Fg) : List V -> Hp -> VK -> Prop := fun xs H Q => xr9 K xs H Q \/
 ∃ (a C : Addr) (od : Option Addr) (y : V) (c : Value) (b : Bool), xs = [.ref a, y] /\ H a = some (qy9 a C od) /\ yh0 K C /\ (∀ u, G8 y u -> u = c) /\ PySem.W.kitOne K (.ref C) c = some b /\ Q (.bl b) H
theorem I0 {X : Cx} : Q9 X (.builtin "isinstance") (qc9 X.K) := by
 intro pins s σ H xs us Q I r h
 rcases h with h | ⟨a, C, od, y, c, b, rfl, ha, E, hu, e, q⟩
 ·exact V3 pins s σ H xs us Q I r h
 ·obtain ⟨u, w', rfl, r1, r2⟩ := xb9 r
  cases r1
  obtain rfl := hu _ r2
  obtain ⟨⟨o, e1, e2, _⟩, _, _⟩ := (show M9 X.prog X.w H s.heap a (qy9 a C od) from I.hok a _ ha)
  exact wpAny_with_toks (n := 1) I.tk (PySem.W.kia_one (xz6 E.z E.c) I.kIn ⟨o, e1, e2⟩ e (fun z => nomatch z) fun tk ht => ⟨.bl b, H, I.tok _ ht, rfl, q⟩)
section
variable {K : Fg} {H : Hp} {Q : VK} {a C D : Addr} {od : Option Addr} {b : Bool}
theorem qp8 (ha : H a = some (qy9 a C od)) (E : yh0 K C) (hc : qp7 K D) (h : PySem.W.subIn K (.ref C) (.ref D) = some b) (q : Q (.bl b) H) : qc9 K [.ref a, .ref D] H Q :=
 .inr ⟨a, C, od, .ref D, .ref D, b, rfl, ha, E, fun u r => r, yg9 E.s hc h, q⟩
theorem xn2 {xs : List V} (h : xr9 K xs H Q) : qc9 K xs H Q := .inl h
end
end L2
namespace L2
open PySem PySem.Spec PyProof.Rows PySem.SeqAt
end L2
namespace L2
open PySem PySem.Spec PyProof.Rows PySem.SeqAt
end L2
namespace L2
open PySem PySem.Spec PyProof.Rows Builtin Builtin.Str
noncomputable def xt5 (x y z : Str) : Str := if ((occurrences x y 0 x.length 1).isEmpty || (y.length == 0 && z.length == 0)) = true then x else glued z (partsBetween x (occurrences x y 0 x.length 1) y.length)
theorem xj7 (x y z : Str) (t u v k : Tok)
 (hf : ((occurrences x y 0 x.length 1).isEmpty || (y.length == 0 && z.length == 0)) = false ->
  (u == 0 || v == 0) = false /\ (u == v) = false /\ (y == z) = false /\ tooLong (x.length + (occurrences x y 0 x.length 1).length * z.length) = false) :
 Gives («str.replace» ⟨[.str x t, .str y u, .str z v, .int 1 k], []⟩) (if ((occurrences x y 0 x.length 1).isEmpty || (y.length == 0 && z.length == 0)) = true then .val (.str x t) else .str (glued z (partsBetween x (occurrences x y 0 x.length 1) y.length))) := by
 show Gives (if ((occurrences x y 0 x.length 1).isEmpty || (y.length == 0 && z.length == 0)) = true then (do rule "str.replace.nothing"; ret (.str x t)) else
  (do let same <- isSame (.str y u) (.str z v); if same = true then (do rule "str.replace.old-is-new"; ret (.str x t)) else if tooLong (x.length + (occurrences x y 0 x.length 1).length * z.length) = true then unsupported "str.replace:memory" else retStr (glued z (partsBetween x (occurrences x y 0 x.length 1) y.length)))) _
 cases hc : ((occurrences x y 0 x.length 1).isEmpty || (y.length == 0 && z.length == 0))
 ·obtain ⟨h0, huv, hyz, hl⟩ := hf hc
  rw [isSame_str_other y z u v h0 huv hyz, hl]
  exact .of_eq rfl
 ·exact .rule (.of_eq rfl)
theorem xt6 {prog : Program} {w : World} {A : Around} {E : Value -> Shared -> Prop} {s : Shared} {x y z : Str} {t u v k : Tok} {Q : Value -> Shared -> Prop} (hu : u ≠ 0) (hv : v ≠ 0) (huv : u ≠ v) (hyz : (y == z) = false) (hx : x.length <= 1048576) (hz : z.length <= 14)
 (hq : ∀ t' k, Q (.str (xt5 x y z) t') { s with toks := k }) : wpAny (model prog w) A (call (.builtin "str.replace") [.str x t, .str y u, .str z v, .int 1 k]) Q E s := by
 have h1 := StrLaws.occ_length_le x y 0 x.length 1
 have h2 : (occurrences x y 0 x.length 1).length * z.length <= 1 * z.length := Nat.mul_le_mul_right _ h1
 have hl : tooLong (x.length + (occurrences x y 0 x.length 1).length * z.length) = false := by
  unfold tooLong
  rw [sizeLine_eq]
  exact decide_eq_false (by omega)
 refine call_gives F.slot_str_replace (typeIs_str _ _ _) F.entry_str_replace (F.args_str_replace_4 _ _ _ _)
  (xj7 x y z t u v k fun _ => ⟨by simp [hu, hv], by simp [huv], hyz, hl⟩) ?_
 have hq' := hq
 unfold xt5 at hq'
 cases hc : ((occurrences x y 0 x.length 1).isEmpty || (y.length == 0 && z.length == 0))
 ·rw [hc] at hq'
  simp only [Bool.false_eq_true, if_false] at hq' ⊢
  refine ⟨?_, hq' _ _⟩
  rw [size_glued, length_partsBetween, Nat.add_sub_cancel, sizeLine_eq]
  have hs : ∀ (l : List (Nat × Nat)), ((l.map fun p => strSub x p.1 p.2).map Str.length).sum <= l.length * x.length := by
   intro l
   induction l with
   | nil => simp
   | cons p l ih =>
     have : (strSub x p.1 p.2).length <= x.length := by show (x.cps.extract p.1 p.2).size <= x.cps.size; rw [Array.size_extract]; omega
     simp only [List.map_cons, List.sum_cons, List.length_cons, Nat.add_mul]
     omega
  have h3 := hs ((0 :: (occurrences x y 0 x.length 1).map (· + y.length)).zip ((occurrences x y 0 x.length 1) ++ [x.length]))
  have h4 : ((0 :: (occurrences x y 0 x.length 1).map (· + y.length)).zip ((occurrences x y 0 x.length 1) ++ [x.length])).length <= 2 := by
   rw [List.length_zip, List.length_cons, List.length_map, List.length_append, List.length_singleton]; omega
  have h5 : ((0 :: (occurrences x y 0 x.length 1).map (· + y.length)).zip ((occurrences x y 0 x.length 1) ++ [x.length])).length * x.length <= 2 * x.length := Nat.mul_le_mul_right _ h4
  show ((partsBetween x (occurrences x y 0 x.length 1) y.length).map Str.length).sum + _ <= _
  have h6 : ((partsBetween x (occurrences x y 0 x.length 1) y.length).map Str.length).sum <= 2 * x.length := Nat.le_trans h3 h5
  omega
 ·rw [hc] at hq'
  simp only [if_true] at hq' ⊢
  exact hq' t s.toks
def xj8 (te : TE) (y z : Str) : TE := fun σ H Q => te σ H fun x H1 => ∃ a, x = .str a /\ a.length <= 1048576 /\ Q (.str (xt5 a y z)) H1
theorem ya3 {X : Cx} {o : Expr} {y z : Str} {j1 j2 j3 : Nat} {p1 p2 p3 apos cpos : Pos} {te : TE} (ho : PE X o te) (hz : autoParam (z.length <= 14) zAd) (hyz : autoParam ((y == z) = false) zAd)
 (hbase : autoParam (attributeBase o "replace" X.env (eval o X.env) = eval o X.env) zAr)
 (hfew : ((backTo cpos (starEach [.Constant (.str y) j1 p1, .Constant (.str z) j2 p2, .Constant (.int 1) j3 p3] X.env)).all (fun x => !x.1) && (backToKw cpos (keywordEach [] X.env)).all (fun x => x.1.isSome)
  && decide (([.Constant (.str y) j1 p1, .Constant (.str z) j2 p2, .Constant (.int 1) j3 p3] : List Expr).length + ([] : List Keyword).length + (if ([] : List Keyword).isEmpty then 0 else 1) < 30)) = true := by rfl)
 (hline : autoParam ((apos.endLine == cpos.line) = true) zAr) (hs : autoParam (starEach [.Constant (.str y) j1 p1, .Constant (.str z) j2 p2, .Constant (.int 1) j3 p3] X.env = [(false, eval (.Constant (.str y) j1 p1) X.env), (false, eval (.Constant (.str z) j2 p2) X.env), (false, eval (.Constant (.int 1) j3 p3) X.env)]) zAr) :
 PE X (.Call (.Attribute o "replace" apos) [.Constant (.str y) j1 p1, .Constant (.str z) j2 p2, .Constant (.int 1) j3 p3] [] cpos) (xj8 te y z) := by
 intro pins s σ H Q I h
 refine wpAny_Call_method_late hbase hfew hline rfl (thn (ho pins s σ H _ I h) fun v s1 zq => ?_)
 obtain ⟨x, H1, I1, r1, q1⟩ := zq
 obtain ⟨a, rfl, hl, q⟩ := q1
 obtain ⟨h1, h2⟩ := xv8 (T := "str") I1 r1 (show tyV X.K "str" (.str a) H1 from rfl)
 refine ⟨"str", "str.replace", PySem.F.plainAttrs_str, PySem.F.slot_str_replace, PySem.F.type_str_replace, h1, h2, ?_⟩
 obtain ⟨t, rfl⟩ := r1
 rw [hs]
 refine Calls.callWith_builtin rfl (Calls.evalArgs_plain ?_)
 refine Calls.spliced_cons (Calls.Constant_str (k := j1) (pos := p1) (Calls.spliced_cons (Calls.Constant_str (k := j2) (pos := p2) (Calls.spliced_cons ?_))))
 refine wpAny_Constant_int (k := j3) (pos := p3) (Calls.spliced_nil ?_)
 exact wpAny_with_toks (n := 1) (s := { s1 with toks := s1.toks + 1 + 1 + 1 }) (Nat.succ_pos _) (xt6 (Nat.ne_of_gt I1.tk) (Nat.succ_ne_zero _) (by show s1.toks ≠ s1.toks + 1; omega) hyz hl hz fun t' k ht => ⟨.str _, H1, I1.tok _ ht, ⟨_, rfl⟩, q⟩)
section
variable {K : Fg} {H : Hp} {Q : VK} {a C : Addr} {od : Option Addr} {b : Bool}
theorem yh6 {T : String} (ha : H a = some (qy9 a C od)) (E : yh0 K C) (hm : PySem.W.kitMeta T = true) (h : PySem.W.subIn K (.ref C) (.type T) = some b) (q : Q (.bl b) H) : qc9 K [.ref a, .ty T] H Q :=
 .inr ⟨a, C, od, .ty T, .type T, b, rfl, ha, E, fun u r => r, yr1 hm h, q⟩
end
end L2
local macro_rules | `(tactic| walk_at "or") => `(tactic| first | exact .inl rfl | exact .inr rfl)
local macro_rules | `(tactic| walk_at "le") => `(tactic| first | decide | omega)
local macro_rules | `(tactic| lk) => do
 let a <- ("qa7 qx7 qn7 ql0 E3 yp7 xx3 xi0 xm5 yl4 yp8 xm6 za8 yw8 yp9 yw9 yq0 yf5 V2 W6 xx4 xi1 yf6 xc7 yl5 xx5 wd8 yq1 yl6 xx6 wg4 qt2 wg5 wd9 yf7 xy0 yx9 yg1 xs3 yq9 yg2 yg3 yq2 yx1 yx2 yx3 yx4 yl9 xy3 xy4 yy0 za9 yf8".splitOn " ").toArray.mapM fun n => `(Lean.Parser.Tactic.tacticSeq| refine $(Lean.mkIdent (.str `L2 n)) ?_)
 `(tactic| (repeat (first | (with_reducible first $[| $a]*) | ((with_reducible refine' L2.S1 ?ev ?_); (case ev => exact rfl)) | ((with_reducible refine L2.yx0 ?ec ?_); (case ec => first | decide | omega | assumption)) | ((with_reducible refine L2.yq4 ?ec ?_); (case ec => first | exact ⟨by decide, by decide⟩ | exact ⟨by omega, by omega⟩)))))
local macro_rules | `(tactic| x_go) => `(tactic| refine L2.qx7 ?_)
local macro_rules | `(tactic| k_go) => `(tactic| refine L2.qn7 ?_)
namespace TX
open PySem PySem.StrLaws PySem.Builtin PySem.Builtin.Str
noncomputable def rep (Y Z : List Nat) : Nat -> List Nat -> List Nat
 | _, [] => []
 | k + 1, _ :: l => rep Y Z k l
 | 0, c :: l => if Y.isPrefixOf (c :: l) = true then Z ++ rep Y Z (Y.length - 1) l else c :: rep Y Z 0 l
end TX
namespace TX
open PySem
noncomputable def letter (c : Nat) : Bool := decide (97 <= c) && decide (c <= 122)
end TX
namespace My
open PySem L2 PyProof.Rows
set_option genInjectivity false in
structure Row where
 name : Str
 sort : Str
 host : Str
 shuts : List Str
 bars : List Str
noncomputable def Row.da (r : Row) : PyData := .tuple [.str r.name, .str r.sort, .str r.host, .tuple (sDa r.shuts), .tuple (sDa r.bars)]
noncomputable def oV : Option Str -> V
 | some s => .str s
 | none => .non
section
variable {K : Fg} {H H' : Hp} {Q : VK}
theorem V4 {r : Row} {v : V} (h : Dv K H r.da v) : ∃ b sv bv, v = .ref b /\ SqT K H b [.str r.name, .str r.sort, .str r.host, sv, bv] /\ Dv K H (.tuple (sDa r.shuts)) sv /\ Dv K H (.tuple (sDa r.bars)) bv := by
 obtain ⟨b, ys, rfl, hb, h⟩ := N0.mp h
 rw [Dvs] at h; obtain ⟨v1, r1, rfl, e1, h⟩ := h
 rw [Dvs] at h; obtain ⟨v2, r2, rfl, e2, h⟩ := h
 rw [Dvs] at h; obtain ⟨v3, r3, rfl, e3, h⟩ := h
 rw [Dvs] at h; obtain ⟨v4, r4, rfl, e4, h⟩ := h
 rw [Dvs] at h; obtain ⟨v5, r5, rfl, e5, h⟩ := h
 rw [Dvs] at h; subst h
 rw [R3.mp e1, R3.mp e2, R3.mp e3] at hb
 exact ⟨b, v4, v5, rfl, hb, e4, e5⟩
def Rws (K : Fg) (H : Hp) (v : V) (rs : List Row) : Prop := ∃ a vs, v = .ref a /\ (SqL K H a vs \/ SqT K H a vs) /\ Dvs K H (rs.map Row.da) vs
theorem ym2 {x : Str} {n : Option Str} (h : Q (.bl (decide (some x = n))) H) : O0 K (.str x) (oV n) H Q := by
 cases n with
 | none => refine xc8 rfl ?_; have e : (decide ((V.str x) = oV none)) = decide (some x = none) := by simp [oV]
           rw [e]; exact h
 | some y => refine xc8 rfl ?_; have e : (decide ((V.str x) = oV (some y))) = decide (some x = some y) := by simp [oV]
             rw [e]; exact h
theorem xy3 {x y : Str} (h : Q (.bl (decide (x = y))) H) : O0 K (.str x) (.str y) H Q := by
 refine xc8 rfl ?_
 have e : (decide ((V.str x) = V.str y)) = decide (x = y) := by simp
 rw [e]; exact h
theorem xy4 {x y : Str} (h : Q (.bl (!decide (x = y))) H) : qy1 K (.str x) (.str y) H Q := by
 refine yq5 rfl ?_
 have e : (decide ((V.str x) = V.str y)) = decide (x = y) := by simp
 rw [e]; exact h
theorem yl9 {x y : Int} (h : Q (.bl (decide (x = y))) H) : O0 K (.int x) (.int y) H Q := by
 refine xc8 rfl ?_
 have e : (decide ((V.int x) = V.int y)) = decide (x = y) := by simp
 rw [e]; exact h
end
noncomputable def R0 (rs : List Row) (n : Option Str) : Option Row := rs.find? fun r => decide (some r.name = n)
noncomputable def S2 (rs : List Row) (n : Option Str) : Option Str := (R0 rs n).map (·.sort)
noncomputable def N1 (rs : List Row) (n : Option Str) : Option Str := (R0 rs n).bind fun r => if r.sort = ("frame" : Str) then some r.host else none
noncomputable def frameOf (rs : List Row) (n : Option Str) : Option Str := (rs.find? fun r => decide (r.sort = ("frame" : Str)) && decide (some r.host = n)).map (·.name)
def S4 (K : Fg) : Sp := fun vs H Q _ => ∃ v n rs, vs = [v, oV n] /\ Rws K H v rs /\ (R0 rs n = none -> Q .non H) /\ ∀ r u, R0 rs n = some r -> Dv K H r.da u -> Q u H
theorem xj9 (K : Fg) : ∀ vs H Q E, S4 K vs H Q E -> vs.length = ["rows", "name"].length := by
 rintro vs H Q E ⟨v, n, rs, rfl, _⟩; rfl
def qu1 (K : Fg) : TS :=
 (C6 (qn6 (qh6 K (A7 0)) (B7 2)
 (M8 (E4 (tOp (O0 K) (tOp (E7 K) (A7 2) (tC (.int 0))) (A7 1)))
 (M0 (A7 2)) G7))
 (M0 (tC .non)))
theorem qb0 {α : Type} {p : α -> Bool} : ∀ {l : List α} {i : Nat} {x : α}, l[i]? = some x -> (∀ y ∈ l.take i, p y = false) -> p x = true -> l.find? p = some x
 | y :: l, 0, x, e, _, hp => by cases e; rw [List.find?_cons, hp]
 | y :: l, i + 1, x, e, h, hp => by
   have hy : p y = false := h y (by simp)
   rw [List.find?_cons, hy]
   exact qb0 (i := i) (by simpa using e) (fun z hz => h z (by simp [hz])) hp
theorem wi8 {α : Type} {P : α -> Prop} {l : List α} {i : Nat} {x : α} (e : l[i]? = some x) (h : ∀ y ∈ l.take i, P y) (hx : P x) : ∀ y ∈ l.take (i + 1), P y := by
 intro y hy
 rw [List.take_add_one, e] at hy
 rcases List.mem_append.mp hy with z | z
 ·exact h y z
 ·have : y = x := by simpa using z
  subst this; exact hx
theorem xt7 {K : Fg} {vs : List V} {H : Hp} {Q : VK} {E : XK} (h : S4 K vs H Q E) : qu1 K { nx := fun _ H' => Q .non H', rt := Q } (M2 ["rows", "name", "row"] vs) H := by
 obtain ⟨v, n, rs, rfl, ⟨a, xs, rfl, hq, hd⟩, h1, h2⟩ := h
 show qu1 K _ [some (.ref a), some (oV n), none] H
 have hlen : xs.length = rs.length := by have := hd.length; simpa using this
 unfold qu1
 refine qa7 (wg4 (wg5 (S1 rfl ?_)))
 refine xm4 hq (fun i σ H' => H' = H /\ (∃ w, σ = [some (.ref a), some (oV n), w]) /\ ∀ r ∈ rs.take i, decide (some r.name = n) = false) ⟨rfl, ⟨_, rfl⟩, by simp⟩ (fun hl i σ H' _ p => p.1 ▸ hl) (fun ht i σ H' _ p => p.1 ▸ ht) ?_ ?_
 ·rintro i x σ H' hx ⟨rfl, ⟨w, rfl⟩, hn⟩
  obtain ⟨d, hd1, hd2⟩ := hd.get' hx
  rw [List.getElem?_map] at hd1
  obtain ⟨r, hr, rfl⟩ := Option.map_eq_some_iff.mp hd1
  obtain ⟨b, sv, bv, rfl, hb, hsv, hbv⟩ := V4 hd2
  refine E3 (yl4 (xm6 (xx3 (xx3 (S1 rfl (yp7 (P8 hb rfl (S1 rfl (ym2 ⟨_, rfl, ?_⟩)))))))))
  by_cases e : some r.name = n
  ·rw [decide_eq_true e, if_pos rfl]
   refine ⟨_, rfl, ?_⟩
   exact h2 r _ (qb0 hr hn (decide_eq_true e)) hd2
  ·rw [decide_eq_false e, if_neg Bool.false_ne_true]
   exact wd8 ⟨rfl, ⟨_, rfl⟩, wi8 hr hn (decide_eq_false e)⟩
 ·rintro σ H' ⟨rfl, ⟨w, rfl⟩, hn⟩
  show Q .non H'
  refine h1 ?_
  unfold R0
  rw [List.find?_eq_none]
  intro r hr
  rw [hlen, List.take_length] at hn
  simp [hn r hr]
end My
namespace My
open PySem L2 PyProof.Rows
variable {K : Fg} {vs : List V} {H : Hp} {Q : VK} {E : XK}
def qb1 (K : Fg) : Sp := fun vs H Q _ => ∃ v n rs, vs = [v, oV n] /\ Rws K H v rs /\ Q (oV (S2 rs n)) H
theorem xe0 (K : Fg) : ∀ vs H Q E, qb1 K vs H Q E -> vs.length = ["book", "name"].length := by rintro vs H Q E ⟨v, n, rs, rfl, _⟩; rfl
def qz0 (K : Fg) : TS :=
 (C6 (G0 (C8 (S4 K) [] E0 (A6 (A7 0) (A6 (A7 1) B6))) (B7 2))
 (M0 (tIf (E4 (tOp xc6 (A7 2) (tC .non))) (tC .non) (tOp (E7 K) (A7 2) (tC (.int 1))))))
theorem xk0 (h : qb1 K vs H Q E) : qz0 K { nx := fun _ H' => Q .non H', rt := Q } (M2 ["book", "name", "row"] vs) H := by
 obtain ⟨v, n, rs, rfl, hR, q⟩ := h
 show qz0 K _ [some v, some (oV n), none] H
 refine ⟨_, rfl, _, rfl, v, n, rs, rfl, hR, fun e => ?_, fun r u e hu => ?_⟩
 ·refine ⟨_, rfl, rfl, _, rfl, ?_⟩
  show Q .non H
  have : S2 rs n = none := by unfold S2; rw [e]; rfl
  rw [this] at q; exact q
 ·obtain ⟨b, sv, bv, rfl, hb, _, _⟩ := V4 hu
  refine ⟨_, rfl, rfl, _, rfl, ?_⟩
  show (if decide (V.ref b = V.non) = true then _ else _)
  rw [decide_eq_false (by simp)]; refine qn7 ?_
  refine ⟨_, rfl, P8 hb rfl ?_⟩
  have : S2 rs n = some r.sort := by unfold S2; rw [e]; rfl
  rw [this] at q; exact q
def qb2 (K : Fg) : Sp := fun vs H Q _ => ∃ v n rs, vs = [v, oV n] /\ Rws K H v rs /\ Q (oV (N1 rs n)) H
theorem xe1 (K : Fg) : ∀ vs H Q E, qb2 K vs H Q E -> vs.length = ["book", "name"].length := by rintro vs H Q E ⟨v, n, rs, rfl, _⟩; rfl
def qz1 (K : Fg) : TS :=
 (C6 (G0 (C8 (S4 K) [] E0 (A6 (A7 0) (A6 (A7 1) B6))) (B7 2))
 (C6 (M8 (tOr (E4 (tOp xc6 (A7 2) (tC .non))) (E4 (tOp (qy1 K) (tOp (E7 K) (A7 2) (tC (.int 1))) (tC (.str ("frame" : Str))))))
 (M0 (tC .non)) G7)
 (M0 (tOp (E7 K) (A7 2) (tC (.int 2))))))
theorem xk1 (h : qb2 K vs H Q E) : qz1 K { nx := fun _ H' => Q .non H', rt := Q } (M2 ["book", "name", "row"] vs) H := by
 obtain ⟨v, n, rs, rfl, hR, q⟩ := h
 show qz1 K _ [some v, some (oV n), none] H
 refine ⟨_, rfl, _, rfl, v, n, rs, rfl, hR, fun e => ?_, fun r u e hu => ?_⟩
 ·refine ⟨_, rfl, rfl, _, rfl, ?_⟩
  show Q .non H
  have : N1 rs n = none := by unfold N1; rw [e]; rfl
  rw [this] at q; exact q
 ·obtain ⟨b, sv, bv, rfl, hb, _, _⟩ := V4 hu
  refine ⟨_, rfl, rfl, _, rfl, ?_⟩
  show (if decide (V.ref b = V.non) = true then _ else _)
  rw [decide_eq_false (by simp)]; refine qn7 ?_
  refine ⟨_, rfl, P8 hb rfl (xy4 ⟨_, rfl, ?_⟩)⟩
  by_cases hs : r.sort = ("frame" : Str)
  ·rw [decide_eq_true hs, Bool.not_true]; refine qn7 ?_
   refine ⟨_, rfl, P8 hb rfl ?_⟩
   have : N1 rs n = some r.host := by unfold N1; rw [e]; show (if r.sort = ("frame" : Str) then some r.host else none) = _; rw [if_pos hs]
   rw [this] at q; exact q
  ·rw [decide_eq_false hs, Bool.not_false]; refine qx7 ?_
   show Q .non H
   have : N1 rs n = none := by unfold N1; rw [e]; show (if r.sort = ("frame" : Str) then some r.host else none) = _; rw [if_neg hs]
   rw [this] at q; exact q
def S5 (K : Fg) : Sp := fun vs H Q _ => ∃ v n rs, vs = [v, oV n] /\ Rws K H v rs /\ Q (oV (frameOf rs n)) H
theorem wx3 (K : Fg) : ∀ vs H Q E, S5 K vs H Q E -> vs.length = ["book", "name"].length := by rintro vs H Q E ⟨v, n, rs, rfl, _⟩; rfl
def qp9 (K : Fg) : TS :=
 (C6 (qn6 (qh6 K (A7 0)) (B7 2)
 (M8 (yd8 (E4 (tOp (O0 K) (tOp (E7 K) (A7 2) (tC (.int 1))) (tC (.str ("frame" : Str))))) (E4 (tOp (O0 K) (tOp (E7 K) (A7 2) (tC (.int 2))) (A7 1))))
 (M0 (tOp (E7 K) (A7 2) (tC (.int 0)))) G7))
 (M0 (tC .non)))
theorem xe2 (h : S5 K vs H Q E) : qp9 K { nx := fun _ H' => Q .non H', rt := Q } (M2 ["book", "name", "row"] vs) H := by
 obtain ⟨v, n, rs, rfl, ⟨a, xs, rfl, hq, hd⟩, q⟩ := h
 show qp9 K _ [some (.ref a), some (oV n), none] H
 have hlen : xs.length = rs.length := by have := hd.length; simpa using this
 refine ⟨_, rfl, xm4 hq (fun i σ H' => H' = H /\ (∃ w, σ = [some (.ref a), some (oV n), w]) /\ ∀ r ∈ rs.take i, (decide (r.sort = ("frame" : Str)) && decide (some r.host = n)) = false) ⟨rfl, ⟨_, rfl⟩, by simp⟩ (fun hl i σ H' _ p => p.1 ▸ hl) (fun ht i σ H' _ p => p.1 ▸ ht) ?_ ?_⟩
 ·rintro i x σ H' hx ⟨rfl, ⟨w, rfl⟩, hn⟩
  obtain ⟨d, hd1, hd2⟩ := hd.get' hx
  rw [List.getElem?_map] at hd1
  obtain ⟨r, hr, rfl⟩ := Option.map_eq_some_iff.mp hd1
  obtain ⟨b, sv, bv, rfl, hb, hsv, hbv⟩ := V4 hd2
  refine ⟨_, rfl, P8 hb rfl (xy3 ⟨_, rfl, ?_⟩)⟩
  by_cases hs : r.sort = ("frame" : Str)
  ·rw [decide_eq_true hs]; refine qx7 ?_
   refine ⟨_, rfl, P8 hb rfl ⟨_, rfl, ym2 ⟨_, rfl, ?_⟩⟩⟩
   by_cases e : some r.host = n
   ·rw [decide_eq_true e]; refine qx7 ?_
    refine ⟨_, rfl, P8 hb rfl ?_⟩
    have : frameOf rs n = some r.name := by
     unfold frameOf
     rw [qb0 hr hn (by rw [decide_eq_true hs, decide_eq_true e]; rfl)]; rfl
    rw [this] at q; exact q
   ·rw [decide_eq_false e]; refine qn7 ?_
    exact ⟨rfl, ⟨_, rfl⟩, wi8 hr hn (by rw [decide_eq_false e, Bool.and_false])⟩
  ·rw [decide_eq_false hs]; refine qn7 ?_
   k_go
   exact ⟨rfl, ⟨_, rfl⟩, wi8 hr hn (by rw [decide_eq_false hs, Bool.false_and])⟩
 ·rintro σ H' ⟨rfl, ⟨w, rfl⟩, hn⟩
  show Q .non H'
  have : frameOf rs n = none := by
   unfold frameOf
   rw [List.find?_eq_none.mpr]
   ·rfl
   ·intro r hr
    rw [hlen, List.take_length] at hn
    rw [hn r hr]; exact Bool.false_ne_true
  rw [this] at q; exact q
end My
namespace My
open PySem L2
variable {K : Fg} {vs : List V} {H : Hp} {Q : VK} {E : XK}
def E9 (K : Fg) : Sp := fun vs H Q _ => ∃ (a : Addr) (ns : List Int) (k : Int), vs = [.ref a, .int k] /\ SqL K H a (ns.map V.int) /\ 0 <= k /\ ∀ n : Int, Q (.int n) H
theorem qz2 (K : Fg) : ∀ vs H Q E, E9 K vs H Q E -> vs.length = ["_law_script", "_law_k"].length := by rintro vs H Q E ⟨v, n, rs, rfl, _⟩; rfl
def T3 (K : Fg) : TS :=
 (C6 (M8 (E4 (tOp xh6 (A7 1) (tCB (N4 K) (A6 (A7 0) B6))))
 (M0 (tOp (E7 K) (A7 0) (A7 1))) G7)
 (M0 (tC (.int 0))))
theorem wd2 (h : E9 K vs H Q E) : T3 K { nx := fun _ H' => Q .non H', rt := Q } (M2 ["_law_script", "_law_k"] vs) H := by
 obtain ⟨a, ns, k, rfl, hS, h0, q⟩ := h
 show T3 K _ [some (.ref a), some (.int k)] H
 unfold T3
 lk
 refine O8 (.inl hS) ?_
 lk
 rw [List.length_map]
 by_cases hk : k < (ns.length : Int)
 ·rw [decide_eq_true hk]; refine qx7 ?_
  have hk' : k.toNat < ns.length := by omega
  lk
  refine L8 hS (v := .int ns[k.toNat]) ?_ (q _)
  have ek : k = ((k.toNat : Nat) : Int) := by omega
  have e : atI (ns.map V.int) ((k.toNat : Nat) : Int) = some (.int ns[k.toNat]) := D7 (by rw [List.getElem?_map, List.getElem?_eq_getElem hk'] <;> rfl)
  rw [<- ek] at e
  exact e
 ·rw [decide_eq_false hk]; refine qn7 ?_
  exact q 0
def S6 (K : Fg) : Sp := fun vs H Q _ => ∃ c : Int, vs = [.int c] /\ ∀ (p : Addr) (n : Int), H p = none -> Q (.ref p) (upd H p (.lst [.int n]))
theorem wx4 (K : Fg) : ∀ vs H Q E, S6 K vs H Q E -> vs.length = ["_law_cell"].length := by rintro vs H Q E ⟨c, rfl, _⟩; rfl
def qi0 (K : Fg) : TS :=
 (C6 (M8 (E4 (tOp (O0 K) (tOp (rI (fun _ j => 0 < j) fun i j => .int (i % j)) (A7 0) (tC (.int 2))) (tC (.int 0))))
 (M0 (O5 (A6 (tOp (rI qg8 fun i j => .int (i / j)) (A7 0) (tC (.int 2))) B6))) G7)
 (C6 (G0 (tC (.int 0)) (B7 1))
 (C6 (qn6 (qf2 (A6 (tC (.int 8)) B6)) (B7 2)
 (C6 (G0 (tOp (rI (fun _ j => 0 < j) fun i j => .int (i % j)) (tOp qo3 (tOp (L7 K) (tOp (L7 K) (tOp (rI (fun _ j => 0 < j) fun i j => .int (i % j)) (tOp (rI qg8 fun i j => .int (i / j)) (A7 0) (tC (.int 2))) (tC (.int 2147483629))) (tOp qo3 (tC (.int 7919)) (A7 2))) (tC (.int 1))) (tC (.int 48271))) (tC (.int 2147483647))) (B7 3))
 (C6 (G0 (tOp (rI (fun _ j => 0 < j) fun i j => .int (i % j)) (tOp (L7 K) (tOp (L7 K) (tOp qo3 (A7 3) (A7 3)) (tOp qo3 (tC (.int 69621)) (A7 2))) (tC (.int 7))) (tC (.int 2147483587))) (B7 3))
 (G0 (tOp (L7 K) (tOp qo3 (A7 1) (tC (.int 2147483587))) (A7 3)) (B7 1)))))
 (M0 (O5 (A6 (A7 1) B6))))))
theorem xe3 (h : S6 K vs H Q E) : qi0 K { nx := fun _ H' => Q .non H', rt := Q } (M2 ["_law_cell", "_law_number", "_law_j", "_law_more"] vs) H := by
 obtain ⟨c, rfl, q⟩ := h
 show qi0 K _ [some (.int c), none, none, none] H
 unfold qi0
 lk
 have one : (1 : Nat) <= sizeLine := by rw [sizeLine_eq]; decide
 by_cases e : c % 2 = 0
 ·rw [decide_eq_true e]; refine qx7 ?_
  lk
  exact ⟨one, fun p hp => q p _ hp⟩
 ·rw [decide_eq_false e]; refine qn7 ?_
  lk
  refine qt1 (n := 8) (by decide) (by decide) (fun i σ H' => H' = H /\ ∃ n a b, σ = [some (.int c), some (.int n), a, b]) ⟨rfl, 0, none, none, rfl⟩ ?_ ?_
  ·rintro i σ H' hi ⟨rfl, n, a, b, rfl⟩
   lk
   refine wg6 (.inl ⟨by decide, by decide⟩) ?_
   lk
   refine wg6 (.inr ⟨by decide, by decide⟩) ?_
   lk
   generalize hm : (c / 2 % 2147483629 + 7919 * (i : Int) + 1) * 48271 % 2147483647 = m
   have m0 : 0 <= m := by rw [<- hm]; exact Int.emod_nonneg _ (by decide)
   have m1 : m < 2147483647 := by rw [<- hm]; exact Int.emod_lt_of_pos _ (by decide)
   refine wg6 (.inl ⟨by omega, by omega⟩) ?_
   lk
   refine wg6 (.inl ⟨by decide, by decide⟩) ?_
   lk
   refine wg6 (.inr ⟨by decide, by decide⟩) ?_
   lk
   exact ⟨rfl, _, _, _, rfl⟩
  ·rintro σ H' ⟨rfl, n, a, b, rfl⟩
   lk
   exact ⟨one, fun p hp => q p _ hp⟩
def G6 (K : Fg) : Sp := fun vs H Q _ => ∃ (p : Addr) (m n : Int), vs = [.ref p, .int m] /\ H p = some (.lst [.int n]) /\ 0 < m /\ m < 1073741824 /\ ∀ r n' : Int, 0 <= r -> r < m -> Q (.int r) (upd H p (.lst [.int n']))
theorem wo0 (K : Fg) : ∀ vs H Q E, G6 K vs H Q E -> vs.length = ["_law_pot_here", "_law_most"].length := by rintro vs H Q E ⟨p, m, n, rfl, _⟩; rfl
def qd0 (K : Fg) : TS :=
 (C6 (G0 (tOp (rI (fun _ j => 0 < j) fun i j => .int (i % j)) (tOp (E7 K) (A7 0) (tC (.int 0))) (A7 1)) (B7 2))
 (C6 (G0 (tOp (rI qg8 fun i j => .int (i / j)) (tOp (E7 K) (A7 0) (tC (.int 0))) (A7 1)) (wf2 (A7 0) (tC (.int 0)) qo6))
 (M0 (A7 2))))
theorem wx5 (h : G6 K vs H Q E) : qd0 K { nx := fun _ H' => Q .non H', rt := Q } (M2 ["_law_pot_here", "_law_most", "_law_number"] vs) H := by
 obtain ⟨p, m, n, rfl, hp, h0, h1, q⟩ := h
 show qd0 K _ [some (.ref p), some (.int m), none] H
 unfold qd0
 lk
 refine L8 (SqL.of hp) (v := .int n) rfl ?_
 lk
 refine L8 (SqL.of hp) (v := .int n) rfl ?_
 lk
 refine .inl (qy3 hp (j := 0) rfl ?_)
 lk
 exact (q _ _ (Int.emod_nonneg _ (by omega)) (Int.emod_lt_of_pos _ h0))
structure qi1 (ys xs : List Str) : Prop where
 sub : ∃ zs, zs.Sublist xs /\ ys.Perm zs
 rise : PyProof.Rows.sortedS ys = true
theorem qi1.mem {ys xs : List Str} (h : qi1 ys xs) {y : Str} (hy : y ∈ ys) : y ∈ xs := by
 obtain ⟨zs, s, p⟩ := h.sub
 exact s.subset (p.mem_iff.mp hy)
theorem qi1.nodup {ys xs : List Str} (h : qi1 ys xs) (hx : xs.Nodup) : ys.Nodup := by
 obtain ⟨zs, s, p⟩ := h.sub
 exact p.nodup_iff.mpr (hx.sublist s)
def O3 (K : Fg) : Sp := fun vs H Q _ => ∃ (p a : Addr) (n : Int) (xs : List Str), vs = [.ref p, .ref a] /\ H p = some (.lst [.int n]) /\ SqL K H a (B2 xs) /\ xs.length < 64 /\ p ≠ a /\
 ∀ (t : Addr) (ys : List Str) (n' : Int) (H' : Hp), qi1 ys xs -> But [p] H H' -> H' p = some (.lst [.int n']) -> H' t = some (.tup (B2 ys)) -> Q (.ref t) H'
theorem wo1 (K : Fg) : ∀ vs H Q E, O3 K vs H Q E -> vs.length = ["_law_pot_here", "_law_names_here"].length := by rintro vs H Q E ⟨p, a, n, xs, rfl, _⟩; rfl
def qd1 (K : Fg) : TS :=
 (M0 (tCB (qn1 K) (A6 (tCB (qs9 K) (A6 (P7 [some 0, none] (qh6 K (A7 1)) (B7 1) (E4 (tOp (O0 K) (C8 (G6 K) [] E0 (A6 (A7 0) (A6 (tC (.int 4)) B6))) (tC (.int 1)))) (A7 1)) B6)) B6)))
theorem T4 {xs : List Str} {i : Nat} {x : V} (h : (B2 xs)[i]? = some x) : ∃ y, xs[i]? = some y /\ x = .str y := by
 unfold B2 at h
 rw [List.getElem?_map] at h
 obtain ⟨y, hy, e⟩ := Option.map_eq_some_iff.mp h
 exact ⟨y, hy, e.symm⟩
theorem C1 (xs : List Str) : (B2 xs).length = xs.length := List.length_map _
theorem L9 {n : Nat} (h : n <= 1000) : n <= sizeLine := Nat.le_of_lt (xr0 h)
theorem wx6 (h : O3 K vs H Q E) : qd1 K { nx := fun _ H' => Q .non H', rt := Q } (M2 ["_law_pot_here", "_law_names_here"] vs) H := by
 obtain ⟨p, a, n, xs, rfl, hp, ha, hx, hpa, q⟩ := h
 show qd1 K _ [some (.ref p), some (.ref a)] H
 unfold qd1
 lk
 refine qa5 (xs := B2 xs) ha (fun i ys H' => But [p] H H' /\ (∃ n', H' p = some (.lst [.int n'])) /\ ∃ zs, ys = B2 zs /\ zs.Sublist (xs.take i)) ⟨But.refl _ _, ⟨n, hp⟩, [], rfl, List.nil_sublist _⟩ ?_ ?_ ?_ ?_
 ·rintro i ys H' hi ⟨_, _, zs, rfl, hz⟩
  rw [C1]
  have := hz.length_le
  rw [List.length_take] at this
  exact L9 (by omega)
 ·rintro i ys H' hi ⟨hb, _⟩
  exact L2.But.sqL hb (by simpa using hpa.symm) ha
 ·rintro i x ys H' hx' ⟨hb, ⟨n', hp'⟩, zs, rfl, hz⟩
  obtain ⟨y, hy, rfl⟩ := T4 hx'
  lk
  refine ⟨p, 4, n', rfl, hp', by decide, by decide, fun r n2 _ _ => ?_⟩
  lk
  have b2 : But [p] H (upd H' p (.lst [.int n2])) := hb.trans (But.upd (by simp) _)
  have s2 : zs.Sublist (xs.take (i + 1)) := hz.trans (by rw [List.take_add_one]; exact List.sublist_append_left _ _)
  by_cases e : r = 1
  ·rw [decide_eq_true e]; refine qx7 ?_
   lk
   refine ⟨b2, ⟨n2, A8⟩, zs ++ [y], by simp [B2], ?_⟩
   rw [List.take_add_one, hy]
   exact hz.append (List.Sublist.refl _)
  ·rw [decide_eq_false e]; refine qn7 ?_
   exact ⟨b2, ⟨n2, A8⟩, zs, rfl, s2⟩
 ·rintro ys H' ⟨hb, ⟨n', hp'⟩, zs, rfl, hz⟩ l hl
  rw [C1, List.take_length] at hz
  lk
  refine ⟨l, zs, rfl, SqL.of A8, ?_, fun l2 ys' hperm hsort hl2 => ?_⟩
  ·have := hz.length_le; omega
  ·lk
   refine ⟨l2, _, rfl, .inl ⟨SqL.of A8, fun t ht => ?_⟩⟩
   have pl : p ≠ l := D8 hp' hl
   have h1 : (upd H' l (.lst (B2 zs))) p = some (.lst [.int n']) := by rw [B8 pl]; exact hp'
   have pl2 : p ≠ l2 := D8 h1 hl2
   have h2 : (upd (upd H' l (.lst (B2 zs))) l2 (.lst (B2 ys'))) p = some (.lst [.int n']) := by rw [B8 pl2]; exact h1
   have pt : p ≠ t := D8 h2 ht
   exact q t ys' n' _ ⟨⟨zs, hz, hperm⟩, hsort⟩ (L2.But.new (L2.But.new (L2.But.new hb hl _) hl2 _) ht _) (by rw [B8 pt]; exact h2) A8
end My
namespace My
open PySem L2
noncomputable def ch (c : Nat) : Str := ⟨#[c]⟩
noncomputable def Lt : Str := "abcdefghijklmnopqrstuvwxyz"
theorem T5 {x y : Str} (h : x.cps.toList = y.cps.toList) : x = y := by
 obtain ⟨a⟩ := x
 obtain ⟨b⟩ := y
 exact congrArg Str.mk (Array.toList_inj.mp h)
theorem ys6 : ∀ j : Nat, j < 26 -> Lt.cps.toList[j]? = some (97 + j) := by decide +kernel
theorem ys7 : Lt.length = 26 := by decide +kernel
theorem ya4 {i : Int} (h0 : 0 <= i) (h1 : i < 26) : atI Lt.cps.toList i = some (97 + i.toNat) := by
 have e : i = ((i.toNat : Nat) : Int) := by omega
 have q : atI Lt.cps.toList ((i.toNat : Nat) : Int) = some (97 + i.toNat) := D7 (ys6 _ (by omega))
 rw [<- e] at q
 exact q
theorem ys8 : ∀ c : Nat, c < 26 -> Builtin.Str.occurrences Lt (ch (97 + c)) 0 Lt.length 1 = [c] := by decide +kernel
theorem yh7 : ∀ bs : List Nat, (PySem.Txt.join ("" : Str) (bs.map ch)).cps.toList = bs := by
 intro bs
 have e : PySem.Txt.join ("" : Str) (bs.map ch) = Str.join ("" : Str) (bs.map ch) := PySem.StrLaws.glued_eq_join _ _
 rw [e]
 induction bs with
 | nil => rfl
 | cons b r ih =>
   cases r with
   | nil => rfl
   | cons c r =>
     show ((ch b ++ ("" : Str) ++ Str.join ("" : Str) ((c :: r).map ch)).cps).toList = _
     have ih := ih (PySem.StrLaws.glued_eq_join _ _)
     show ((ch b).cps ++ ("" : Str).cps ++ (Str.join ("" : Str) ((c :: r).map ch)).cps).toList = _
     rw [Array.toList_append, Array.toList_append, ih]
     rfl
theorem ys9 {c : Nat} {n : Int} (h : 1 <= n) : (PySem.Txt.mul (ch c) n).cps.toList = List.replicate n.toNat c := by
 unfold PySem.Txt.mul
 rw [if_neg (by omega)]
 have f : ∀ (k : Nat) (acc : Array Nat), ((List.replicate k #[c]).foldl (· ++ ·) acc).toList = acc.toList ++ List.replicate k c := by
  intro k
  induction k with
  | zero => intro acc; simp
  | succ k ih => intro acc; rw [List.replicate_succ, List.foldl_cons, ih]; simp [List.replicate_succ]
 by_cases h1 : n = 1
 ·subst h1; rfl
 ·have e : (n == 1 || (ch c).length == 0) = false := by
   have : (n == 1) = false := by simpa using h1
   rw [this]; rfl
  rw [e, if_neg Bool.false_ne_true]
  have := f n.toNat #[]
  show (List.foldl (fun x1 x2 => x1 ++ x2) #[] (List.replicate n.toNat #[c])).toList = _
  simpa using this
structure ql4 (x : Str) : Prop where
 one : 1 <= x.length
 eight : x.length <= 8
 low : ∀ c ∈ x.cps.toList, 97 <= c /\ c <= 122
 noS : x ≠ ("shuts" : Str)
 noB : x ≠ ("bars" : Str)
noncomputable def nmA (f : Int) (k : Nat) : Str := ⟨(List.replicate (1 + k % 8) (97 + ((f + (k / 8 : Nat)) % 26).toNat)).toArray⟩
theorem yt0 (f : Int) (k : Nat) : ql4 (nmA f k) := by
 have h1 : ((f + (k / 8 : Nat)) % 26) < 26 := Int.emod_lt_of_pos _ (by decide)
 have h0 : 0 <= ((f + (k / 8 : Nat)) % 26) := Int.emod_nonneg _ (by decide)
 generalize hc : 97 + ((f + (k / 8 : Nat)) % 26).toNat = c at *
 have e : (nmA f k).cps.toList = List.replicate (1 + k % 8) c := by unfold nmA; rw [hc]
 have el : (nmA f k).length = 1 + k % 8 := by show (nmA f k).cps.size = _; rw [<- Array.length_toList, e, List.length_replicate]
 refine ⟨by omega, by omega, fun d hd => ?_, fun z => ?_, fun z => ?_⟩
 ·rw [e] at hd
  rw [List.eq_of_mem_replicate hd]; omega
 ·have : ("shuts" : Str).cps.toList = List.replicate (1 + k % 8) c := by rw [<- z, e]
  have a : ∀ d ∈ ("shuts" : Str).cps.toList, d = c := fun d hd => by rw [this] at hd; exact List.eq_of_mem_replicate hd
  have h1 := a 115 (by decide +kernel)
  have h2 := a 104 (by decide +kernel)
  omega
 ·have : ("bars" : Str).cps.toList = List.replicate (1 + k % 8) c := by rw [<- z, e]
  have a : ∀ d ∈ ("bars" : Str).cps.toList, d = c := fun d hd => by rw [this] at hd; exact List.eq_of_mem_replicate hd
  have h1 := a 98 (by decide +kernel)
  have h2 := a 97 (by decide +kernel)
  omega
theorem qj7 {α : Type} (f : Nat -> α) (m : Nat) (h : ∀ i j, i < m -> j < m -> f i = f j -> i = j) : ((List.range m).map f).Nodup := by
 induction m with
 | zero => simp
 | succ m ih =>
   rw [List.range_succ, List.map_append, List.nodup_append]
   refine ⟨ih fun i j hi hj => h i j (by omega) (by omega), by simp, fun a ha b hb => ?_⟩
   obtain ⟨i, hi, rfl⟩ := List.mem_map.mp ha
   have hb : b = f m := by simpa using hb
   subst hb
   intro z
   have hi := List.mem_range.mp hi
   have := h i m (by omega) (by omega) z
   omega
theorem yh8 {f : Int} {i j : Nat} (hi : i < 26) (hj : j < 26) (h : nmA f i = nmA f j) : i = j := by
 have e : List.replicate (1 + i % 8) (97 + ((f + (i / 8 : Nat)) % 26).toNat) = List.replicate (1 + j % 8) (97 + ((f + (j / 8 : Nat)) % 26).toNat) := by
  have := congrArg (fun s : Str => s.cps.toList) h
  simpa [nmA] using this
 have l : 1 + i % 8 = 1 + j % 8 := by have := congrArg List.length e; simpa using this
 have c : 97 + ((f + (i / 8 : Nat)) % 26).toNat = 97 + ((f + (j / 8 : Nat)) % 26).toNat := by
  have hm : (97 + ((f + (i / 8 : Nat)) % 26).toNat) ∈ List.replicate (1 + j % 8) (97 + ((f + (j / 8 : Nat)) % 26).toNat) := by
   rw [<- e]; exact List.mem_replicate.mpr ⟨by omega, rfl⟩
  exact List.eq_of_mem_replicate hm
 have a1 : 0 <= ((f + (i / 8 : Nat)) % 26) := Int.emod_nonneg _ (by decide)
 have a2 : 0 <= ((f + (j / 8 : Nat)) % 26) := Int.emod_nonneg _ (by decide)
 omega
noncomputable def nm0 (bs : List Nat) (th : Nat) (a : Int) (k : Nat) : List Nat := bs.set th (97 + ((a + k) % 26).toNat)
noncomputable def wx7 (x : Str) : Str := if x = ("shuts" : Str) \/ x = ("bars" : Str) then x ++ ("x" : Str) else x
noncomputable def nmB (bs : List Nat) (th : Nat) (a : Int) (k : Nat) : Str := wx7 ⟨(nm0 bs th a k).toArray⟩
theorem ya5 {x y : Str} (hl : x.length = y.length) (h : wx7 x = wx7 y) : x = y := by
 unfold wx7 at h
 have app : ∀ z : Str, (z ++ ("x" : Str)).length = z.length + 1 := fun z => by show (z.cps ++ ("x" : Str).cps).size = _; rw [Array.size_append]; rfl
 split at h <;> split at h
 ·have e := congrArg (fun s : Str => s.cps.toList) h
  have e : (x.cps ++ ("x" : Str).cps).toList = (y.cps ++ ("x" : Str).cps).toList := e
  rw [Array.toList_append, Array.toList_append] at e
  exact T5 (List.append_cancel_right e)
 ·have := congrArg Str.length h; rw [app] at this; omega
 ·have := congrArg Str.length h; rw [app] at this; omega
 ·exact h
theorem yh9 {bs : List Nat} {th : Nat} {a : Int} (ht : th < bs.length) {i j : Nat} (hi : i < 26) (hj : j < 26) (h : nmB bs th a i = nmB bs th a j) : i = j := by
 have e := ya5 (by show (nm0 bs th a i).toArray.size = (nm0 bs th a j).toArray.size; simp [nm0]) h
 have e : nm0 bs th a i = nm0 bs th a j := by have := congrArg (fun s : Str => s.cps.toList) e; simpa using this
 have e : (bs.set th (97 + ((a + i) % 26).toNat))[th]? = (bs.set th (97 + ((a + j) % 26).toNat))[th]? := congrArg (fun l => l[th]?) e
 rw [List.getElem?_set_self ht, List.getElem?_set_self ht] at e
 have e := Option.some.inj e
 have a1 : 0 <= ((a + i) % 26) := Int.emod_nonneg _ (by decide)
 have a2 : 0 <= ((a + j) % 26) := Int.emod_nonneg _ (by decide)
 omega
theorem yt1 {bs : List Nat} {th : Nat} {a : Int} {k : Nat} (h1 : 1 <= bs.length) (h8 : bs.length <= 8) (hb : ∀ c ∈ bs, 97 <= c /\ c <= 122) : ql4 (nmB bs th a k) := by
 have c1 : ((a + k) % 26) < 26 := Int.emod_lt_of_pos _ (by decide)
 have c0 : 0 <= ((a + k) % 26) := Int.emod_nonneg _ (by decide)
 have low : ∀ c ∈ nm0 bs th a k, 97 <= c /\ c <= 122 := fun c hc => by
  rcases List.mem_or_eq_of_mem_set hc with h | h
  ·exact hb c h
  ·subst h; omega
 have len : (nm0 bs th a k).length = bs.length := by simp [nm0]
 unfold nmB
 generalize nm0 bs th a k = cs at *
 unfold wx7
 split
 ·rename_i h
  rcases h with h | h
  ·rw [h]
   exact ⟨by decide +kernel, by decide +kernel, by decide +kernel, by decide +kernel, by decide +kernel⟩
  ·rw [h]
   exact ⟨by decide +kernel, by decide +kernel, by decide +kernel, by decide +kernel, by decide +kernel⟩
 ·rename_i h
  refine ⟨?_, ?_, fun c hc => low c (by simpa using hc), fun z => h (.inl z), fun z => h (.inr z)⟩
  ·show 1 <= cs.toArray.size
   rw [List.size_toArray]; omega
  ·show cs.toArray.size <= 8
   rw [List.size_toArray]; omega
end My
namespace My
open PySem L2
variable {K : Fg} {vs : List V} {H : Hp} {Q : VK} {E : XK}
theorem T6 {H H' : Hp} {p : Addr} (s : B1 H H') (h : H p = none) (o : HO) : B1 H (upd H' p o) := fun b u q => by
 rw [B8 (D8 q h)]; exact s b u q
theorem ql5 {H H' : Hp} {p : Addr} (s : B1 H H') (h : H' p = none) (o : HO) : B1 H (upd H' p o) := s.trans (B1.new h o)
def W7 (K : Fg) : Sp := fun vs H Q _ => ∃ c w m : Int, vs = [.int c, .int w, .int m] /\ 0 <= m /\ m <= 26 /\
 ∀ (t : Addr) (ns : List Str) (H' : Hp), B1 H H' -> H t = none -> H' t = some (.lst (B2 ns)) -> ns.length = m.toNat -> ns.Nodup -> (∀ x ∈ ns, ql4 x) -> Q (.ref t) H'
theorem wi9 (K : Fg) : ∀ vs H Q E, W7 K vs H Q E -> vs.length = ["_law_cell", "_law_where", "_law_lots"].length := by rintro vs H Q E ⟨c, w, m, rfl, _⟩; rfl
abbrev wj0 (K : Fg) : TS :=
 (M0 (P7 [some 3, some 5, none] (qf2 (A6 (A7 2) B6)) (B7 2) tTT (tOp qo3 (tOp (E7 K) (A7 0) (tOp (rI (fun _ j => 0 < j) fun i j => .int (i % j)) (tOp (L7 K) (A7 1) (tOp (rI qg8 fun i j => .int (i / j)) (A7 2) (tC (.int 8)))) (tC (.int 26)))) (tOp (L7 K) (tC (.int 1)) (tOp (rI (fun _ j => 0 < j) fun i j => .int (i % j)) (A7 2) (tC (.int 8)))))))
abbrev wj1 (K : Fg) : TS :=
 (C6 (G0 (C8 (G6 K) [] E0 (A6 (A7 4) (A6 (tC (.int 26)) B6))) (B7 5))
 (wj0 K))
abbrev wj2 (K : Fg) : TS :=
 (qf1 (tBM K "list" W0 (A7 9) (A6 (tOp (E7 K) (O5 (A6 (A7 11) (A6 (tOp (L7 K) (A7 11) (tC (.str ("x" : Str)))) B6))) (tCB yl3 (A6 (tOp (ql1 K false) (A7 11) (O5 (A6 (tC (.str ("shuts" : Str))) (A6 (tC (.str ("bars" : Str))) B6)))) B6))) B6)))
abbrev wj3 (K : Fg) : TS :=
 (C6 (G0 (tBM K "str" (qo4 K) (tC (.str ("" : Str))) (A6 (A7 6) B6)) (B7 11))
 (wj2 K))
abbrev wj4 (K : Fg) : TS :=
 (C6 (G0 (tOp (E7 K) (A7 3) (tOp (rI (fun _ j => 0 < j) fun i j => .int (i % j)) (tOp (L7 K) (A7 8) (A7 10)) (tC (.int 26)))) (wf2 (A7 6) (A7 7) qo6))
 (wj3 K))
abbrev wj5 (K : Fg) : TS :=
 (C6 (G0 (O5 B6) (B7 9))
 (C6 (qn6 (qf2 (A6 (A7 2) B6)) (B7 10)
 (wj4 K))
 (M0 (A7 9))))
abbrev wj6 (K : Fg) : TS :=
 (C6 (G0 (tBM K "str" xm3 (A7 3) (A6 (tOp (E7 K) (A7 6) (A7 7)) B6)) (B7 8))
 (wj5 K))
abbrev wj7 (K : Fg) : TS :=
 (C6 (G0 (tOp (rI (fun _ j => 0 < j) fun i j => .int (i % j)) (A7 1) (tCB (N4 K) (A6 (A7 6) B6))) (B7 7))
 (wj6 K))
abbrev wj8 (K : Fg) : TS :=
 (C6 (G0 (P7 [some 3, some 4, none] (qf2 (A6 (tOp (L7 K) (tC (.int 1)) (C8 (G6 K) [] E0 (A6 (A7 4) (A6 (tC (.int 8)) B6)))) B6)) (B7 2) tTT (tOp (E7 K) (A7 0) (C8 (G6 K) [] E0 (A6 (A7 1) (A6 (tC (.int 26)) B6))))) (B7 6))
 (wj7 K))
abbrev wj9 (K : Fg) : TS :=
 (C6 (M8 (E4 (tOp (O0 K) (C8 (G6 K) [] E0 (A6 (A7 4) (A6 (tC (.int 3)) B6))) (tC (.int 1))))
 (wj1 K) G7)
 (wj8 K))
def Y4 (K : Fg) : TS :=
 (C6 (G0 (tC (.str ("abcdefghijklmnopqrstuvwxyz" : Str))) (B7 3))
 (C6 (G0 (C8 (S6 K) [] E0 (A6 (A7 0) B6)) (B7 4))
 (wj9 K)))
theorem wk0 : Lt.length <= sizeLine := by rw [ys7]; exact L9 (by decide)
theorem wo2 (h : W7 K vs H Q E) : Y4 K { nx := fun _ H' => Q .non H', rt := Q } (M2 ["_law_cell", "_law_where", "_law_lots", "_law_letters", "_law_pot_here", "_law_first", "_law_base", "_law_there", "_law_at_first", "_law_names_here", "_law_k", "_law_name"] vs) H := by
 obtain ⟨c, w, m, rfl, m0, m1, q⟩ := h
 show Y4 K _ [some (.int c), some (.int w), some (.int m), none, none, none, none, none, none, none, none, none] H
 unfold Y4
 lk
 refine ⟨c, rfl, fun p n hp => ?_⟩
 lk
 refine ⟨p, 3, n, rfl, A8, by decide, by decide, fun r n2 _ _ => ?_⟩
 lk
 have s2 : B1 H (upd (upd H p (.lst [.int n])) p (.lst [.int n2])) := T6 (B1.new hp _) hp _
 generalize hH2 : upd (upd H p (.lst [.int n])) p (.lst [.int n2]) = H2 at *
 have p2 : H2 p = some (.lst [.int n2]) := by rw [<- hH2, A8]
 by_cases hr : r = 1
 ·rw [decide_eq_true hr]; refine qx7 ?_
  lk
  refine ⟨p, 26, n2, rfl, p2, by decide, by decide, fun f n3 f0 f1 => ?_⟩
  lk
  have s3 : B1 H (upd H2 p (.lst [.int n3])) := T6 s2 hp _
  refine qf7 (n := m) m0 (by omega) (fun i ys H' => H' = upd H2 p (.lst [.int n3]) /\ ys = B2 ((List.range i).map (nmA f))) ⟨rfl, rfl⟩ ?_ ?_ ?_
  ·rintro i ys H' hi ⟨_, rfl⟩
   rw [C1, List.length_map, List.length_range]
   exact L9 (by omega)
  ·rintro i ys H' hi ⟨rfl, rfl⟩
   lk
   have a0 : 0 <= (f + (i : Int) / 8) % 26 := Int.emod_nonneg _ (by decide)
   have a1 : (f + (i : Int) / 8) % 26 < 26 := Int.emod_lt_of_pos _ (by decide)
   refine xm7 (z := Lt) wk0 (ya4 a0 a1) ?_
   lk
   have b0 : 0 <= (i : Int) % 8 := Int.emod_nonneg _ (by decide)
   have b1 : (i : Int) % 8 < 8 := Int.emod_lt_of_pos _ (by decide)
   refine yq3 (by omega) (by omega) (by show 1 <= 1000; decide) ?_
   refine ⟨rfl, ?_⟩
   rw [List.range_succ, List.map_append]
   show _ = B2 (List.map (nmA f) (List.range i) ++ [nmA f i])
   have e : PySem.Txt.mul (ch (97 + ((f + (i : Int) / 8) % 26).toNat)) (1 + (i : Int) % 8) = nmA f i := by
    apply T5
    rw [ys9 (by omega)]
    unfold nmA
    have e1 : (1 + (i : Int) % 8).toNat = 1 + i % 8 := by omega
    have e2 : (i : Int) / 8 = ((i / 8 : Nat) : Int) := by omega
    rw [e1, e2]
   show _ = (List.map (nmA f) (List.range i) ++ [nmA f i]).map V.str
   rw [List.map_append, <- e]
   rfl
  ·rintro ys H' ⟨rfl, rfl⟩ t ht
   refine q t _ _ (ql5 s3 ht _) (s3.free ht) A8 (by rw [List.length_map, List.length_range]) (qj7 _ _ fun i j hi hj e => yh8 (by omega) (by omega) e) fun x hx => ?_
   obtain ⟨k, _, rfl⟩ := List.mem_map.mp hx
   exact yt0 f k
 ·rw [decide_eq_false hr]; refine qn7 ?_
  lk
  refine ⟨p, 8, n2, rfl, p2, by decide, by decide, fun z n3 z0 z1 => ?_⟩
  lk
  have s3 : B1 H (upd H2 p (.lst [.int n3])) := T6 s2 hp _
  generalize hH3 : upd H2 p (.lst [.int n3]) = H3 at *
  have p3 : H3 p = some (.lst [.int n3]) := by rw [<- hH3, A8]
  refine qf7 (n := 1 + z) (by omega) (by omega) (fun i ys H' => B1 H H' /\ (∃ n', H' p = some (.lst [.int n'])) /\ ∃ bs : List Nat, ys = B2 (bs.map ch) /\ bs.length = i /\ ∀ c ∈ bs, 97 <= c /\ c <= 122) ⟨s3, ⟨n3, p3⟩, [], rfl, rfl, by simp⟩ ?_ ?_ ?_
  ·rintro i ys H' hi ⟨_, _, bs, rfl, hl, _⟩
   rw [C1, List.length_map]
   exact L9 (by omega)
  ·rintro i ys H' hi ⟨s', ⟨n', p'⟩, bs, rfl, hl, hb⟩
   lk
   refine ⟨p, 26, n', rfl, p', by decide, by decide, fun r n4 r0 r1 => ?_⟩
   refine xm7 (z := Lt) wk0 (ya4 r0 r1) ?_
   refine ⟨T6 s' hp _, ⟨n4, A8⟩, bs ++ [97 + r.toNat], ?_, by simp [hl], ?_⟩
   ·simp [B2, ch]
   ·intro c hc
    rcases List.mem_append.mp hc with h | h
    ·exact hb c h
    ·have : c = 97 + r.toNat := by simpa using h
     omega
  ·rintro ys H' ⟨s', ⟨n', p'⟩, bs, rfl, hl, hb⟩ b hbn
   lk
   have hbH : H b = none := s'.free hbn
   generalize hH4 : upd H' b (.lst (B2 (bs.map ch))) = H4
   have s4 : B1 H H4 := by rw [<- hH4]; exact ql5 s' hbn _
   have b4 : H4 b = some (.lst (B2 (bs.map ch))) := by rw [<- hH4, A8]
   have lb : (B2 (bs.map ch)).length = bs.length := by rw [C1, List.length_map]
   refine O8 (.inl (SqL.of b4)) ?_
   lk
   rw [lb]
   have hbl : 1 <= bs.length := by omega
   have hb8 : bs.length <= 8 := by omega
   have t0 : 0 <= w % (bs.length : Int) := Int.emod_nonneg _ (by omega)
   have t1 : w % (bs.length : Int) < bs.length := Int.emod_lt_of_pos _ (by omega)
   generalize hth : (w % (bs.length : Int)).toNat = th
   have eth : w % (bs.length : Int) = ((th : Nat) : Int) := by omega
   rw [eth]
   have hth' : th < bs.length := by omega
   refine ⟨rfl, ?_⟩
   lk
   have at_b : ∀ cs : List Nat, cs.length = bs.length -> ∃ d, cs[th]? = some d /\ atI (B2 (cs.map ch)) ((th : Nat) : Int) = some (.str (ch d)) := fun cs hcs => by
    refine ⟨cs[th], by simp [hcs, hth'], D7 ?_⟩
    simp [B2, hcs, hth']
   obtain ⟨d, hd, ed⟩ := at_b bs rfl
   refine L8 (SqL.of b4) ed ?_
   have hdl := hb d (List.mem_of_getElem? hd)
   refine ⟨Lt, ch d, d - 97, [], rfl, rfl, ?_, ?_⟩
   ·have := ys8 (d - 97) (by omega)
    have e : 97 + (d - 97) = d := by omega
    rw [e] at this
    exact this
   lk
   refine ⟨L9 (by decide), fun l hln => ?_⟩
   lk
   have hlH : H l = none := s4.free hln
   have nbl : b ≠ l := D8 b4 hln
   refine qt1 (n := m) m0 (by omega) (fun i σ H' => B1 H H' /\ (∃ cs : List Nat, H' b = some (.lst (B2 (cs.map ch))) /\ cs.length = bs.length /\ ∀ a, cs.set th a = bs.set th a) /\ H' l = some (.lst (B2 ((List.range i).map (nmB bs th ((d - 97 : Nat) : Int))))) /\
    ∃ x y, σ = [some (.int c), some (.int w), some (.int m), some (.str Lt), some (.ref p), none, some (.ref b), some (.int th), some (.int ((d - 97 : Nat) : Int)), some (.ref l), x, y])
    ⟨ql5 s4 hln _, ⟨bs, by rw [B8 nbl]; exact b4, rfl, fun _ => rfl⟩, A8, none, none, rfl⟩ ?_ ?_
   ·rintro i σ H' hi ⟨s', ⟨cs, hb', hcs, hset⟩, hl', x, y, rfl⟩
    lk
    have a0 : 0 <= (((d - 97 : Nat) : Int) + (i : Int)) % 26 := Int.emod_nonneg _ (by decide)
    have a1 : (((d - 97 : Nat) : Int) + (i : Int)) % 26 < 26 := Int.emod_lt_of_pos _ (by decide)
    refine xm7 (z := Lt) wk0 (ya4 a0 a1) ?_
    lk
    generalize hcc : 97 + ((((d - 97 : Nat) : Int) + (i : Int)) % 26).toNat = cc
    refine .inl (qy3 hb' (j := th) ?_ ?_)
    ·unfold ixN
     rw [C1, List.length_map, hcs, if_pos (by omega), if_pos (by omega)]
     simp
    have e1 : (B2 (cs.map ch)).set th (.str ⟨#[cc]⟩) = B2 ((cs.set th cc).map ch) := by
     unfold B2
     rw [List.map_set, List.map_set]; rfl
    rw [e1]
    have e2 : cs.set th cc = nm0 bs th ((d - 97 : Nat) : Int) i := by rw [hset]; unfold nm0; rw [hcc]
    rw [e2]
    generalize hnm : nm0 bs th ((d - 97 : Nat) : Int) i = nm
    have lnm : nm.length = bs.length := by rw [<- hnm]; simp [nm0]
    have s5 : B1 H (upd H' b (.lst (B2 (nm.map ch)))) := T6 s' hbH _
    have l5 : (upd H' b (.lst (B2 (nm.map ch)))) l = some (.lst (B2 ((List.range i).map (nmB bs th ((d - 97 : Nat) : Int))))) := by rw [B8 nbl.symm]; exact hl'
    generalize hH5 : upd H' b (.lst (B2 (nm.map ch))) = H5 at *
    have b5 : H5 b = some (.lst (B2 (nm.map ch))) := by rw [<- hH5, A8]
    lk
    refine ⟨rfl, ?_⟩
    lk
    refine ⟨("" : Str), b, nm.map ch, rfl, rfl, .inl (SqL.of b5), ?_, ?_⟩
    ·have e : ((nm.map ch).map (·.length)).sum <= 8 := by
      have : (nm.map ch).map (·.length) = List.replicate nm.length 1 := by
       rw [List.map_map]
       apply List.ext_getElem
       ·simp
       ·intro k _ _; simp [ch, Str.length]
      rw [this, List.sum_replicate_nat]; omega
     have e2 : (nm.map ch).length = nm.length := List.length_map _
     have e3 : ("" : Str).length = 0 := rfl
     rw [e2, e3]; omega
    have ej : PySem.Txt.join ("" : Str) (nm.map ch) = ⟨nm.toArray⟩ := T5 (by rw [yh7])
    rw [ej]
    generalize hX : (⟨nm.toArray⟩ : Str) = X
    have lX : X.length = bs.length := by rw [<- hX]; show nm.toArray.size = _; simp [lnm]
    lk
    refine ⟨.inl ⟨rfl, _, SqL.of l5⟩, ?_⟩
    lk
    refine X9 (by rw [lX]; exact L9 (by show bs.length + 1 <= 1000; omega)) ?_
    lk
    refine ⟨L9 (by show 2 <= 1000; decide), fun t1 ht1 => ?_⟩
    lk
    refine ⟨L9 (by show 2 <= 1000; decide), fun t2 ht2 => ?_⟩
    have nt : t1 ≠ t2 := D8 A8 ht2
    refine .inl (xx7 (.inl (SqL.of A8)) rfl rfl ?_)
    lk
    refine .inr ⟨_, rfl, ?_⟩
    generalize hH6 : upd (upd H5 t1 (HO.lst [V.str X, V.str (X ++ ("x" : Str))])) t2 (HO.lst [V.str ("shuts" : Str), V.str ("bars" : Str)]) = H6 at *
    have s6 : B1 H5 H6 := by rw [<- hH6]; exact ql5 (B1.new ht1 _) ht2 _
    have i1 : H6 t1 = some (.lst [V.str X, V.str (X ++ ("x" : Str))]) := by rw [<- hH6, B8 nt, A8]
    have fin : ∀ j : Int, atI [V.str X, V.str (X ++ ("x" : Str))] j = some (.str (wx7 X)) -> E7 K (.ref t1) (.int j) H6 (fun x H1 => B6 [some (.int c), some (.int w), some (.int m), some (.str Lt), some (.ref p), none, some (.ref b), some (.int th), some (.int ((d - 97 : Nat) : Int)), some (.ref l), some (.int i), some (.str X)] H1 fun xs H2 => W0 (.ref l) (x :: xs) H2 fun _ H1 => B1 H H1 /\ (∃ cs : List Nat, H1 b = some (.lst (B2 (cs.map ch))) /\ cs.length = bs.length /\ ∀ a, cs.set th a = bs.set th a) /\ H1 l = some (.lst (B2 ((List.range (i + 1)).map (nmB bs th ((d - 97 : Nat) : Int))))) /\
     ∃ x y, [some (V.int c), some (V.int w), some (V.int m), some (V.str Lt), some (V.ref p), none, some (V.ref b), some (V.int th), some (V.int ((d - 97 : Nat) : Int)), some (V.ref l), some (V.int i), some (V.str X)] = [some (.int c), some (.int w), some (.int m), some (.str Lt), some (.ref p), none, some (.ref b), some (.int th), some (.int ((d - 97 : Nat) : Int)), some (.ref l), x, y]) := fun j hj => by
     refine L8 (SqL.of i1) hj ?_
     lk
     refine qf8 (s6 _ _ l5) (by rw [C1, List.length_map, List.length_range]; exact Nat.lt_of_lt_of_le (by omega : i < 1000) (L9 (Nat.le_refl _))) ?_
     refine ⟨T6 (s5.trans s6) hlH _, ⟨nm, by rw [B8 nbl]; exact s6 _ _ b5, lnm, fun a => by rw [<- hnm]; simp [nm0]⟩, ?_, _, _, rfl⟩
     rw [A8, List.range_succ, List.map_append]
     have : nmB bs th ((d - 97 : Nat) : Int) i = wx7 X := by unfold nmB; rw [hnm, hX]
     simp [B2, this]
    by_cases hsh : X = ("shuts" : Str) \/ X = ("bars" : Str)
    ·have e : inV (V.str X) [V.str ("shuts" : Str), V.str ("bars" : Str)] = true := by
      rcases hsh with rfl | rfl <;> decide +kernel
     rw [e]
     refine fin 1 ?_
     unfold wx7
     rw [if_pos hsh]; rfl
    ·have e : inV (V.str X) [V.str ("shuts" : Str), V.str ("bars" : Str)] = false := by
      have h1 : ¬ ("shuts" : Str) = X := fun z => hsh (.inl z.symm)
      have h2 : ¬ ("bars" : Str) = X := fun z => hsh (.inr z.symm)
      simp [inV, eqV, h1, h2]
     rw [e]
     refine fin 0 ?_
     unfold wx7
     rw [if_neg hsh]; rfl
   ·rintro σ H' ⟨s', _, hl', x, y, rfl⟩
    lk
    refine q l _ _ s' hlH hl' (by rw [List.length_map, List.length_range]) (qj7 _ _ fun i j hi hj e => yh9 hth' (by omega) (by omega) e) fun x hx => ?_
    obtain ⟨k, _, rfl⟩ := List.mem_map.mp hx
    exact yt1 hbl hb8 hb
end My
namespace My
open PySem L2
noncomputable def gd (l : List Str) (i : Nat) : Str := l.getD i ("" : Str)
def qz3 (x : Str) : Prop := x = ("bare" : Str) \/ x = ("plain" : Str) \/ x = ("anew" : Str) \/ x = ("room" : Str) \/ x = ("frame" : Str)
structure ql6 (names S Hs : List Str) (k : Nat) : Prop where
 ls : S.length = names.length
 lh : Hs.length = names.length
 srt : ∀ x ∈ S, qz3 x
 un : ∀ i, i < k -> gd Hs i = ("" : Str)
 host : ∀ i, gd Hs i ≠ ("" : Str) -> gd S i = ("frame" : Str) /\ ∃ j, i < j /\ j < names.length /\ gd Hs i = gd names j /\ (gd S j = ("plain" : Str) \/ gd S j = ("frame" : Str))
 frm : ∀ i, k <= i -> i < names.length -> gd S i = ("frame" : Str) -> gd Hs i ≠ ("" : Str)
 uq : ∀ i j, gd Hs i ≠ ("" : Str) -> gd Hs i = gd Hs j -> i = j
theorem X6 {l : List Str} {i : Nat} {x : Str} (h : i < l.length) : gd (l.set i x) i = x := by
 unfold gd; rw [List.getD_eq_getElem?_getD, List.getElem?_set_self h]; rfl
theorem O9 {l : List Str} {i j : Nat} {x : Str} (h : i ≠ j) : gd (l.set i x) j = gd l j := by
 unfold gd; rw [List.getD_eq_getElem?_getD, List.getD_eq_getElem?_getD, List.getElem?_set_ne h]
theorem wk1 {l : List Str} {i : Nat} (h : i < l.length) : l[i]? = some (gd l i) := by
 unfold gd; rw [List.getD_eq_getElem?_getD]; simp [h]
theorem Y0 {l : List Str} {i : Nat} (h : i < l.length) : gd l i ∈ l := List.mem_of_getElem? (wk1 h)
theorem ya6 {l : List Str} {i : Nat} (h : l.length <= i) : gd l i = ("" : Str) := by
 unfold gd; rw [List.getD_eq_getElem?_getD, List.getElem?_eq_none_iff.mpr h]; rfl
theorem xk2 {names S : List Str} (ls : S.length = names.length) (srt : ∀ x ∈ S, qz3 x) : ql6 names S (List.replicate names.length ("" : Str)) names.length := by
 have e : ∀ i, gd (List.replicate names.length ("" : Str)) i = ("" : Str) := fun i => by
  by_cases h : i < (List.replicate names.length ("" : Str)).length
  ·exact List.eq_of_mem_replicate (Y0 h)
  ·exact ya6 (Nat.not_lt.mp h)
 exact ⟨ls, List.length_replicate, srt, fun i _ => e i, fun i h => absurd (e i) h, fun i h1 h2 => by omega, fun i j h => absurd (e i) h⟩
theorem ql6.room {names S Hs : List Str} {k : Nat} (g : ql6 names S Hs (k + 1)) (hk : k < names.length) (hf : gd S k = ("frame" : Str)) : ql6 names (S.set k ("room" : Str)) Hs k := by
 have hkS : k < S.length := by rw [g.ls]; exact hk
 refine ⟨by rw [List.length_set, g.ls], g.lh, fun x hx => ?_, fun i hi => g.un i (by omega), fun i hi => ?_, fun i h1 h2 h3 => ?_, g.uq⟩
 ·rcases List.mem_or_eq_of_mem_set hx with h | h
  ·exact g.srt x h
  ·rw [h]; exact .inr (.inr (.inr (.inl rfl)))
 ·obtain ⟨h1, j, h2, h3, h4, h5⟩ := g.host i hi
  have hik : k ≠ i := fun e => hi (g.un i (by omega))
  have hij : ¬ i < k := fun e => hi (g.un i (by omega))
  exact ⟨by rw [O9 hik]; exact h1, j, h2, h3, h4, by rw [O9 (by omega)]; exact h5⟩
 ·by_cases e : k = i
  ·subst e; rw [X6 hkS] at h3; exact absurd h3 (by decide +kernel)
  ·rw [O9 e] at h3; exact g.frm i (by omega) h2 h3
theorem ql6.put {names S Hs : List Str} {k j : Nat} (g : ql6 names S Hs (k + 1)) (ne : ∀ x ∈ names, x ≠ ("" : Str)) (hk : k < names.length) (hf : gd S k = ("frame" : Str)) (hj : k < j) (hj2 : j < names.length)
 (hp : gd S j = ("plain" : Str) \/ gd S j = ("frame" : Str)) (hn : gd names j ∉ Hs) : ql6 names S (Hs.set k (gd names j)) k := by
 have hkH : k < Hs.length := by rw [g.lh]; exact hk
 refine ⟨g.ls, by rw [List.length_set, g.lh], g.srt, fun i hi => by rw [O9 (by omega)]; exact g.un i (by omega), fun i hi => ?_, fun i h1 h2 h3 => ?_, fun i i' h1 h2 => ?_⟩
 ·by_cases e : k = i
  ·subst e; rw [X6 hkH]; exact ⟨hf, j, hj, hj2, rfl, hp⟩
  ·rw [O9 e] at hi ⊢; exact g.host i hi
 ·by_cases e : k = i
  ·subst e; rw [X6 hkH]; exact ne _ (Y0 hj2)
  ·rw [O9 e]; exact g.frm i (by omega) h2 h3
 ·have notin : ∀ i, gd Hs i ≠ gd names j := fun i z => by
   by_cases hi : i < Hs.length
   ·exact hn (z ▸ Y0 hi)
   ·rw [ya6 (Nat.not_lt.mp hi)] at z; exact ne _ (Y0 hj2) z.symm
  by_cases e : k = i
  ·by_cases e' : k = i'
   ·omega
   ·subst e; rw [X6 hkH, O9 e'] at h2; exact absurd h2.symm (notin i')
  ·by_cases e' : k = i'
   ·subst e'; rw [X6 hkH, O9 e] at h2; exact absurd h2 (notin i)
   ·rw [O9 e] at h1; rw [O9 e, O9 e'] at h2; exact g.uq i i' h1 h2
theorem ql6.keep {names S Hs : List Str} {k : Nat} (g : ql6 names S Hs (k + 1)) (hf : gd S k ≠ ("frame" : Str)) : ql6 names S Hs k :=
 ⟨g.ls, g.lh, g.srt, fun i hi => g.un i (by omega), g.host, fun i h1 h2 h3 => by
  by_cases e : k = i
  ·subst e; exact absurd h3 hf
  ·exact g.frm i (by omega) h2 h3, g.uq⟩
noncomputable def qb3 (names S : List Str) : List Str := ((List.range names.length).filter fun k => decide (gd S k = ("plain" : Str) \/ gd S k = ("anew" : Str))).map (gd names)
structure xn3 (names S Hs : List Str) (j : Nat) (r : Row) : Prop where
 name : r.name = gd names j
 sort : r.sort = gd S j
 host : r.host = gd Hs j
 shuts : (r.name ∈ Hs /\ r.shuts = []) \/ (r.name ∉ Hs /\ qi1 r.shuts ((qb3 names S).filter fun x => decide (x ∉ Hs)))
 bars : qi1 r.bars (qb3 names S)
structure wd3 (names : List Str) (rs : List Row) : Prop where
 ex : ∃ (S Hs : List Str) (l : List Row), rs.Perm l /\ l.length = names.length /\ ql6 names S Hs 0 /\ ∀ j r, l[j]? = some r -> xn3 names S Hs j r
theorem wd3.names {names : List Str} {rs : List Row} (h : wd3 names rs) : (rs.map (·.name)).Perm names := by
 obtain ⟨S, Hs, l, p, hl, g, ra⟩ := h.ex
 refine (p.map _).trans ?_
 have e : l.map (·.name) = names := by
  apply List.ext_getElem?
  intro i
  rw [List.getElem?_map]
  by_cases hi : i < names.length
  ·have h1 : l[i]? = some l[i] := List.getElem?_eq_getElem (by omega)
   rw [h1, wk1 hi]
   show some (l[i].name) = _
   rw [(ra i _ h1).name]
  ·rw [List.getElem?_eq_none_iff.mpr (by omega), List.getElem?_eq_none_iff.mpr (by omega)]; rfl
 rw [e]
theorem wd3.at {names : List Str} {rs : List Row} (h : wd3 names rs) : ∃ S Hs, ql6 names S Hs 0 /\ ∀ r ∈ rs, ∃ j, j < names.length /\ xn3 names S Hs j r := by
 obtain ⟨S, Hs, l, p, hl, g, ra⟩ := h.ex
 refine ⟨S, Hs, g, fun r hr => ?_⟩
 obtain ⟨j, hj, e⟩ := List.getElem_of_mem (p.mem_iff.mp hr)
 exact ⟨j, by omega, ra j r (by rw [List.getElem?_eq_getElem hj, e])⟩
theorem wd3.nodup {names : List Str} {rs : List Row} (h : wd3 names rs) (hn : names.Nodup) : (rs.map (·.name)).Nodup := h.names.nodup_iff.mpr hn
theorem qz4 {names : List Str} (hn : names.Nodup) {j : Nat} (hj : j < names.length) : names.idxOf (gd names j) = j := by
 have e : gd names j = names[j] := by have := wk1 hj; rw [List.getElem?_eq_getElem hj] at this; exact (Option.some.inj this).symm
 rw [e]; exact hn.idxOf_getElem j hj
theorem wd3.uniq {names : List Str} {rs : List Row} (h : wd3 names rs) (hn : names.Nodup) {r r' : Row} (hr : r ∈ rs) (hr' : r' ∈ rs) (f : r.sort = ("frame" : Str)) (f' : r'.sort = ("frame" : Str)) (e : r.host = r'.host) : r.name = r'.name := by
 obtain ⟨S, Hs, g, ra⟩ := h.at
 obtain ⟨i, hi, R⟩ := ra r hr
 obtain ⟨j, hj, R'⟩ := ra r' hr'
 have hne := g.frm i (Nat.zero_le _) hi (by rw [<- R.sort]; exact f)
 have := g.uq i j hne (by rw [<- R.host, <- R'.host, e])
 subst this
 rw [R.name, R'.name]
end My
namespace My
open PySem L2
variable {K : Fg} {vs : List V} {H : Hp} {Q : VK} {E : XK}
structure P0 (H : Hp) (ps : List Addr) (H' : Hp) : Prop where
 same : B1 H H'
 new : ∀ p ∈ ps, H p = none
 pots : ∀ p ∈ ps, ∃ m : Int, H' p = some (.lst [.int m])
theorem P0.fresh {H H' : Hp} {ps : List Addr} (P : P0 H ps H') {a : Addr} (h : H' a = none) : a ∉ ps := fun hm => by
 obtain ⟨m, e⟩ := P.pots a hm
 rw [h] at e; cases e
theorem P0.put {H H' : Hp} {ps : List Addr} (P : P0 H ps H') {a : Addr} (h : H a = none) (ha : a ∉ ps) (o : HO) : P0 H ps (upd H' a o) :=
 ⟨T6 P.same h o, P.new, fun p hp => by rw [B8 (by rintro rfl; exact ha hp)]; exact P.pots p hp⟩
theorem P0.lay {H H' : Hp} {ps : List Addr} (P : P0 H ps H') {a : Addr} (h : H' a = none) (o : HO) : P0 H ps (upd H' a o) := P.put (P.same.free h) (P.fresh h) o
theorem P0.take {H H' : Hp} {ps : List Addr} (P : P0 H ps H') {p : Addr} (hp : p ∈ ps) (m : Int) : P0 H ps (upd H' p (.lst [.int m])) :=
 ⟨T6 P.same (P.new p hp) _, P.new, fun p' hp' => by
  by_cases e : p' = p
  ·rw [e, A8]; exact ⟨m, rfl⟩
  ·rw [B8 e]; exact P.pots p' hp'⟩
theorem V5 {H' : Hp} {ps : List Addr} {a p : Addr} {o o' : HO} (h : H' a = some o) (ha : a ∉ ps) (hp : p ∈ ps) : (upd H' p o') a = some o := by
 rw [B8 (by rintro rfl; exact ha hp)]; exact h
theorem L5 {H' : Hp} {a t : Addr} {o o' : HO} (h : H' a = some o) (ht : H' t = none) : (upd H' t o') a = some o := by
 rw [B8 (D8 h ht)]; exact h
def Y5 (K : Fg) : Sp := fun vs H Q _ => ∃ (sc nm : Addr) (ns : List Int) (at_ : Int) (names : List Str), vs = [.ref sc, .int at_, .ref nm] /\ SqL K H sc (ns.map V.int) /\ 0 <= at_ /\ H nm = some (.lst (B2 names)) /\
 names.length <= 26 /\ names.Nodup /\ (∀ x ∈ names, ql4 x) /\
 ∀ (t : Addr) (us : List V) (rs : List Row) (H' : Hp), B1 H H' -> H t = none -> H' t = some (.lst us) -> Dvs K H' (rs.map Row.da) us -> wd3 names rs -> Q (.ref t) H'
theorem wo3 (K : Fg) : ∀ vs H Q E, Y5 K vs H Q E -> vs.length = ["_law_script", "_law_at", "_law_names_here"].length := by rintro vs H Q E ⟨a, b, c, d, e, rfl, _⟩; rfl
abbrev wo4 (K : Fg) : TS :=
 (G0 (tOp (E7 K) (A7 2) (tOp (E7 K) (A7 7) (C8 (G6 K) [] E0 (A6 (tOp (E7 K) (A7 3) (A7 6)) (A6 (tCB (N4 K) (A6 (A7 7) B6)) B6))))) (wf2 (A7 5) (A7 6) qo6))
abbrev wo5 (K : Fg) : TS :=
 (M8 (E4 (tOp (O0 K) (A7 7) (O5 B6)))
 (G0 (tC (.str ("room" : Str))) (wf2 (A7 4) (A7 6) qo6)) (wo4 K))
abbrev wo6 (K : Fg) : TS :=
 (C6 (G0 (P7 [some 5, some 2, none] (qh6 K (A7 7)) (B7 2) (E4 (tOp (ql1 K true) (tOp (E7 K) (A7 1) (A7 2)) (A7 0))) (A7 2)) (B7 7))
 (wo5 K))
abbrev wo7 (K : Fg) : TS :=
 (C6 (G0 (P7 [some 4, none] (xl3 (A6 (tOp (L7 K) (A7 6) (tC (.int 1))) (A6 (tCB (N4 K) (A6 (A7 2) B6)) B6))) (B7 1) (E4 (tOp (ql1 K false) (tOp (E7 K) (A7 0) (A7 1)) (O5 (A6 (tC (.str ("plain" : Str))) (A6 (tC (.str ("frame" : Str))) B6))))) (A7 1)) (B7 7))
 (wo6 K))
abbrev wo8 (K : Fg) : TS :=
 (M8 (E4 (tOp (O0 K) (tOp (E7 K) (A7 4) (A7 6)) (tC (.str ("frame" : Str)))))
 (wo7 K) G7)
abbrev wo9 (K : Fg) : TS :=
 (qf1 (tBM K "list" qt0 (A7 9) (A6 (C8 (G6 K) [] E0 (A6 (tOp (E7 K) (A7 3) (A7 6)) (A6 (tOp (L7 K) (tCB (N4 K) (A6 (A7 9) B6)) (tC (.int 1))) B6))) (A6 (A7 11) B6))))
abbrev wp0 (K : Fg) : TS :=
 (C6 (G0 (qp3 (A6 (tOp (E7 K) (A7 2) (A7 6)) (A6 (tOp (E7 K) (A7 4) (A7 6)) (A6 (tOp (E7 K) (A7 5) (A7 6)) (A6 (A7 10) (A6 (C8 (O3 K) [] E0 (A6 (tOp (E7 K) (A7 3) (A7 6)) (A6 (A7 8) B6))) B6)))))) (B7 11))
 (wo9 K))
abbrev wp1 (K : Fg) : TS :=
 (C6 (M8 (E4 (tOp (ql1 K false) (tOp (E7 K) (A7 2) (A7 6)) (A7 5)))
 (G0 (qp3 B6) (B7 10)) G7)
 (wp0 K))
abbrev wp2 (K : Fg) : TS :=
 (C6 (G0 (C8 (O3 K) [] E0 (A6 (tOp (E7 K) (A7 3) (A7 6)) (A6 (P7 [some 5, none] (qh6 K (A7 8)) (B7 1) (E4 (tOp (ql1 K true) (A7 1) (A7 0))) (A7 1)) B6))) (B7 10))
 (wp1 K))
abbrev wp3 (K : Fg) : TS :=
 (C6 (qn6 (qf2 (A6 (tCB (N4 K) (A6 (A7 2) B6)) B6)) (B7 6)
 (wp2 K))
 (M0 (A7 9)))
abbrev wk2 (K : Fg) : TS :=
 (C6 (G0 (P7 [some 2, some 4, none] (qf2 (A6 (tCB (N4 K) (A6 (A7 2) B6)) B6)) (B7 2) (E4 (tOp (ql1 K false) (tOp (E7 K) (A7 1) (A7 2)) (O5 (A6 (tC (.str ("plain" : Str))) (A6 (tC (.str ("anew" : Str))) B6))))) (tOp (E7 K) (A7 0) (A7 2))) (B7 8))
 (C6 (G0 (O5 B6) (B7 9))
 (wp3 K)))
abbrev wk3 (K : Fg) : TS :=
 (C6 (qn6 (wx0 (A6 (tCB (N4 K) (A6 (A7 2) B6)) B6)) (B7 6)
 (wo8 K))
 (wk2 K))
abbrev wk4 (K : Fg) : TS :=
 (C6 (G0 (P7 [none] (qh6 K (A7 2)) (B7 0) tTT (tC (.str ("" : Str)))) (B7 5))
 (wk3 K))
abbrev wk5 (K : Fg) : TS :=
 (C6 (G0 (P7 [none] (qh6 K (A7 3)) (B7 0) tTT (tOp (E7 K) (O5 (A6 (tC (.str ("bare" : Str))) (A6 (tC (.str ("plain" : Str))) (A6 (tC (.str ("anew" : Str))) (A6 (tC (.str ("room" : Str))) (A6 (tC (.str ("frame" : Str))) B6)))))) (C8 (G6 K) [] E0 (A6 (A7 0) (A6 (tC (.int 5)) B6))))) (B7 4))
 (wk4 K))
def qd2 (K : Fg) : TS :=
 (C6 (G0 (P7 [some 0, some 1, none] (qf2 (A6 (tCB (N4 K) (A6 (A7 2) B6)) B6)) (B7 2) tTT (C8 (S6 K) [] E0 (A6 (C8 (E9 K) [] E0 (A6 (A7 0) (A6 (tOp (L7 K) (A7 1) (A7 2)) B6))) B6))) (B7 3))
 (wk5 K))
theorem qb4 {xs : List Str} {i : Nat} (h : i < xs.length) : atI (B2 xs) ((i : Nat) : Int) = some (.str (gd xs i)) := D7 (by unfold B2; rw [List.getElem?_map, wk1 h]; rfl)
theorem ya7 {ps : List Addr} {i : Nat} (h : i < ps.length) : ∃ p, p ∈ ps /\ atI (ps.map V.ref) ((i : Nat) : Int) = some (.ref p) := ⟨ps[i], List.getElem_mem h, D7 (by rw [List.getElem?_map, List.getElem?_eq_getElem h]; rfl)⟩
theorem V6 (xs : List Str) : (B2 xs).all qc4 = true := by unfold B2; rw [List.all_map]; exact List.all_eq_true.mpr fun _ _ => rfl
theorem T7 (x : Str) : ∀ xs : List Str, inV (.str x) (B2 xs) = decide (x ∈ xs)
 | [] => by simp [inV, B2]
 | y :: ys => by
   have ih := T7 x ys
   unfold inV at ih ⊢
   show (eqV (.str y) (.str x) || (B2 ys).any fun z => eqV z (.str x)) = _
   rw [ih]
   by_cases e : x = y
   ·subst e; simp [eqV]
   ·have e' : ¬ y = x := fun z => e z.symm
    simp [eqV, e, e']
theorem xt8 {sc nm : Addr} {ns : List Int} {at_ : Int} {names : List Str} {R : VK} {σ : St} (hs : σ[0]? = some (some (.ref sc))) (ha : σ[1]? = some (some (.int at_))) (hm : σ[2]? = some (some (.ref nm))) (hS : SqL K H sc (ns.map V.int)) (h0 : 0 <= at_) (hN : H nm = some (.lst (B2 names))) (h26 : names.length <= 26)
 (q : ∀ (a : Addr) (ps : List Addr) (H' : Hp), P0 H ps H' -> ps.length = names.length -> H a = none -> a ∉ ps -> H' a = some (.lst (ps.map .ref)) -> R (.ref a) H') :
 P7 [some 0, some 1, none] (qf2 (A6 (tCB (N4 K) (A6 (A7 2) B6)) B6)) (B7 2) tTT (C8 (S6 K) [] E0 (A6 (C8 (E9 K) [] E0 (A6 (A7 0) (A6 (tOp (L7 K) (A7 1) (A7 2)) B6))) B6)) σ H R := by
 have eg : qe7 [some 0, some 1, none] σ = [some (.ref sc), some (.int at_), none] := by unfold qe7; simp [hs, ha]
 refine qt2 (wd9 (W6 (xc7 (W6 (S1 hm (V2 (O8 (.inl (SqL.of hN)) (V2 ?_))))))))
 rw [C1, eg]
 refine qf7 (n := (names.length : Int)) (by omega) (by omega) (fun i ys H' => ∃ ps, P0 H ps H' /\ ys = ps.map V.ref /\ ps.length = i) ⟨[], ⟨B1.refl H, (fun _ h => nomatch h), (fun _ h => nomatch h)⟩, rfl, rfl⟩ ?_ ?_ ?_
 ·rintro i ys H' hi ⟨ps, _, rfl, hl⟩
  rw [List.length_map]; exact L9 (by omega)
 ·rintro i ys H' hi ⟨ps, P, rfl, hl⟩
  lk
  refine ⟨sc, ns, _, rfl, P.same.sqL hS, by omega, fun n => ?_⟩
  lk
  refine ⟨n, rfl, fun p m hp => ?_⟩
  have hpH := P.same.free hp
  refine ⟨ps ++ [p], ⟨ql5 P.same hp _, fun p' hp' => ?_, fun p' hp' => ?_⟩, by simp, by simp [hl]⟩
  ·rcases List.mem_append.mp hp' with h | h
   ·exact P.new p' h
   ·have : p' = p := by simpa using h
    rw [this]; exact hpH
  ·rcases List.mem_append.mp hp' with h | h
   ·obtain ⟨m', e⟩ := P.pots p' h
    exact ⟨m', L5 e hp⟩
   ·have : p' = p := by simpa using h
    rw [this, A8]; exact ⟨m, rfl⟩
 ·rintro ys H' ⟨ps, P, rfl, hl⟩ a han
  exact q a ps _ (P.lay han _) (by omega) (P.same.free han) (P.fresh han) A8
theorem xk3 {H0 : Hp} {ps : List Addr} {a3 : Addr} {R : VK} {σ : St} (h3 : σ[3]? = some (some (.ref a3))) (P : P0 H0 ps H) (hA : H a3 = some (.lst (ps.map .ref))) (ha3 : a3 ∉ ps) (h26 : ps.length <= 26)
 (q : ∀ (a : Addr) (S : List Str) (H' : Hp), P0 H0 ps H' -> H' a3 = some (.lst (ps.map .ref)) -> H0 a = none -> a ∉ ps -> a ≠ a3 -> S.length = ps.length -> (∀ x ∈ S, qz3 x) -> H' a = some (.lst (B2 S)) -> R (.ref a) H') :
 P7 [none] (qh6 K (A7 3)) (B7 0) tTT (tOp (E7 K) (O5 (A6 (tC (.str ("bare" : Str))) (A6 (tC (.str ("plain" : Str))) (A6 (tC (.str ("anew" : Str))) (A6 (tC (.str ("room" : Str))) (A6 (tC (.str ("frame" : Str))) B6)))))) (C8 (G6 K) [] E0 (A6 (A7 0) (A6 (tC (.int 5)) B6)))) σ H R := by
 refine qt2 (wg5 (S1 h3 ?_))
 refine qa5 (SqL.of hA) (fun i ys H' => P0 H0 ps H' /\ H' a3 = some (.lst (ps.map .ref)) /\ ∃ S, ys = B2 S /\ S.length = i /\ ∀ x ∈ S, qz3 x) ⟨P, hA, [], rfl, rfl, by simp⟩ ?_ ?_ ?_ ?_
 ·rintro i ys H' hi ⟨_, _, S, rfl, hl, _⟩
  rw [List.length_map] at hi
  rw [C1]; exact L9 (by omega)
 ·rintro i ys H' hi ⟨_, h, _⟩
  exact SqL.of h
 ·rintro i x ys H' hx ⟨P', h', S, rfl, hl, hs⟩
  rw [List.getElem?_map] at hx
  obtain ⟨p, hp, rfl⟩ := Option.map_eq_some_iff.mp hx
  have hpm := List.mem_of_getElem? hp
  lk
  refine ⟨L9 (by show 5 <= 1000; decide), fun t ht => ?_⟩
  lk
  obtain ⟨m, hm⟩ := P'.pots p hpm
  refine ⟨p, 5, m, rfl, L5 hm ht, by decide, by decide, fun r m' r0 r1 => ?_⟩
  have P2 := (P'.lay ht (.lst [V.str ("bare" : Str), V.str ("plain" : Str), V.str ("anew" : Str), V.str ("room" : Str), V.str ("frame" : Str)]))
  have ht2 : t ∉ ps := P'.fresh ht
  have e : ∃ x, qz3 x /\ atI [V.str ("bare" : Str), V.str ("plain" : Str), V.str ("anew" : Str), V.str ("room" : Str), V.str ("frame" : Str)] r = some (.str x) := by
   rcases (by omega : r = 0 \/ r = 1 \/ r = 2 \/ r = 3 \/ r = 4) with rfl | rfl | rfl | rfl | rfl
   ·exact ⟨_, .inl rfl, rfl⟩
   ·exact ⟨_, .inr (.inl rfl), rfl⟩
   ·exact ⟨_, .inr (.inr (.inl rfl)), rfl⟩
   ·exact ⟨_, .inr (.inr (.inr (.inl rfl))), rfl⟩
   ·exact ⟨_, .inr (.inr (.inr (.inr rfl))), rfl⟩
  obtain ⟨x, hx1, hx2⟩ := e
  refine L8 (SqL.of (V5 A8 ht2 hpm)) hx2 ?_
  refine ⟨P2.take hpm m', V5 (L5 h' ht) ha3 hpm, S ++ [x], by simp [B2], by simp [hl], fun y hy => ?_⟩
  rcases List.mem_append.mp hy with h | h
  ·exact hs y h
  ·have : y = x := by simpa using h
   rw [this]; exact hx1
 ·rintro ys H' ⟨P', h', S, rfl, hl, hs⟩ a han
  rw [List.length_map] at hl
  exact q a S _ (P'.lay han _) (L5 h' han) (P'.same.free han) (P'.fresh han) (D8 h' han).symm hl hs A8
theorem we1 {n k : Nat} (h : k < n) : ixN n ((k : Nat) : Int) = some k := by
 unfold ixN
 rw [if_pos (by omega), if_pos (by omega)]; simp
noncomputable def xt9 (js : List Nat) : List PyData := js.map fun (j : Nat) => .int (j : Int)
noncomputable def qq0 (js : List Nat) : List V := js.map fun (j : Nat) => .int (j : Int)
theorem xn4 {H : Hp} : ∀ js : List Nat, Dvs K H (xt9 js) (qq0 js)
 | [] => Q5
 | j :: js => M7 (qx8.mpr rfl) (xn4 js)
theorem wu3 : ∀ js : List Nat, PyData.depthAll (xt9 js) = 0
 | [] => by show PyData.depthAll [] = 0; rw [PyData.depthAll]
 | j :: js => by
   show PyData.depthAll (.int (j : Int) :: xt9 js) = 0
   rw [PyData.depthAll, wu3 js, PyData.depth]; rfl
theorem yi0 (js : List Nat) : PyData.eqv (.list (xt9 js)) (.list []) = decide (js = []) := by
 rw [PyData.eqv]
 cases js with
 | nil => show PyData.eqvAll [] [] = _; rw [PyData.eqvAll]; rfl
 | cons j js => show PyData.eqvAll (.int (j : Int) :: xt9 js) [] = _; rw [PyData.eqvAll]; simp
theorem yt2 {js : List Nat} {i : Nat} (h : i < js.length) : ∃ j, j ∈ js /\ atI (qq0 js) ((i : Nat) : Int) = some (.int (j : Nat)) := ⟨js[i], List.getElem_mem h, D7 (by unfold qq0; rw [List.getElem?_map, List.getElem?_eq_getElem h]; rfl)⟩
structure St1 (H0 : Hp) (ps : List Addr) (a3 a4 a5 : Addr) (S Hs : List Str) (H' : Hp) : Prop where
 P : P0 H0 ps H'
 h3 : H' a3 = some (.lst (ps.map .ref))
 h4 : H' a4 = some (.lst (B2 S))
 h5 : H' a5 = some (.lst (B2 Hs))
structure wk6 (H0 : Hp) (ps : List Addr) (a3 a4 a5 : Addr) : Prop where
 f3 : H0 a3 = none
 f4 : H0 a4 = none
 f5 : H0 a5 = none
 n3 : a3 ∉ ps
 n4 : a4 ∉ ps
 n5 : a5 ∉ ps
 n34 : a3 ≠ a4
 n35 : a3 ≠ a5
 n45 : a4 ≠ a5
section
variable {H0 H' : Hp} {ps : List Addr} {a3 a4 a5 : Addr} {S Hs : List Str}
theorem St1.lay (s : St1 H0 ps a3 a4 a5 S Hs H') {t : Addr} (h : H' t = none) (o : HO) : St1 H0 ps a3 a4 a5 S Hs (upd H' t o) := ⟨s.P.lay h o, L5 s.h3 h, L5 s.h4 h, L5 s.h5 h⟩
theorem St1.take (s : St1 H0 ps a3 a4 a5 S Hs H') (A : wk6 H0 ps a3 a4 a5) {p : Addr} (hp : p ∈ ps) (m : Int) : St1 H0 ps a3 a4 a5 S Hs (upd H' p (.lst [.int m])) :=
 ⟨s.P.take hp m, V5 s.h3 A.n3 hp, V5 s.h4 A.n4 hp, V5 s.h5 A.n5 hp⟩
theorem St1.set4 (s : St1 H0 ps a3 a4 a5 S Hs H') (A : wk6 H0 ps a3 a4 a5) (S' : List Str) : St1 H0 ps a3 a4 a5 S' Hs (upd H' a4 (.lst (B2 S'))) :=
 ⟨s.P.put A.f4 A.n4 _, by rw [B8 A.n34]; exact s.h3, A8, by rw [B8 A.n45.symm]; exact s.h5⟩
theorem St1.set5 (s : St1 H0 ps a3 a4 a5 S Hs H') (A : wk6 H0 ps a3 a4 a5) (Hs' : List Str) : St1 H0 ps a3 a4 a5 S Hs' (upd H' a5 (.lst (B2 Hs'))) :=
 ⟨s.P.put A.f5 A.n5 _, by rw [B8 A.n35]; exact s.h3, by rw [B8 A.n45]; exact s.h4, A8⟩
theorem qu2 (xs : List Str) (i : Nat) (x : Str) : (B2 xs).set i (.str x) = B2 (xs.set i x) := by unfold B2; rw [List.map_set]
end
def xe4 (K : Fg) : TS :=
 (M8 (E4 (tOp (O0 K) (tOp (E7 K) (A7 4) (A7 6)) (tC (.str ("frame" : Str)))))
 (C6 (G0 (P7 [some 4, none] (xl3 (A6 (tOp (L7 K) (A7 6) (tC (.int 1))) (A6 (tCB (N4 K) (A6 (A7 2) B6)) B6))) (B7 1) (E4 (tOp (ql1 K false) (tOp (E7 K) (A7 0) (A7 1)) (O5 (A6 (tC (.str ("plain" : Str))) (A6 (tC (.str ("frame" : Str))) B6))))) (A7 1)) (B7 7))
 (C6 (G0 (P7 [some 5, some 2, none] (qh6 K (A7 7)) (B7 2) (E4 (tOp (ql1 K true) (tOp (E7 K) (A7 1) (A7 2)) (A7 0))) (A7 2)) (B7 7))
 (M8 (E4 (tOp (O0 K) (A7 7) (O5 B6)))
 (G0 (tC (.str ("room" : Str))) (wf2 (A7 4) (A7 6) qo6)) (G0 (tOp (E7 K) (A7 2) (tOp (E7 K) (A7 7) (C8 (G6 K) [] E0 (A6 (tOp (E7 K) (A7 3) (A7 6)) (A6 (tCB (N4 K) (A6 (A7 7) B6)) B6))))) (wf2 (A7 5) (A7 6) qo6))))) G7)
theorem xu0 {H0 H' : Hp} {ps : List Addr} {a3 a4 a5 nm : Addr} {names S Hs : List Str} {D : P4} {k : Nat} {v0 v1 w6 w7 w8 w9 w10 w11 : Option V} (A : wk6 H0 ps a3 a4 a5) (hN : H0 nm = some (.lst (B2 names))) (h26 : names.length <= 26) (hps : ps.length = names.length) (ne : ∀ x ∈ names, x ≠ ("" : Str))
 (s : St1 H0 ps a3 a4 a5 S Hs H') (g : ql6 names S Hs (k + 1)) (hk : k < names.length)
 (q : ∀ S' Hs' H'' w, St1 H0 ps a3 a4 a5 S' Hs' H'' -> ql6 names S' Hs' k -> D.nx [v0, v1, some (.ref nm), some (.ref a3), some (.ref a4), some (.ref a5), some (.int (k : Nat)), w, w8, w9, w10, w11] H'') :
 xe4 K D [v0, v1, some (.ref nm), some (.ref a3), some (.ref a4), some (.ref a5), some (.int (k : Nat)), w7, w8, w9, w10, w11] H' := by
 have kS : k < S.length := by rw [g.ls]; exact hk
 unfold xe4
 lk
 refine L8 (SqL.of s.h4) (qb4 kS) ?_
 lk
 by_cases hf : gd S k = ("frame" : Str)
 ·rw [decide_eq_true hf]; refine qx7 ?_
  lk
  refine O8 (.inl (SqL.of (s.P.same _ _ hN))) ?_
  lk
  rw [C1]
  refine xr8 (lo := (k : Int) + 1) (hi := (names.length : Int)) (by omega) (by omega) (by omega) (fun i ys H'' => St1 H0 ps a3 a4 a5 S Hs H'' /\ ∃ js, ys = qq0 js /\ js.length <= i /\ ∀ j ∈ js, k < j /\ j < names.length /\ (gd S j = ("plain" : Str) \/ gd S j = ("frame" : Str))) ⟨s, [], rfl, Nat.le_refl _, by simp⟩ ?_ ?_ ?_
  ·rintro i ys H'' hi ⟨_, js, rfl, hl, _⟩
   show (js.map _).length <= _
   rw [List.length_map]; exact L9 (by omega)
  ·rintro i ys H'' hi ⟨s2, js, rfl, hl, hj⟩
   have ei : (k : Int) + 1 + (i : Int) = ((k + 1 + i : Nat) : Int) := by omega
   rw [ei]
   have hlt : k + 1 + i < names.length := by omega
   lk
   refine L8 (SqL.of s2.h4) (qb4 (by rw [g.ls]; exact hlt)) ?_
   lk
   refine ⟨L9 (by show 2 <= 1000; decide), fun t ht => ?_⟩
   refine .inl (xx7 (xs := B2 [("plain" : Str), ("frame" : Str)]) (.inl (SqL.of A8)) rfl rfl ?_)
   rw [T7]
   lk
   have s3 := s2.lay ht (.lst [V.str ("plain" : Str), V.str ("frame" : Str)])
   by_cases hm : gd S (k + 1 + i) ∈ [("plain" : Str), ("frame" : Str)]
   ·rw [decide_eq_true hm]
    lk
    refine ⟨s3, js ++ [k + 1 + i], by simp [qq0], by simp; exact hl, fun j hj' => ?_⟩
    rcases List.mem_append.mp hj' with h | h
    ·exact hj j h
    ·have : j = k + 1 + i := by simpa using h
     subst this
     refine ⟨by omega, hlt, ?_⟩
     simpa using hm
   ·rw [decide_eq_false hm]
    lk
    exact ⟨s3, js, rfl, by omega, hj⟩
  ·rintro ys H'' ⟨s2, js, rfl, hl, hj⟩ a7 h7
   lk
   have s3 := s2.lay h7 (.lst (qq0 js))
   have n7 : a7 ∉ ps := s2.P.fresh h7
   generalize hH3 : upd H'' a7 (.lst (qq0 js)) = H3 at *
   have h73 : H3 a7 = some (.lst (qq0 js)) := by rw [<- hH3, A8]
   have ljs : js.length <= names.length := by omega
   refine qa5 (SqL.of h73) (fun i ys H4 => H4 = H3 /\ ∃ is, ys = qq0 is /\ is.length <= i /\ ∀ j ∈ is, (k < j /\ j < names.length /\ (gd S j = ("plain" : Str) \/ gd S j = ("frame" : Str))) /\ gd names j ∉ Hs) ⟨rfl, [], rfl, Nat.le_refl _, by simp⟩ ?_ ?_ ?_ ?_
   ·rintro i ys H4 hi ⟨_, is, rfl, hl', _⟩
    have hi : i <= (js.map _).length := hi
    rw [List.length_map] at hi
    show (is.map _).length <= _
    rw [List.length_map]; exact L9 (by omega)
   ·rintro i ys H4 hi ⟨rfl, _⟩
    exact SqL.of h73
   ·rintro i x ys H4 hx ⟨rfl, is, rfl, hl', hi'⟩
    have hx : (js.map fun (j : Nat) => V.int (j : Int))[i]? = some x := hx
    rw [List.getElem?_map] at hx
    obtain ⟨j, hj1, rfl⟩ := Option.map_eq_some_iff.mp hx
    have hjj := hj j (List.mem_of_getElem? hj1)
    lk
    refine L8 (SqL.of (s3.P.same _ _ hN)) (qb4 hjj.2.1) ?_
    lk
    refine .inl (qt3 (xs := B2 Hs) (.inl (SqL.of s3.h5)) rfl (V6 Hs) ?_)
    rw [T7]
    lk
    by_cases hm : gd names j ∈ Hs
    ·rw [decide_eq_true hm, Bool.not_true]
     lk
     exact ⟨rfl, is, rfl, by omega, hi'⟩
    ·rw [decide_eq_false hm, Bool.not_false]
     lk
     refine ⟨rfl, is ++ [j], by simp [qq0], by simp; exact hl', fun j' hj' => ?_⟩
     rcases List.mem_append.mp hj' with h | h
     ·exact hi' j' h
     ·have : j' = j := by simpa using h
      subst this; exact ⟨hjj, hm⟩
   ·rintro ys H4 ⟨rfl, is, rfl, hl', hi'⟩ b7 hb7
    lk
    have s4 := s3.lay hb7 (.lst (qq0 is))
    have nb7 : b7 ∉ ps := s3.P.fresh hb7
    generalize hH5 : upd H4 b7 (.lst (qq0 is)) = H5 at *
    have h75 : H5 b7 = some (.lst (qq0 is)) := by rw [<- hH5, A8]
    have lis : is.length <= 26 := by
     have h : is.length <= (js.map fun (j : Nat) => V.int (j : Int)).length := hl'
     rw [List.length_map] at h; omega
    refine ⟨L9 (by decide), fun t ht => ?_⟩
    refine yx6 (d := .list (xt9 is)) (e := .list []) (W5.mpr ⟨b7, _, rfl, SqL.of (L5 h75 ht), xn4 is⟩) (W5.mpr ⟨t, [], rfl, SqL.of A8, Q5⟩) (by rw [PyData.depth, wu3]; decide) ?_
    rw [yi0]
    have s5 := s4.lay ht (.lst [])
    have h76 : (upd H5 t (.lst [])) b7 = some (.lst (qq0 is)) := L5 h75 ht
    generalize hH6 : upd H5 t (.lst []) = H6 at *
    lk
    by_cases he : is = []
    ·rw [decide_eq_true he]
     lk
     refine .inl (qy3 s5.h4 (j := k) (by rw [C1]; exact we1 kS) ?_)
     rw [qu2]
     exact q _ _ _ _ (s5.set4 A _) (g.room hk hf)
    ·rw [decide_eq_false he]
     lk
     have hpos : 0 < is.length := List.length_pos_iff.mpr he
     obtain ⟨p, hp, ep⟩ := ya7 (ps := ps) (i := k) (by omega)
     refine L8 (SqL.of s5.h3) ep ?_
     lk
     refine O8 (.inl (SqL.of h76)) ?_
     lk
     have li : (qq0 is).length = is.length := List.length_map _
     rw [li]
     obtain ⟨m, hm⟩ := s5.P.pots p hp
     refine ⟨p, (is.length : Int), m, rfl, hm, by omega, by omega, fun r m' r0 r1 => ?_⟩
     have s6 := s5.take A hp m'
     have er : r = ((r.toNat : Nat) : Int) := by omega
     obtain ⟨j, hj1, ej⟩ := yt2 (js := is) (i := r.toNat) (by omega)
     rw [<- er] at ej
     refine L8 (SqL.of (V5 h76 nb7 hp)) ej ?_
     obtain ⟨⟨k1, k2, k3⟩, k4⟩ := hi' j hj1
     refine L8 (SqL.of (s6.P.same _ _ hN)) (qb4 k2) ?_
     lk
     refine .inl (qy3 s6.h5 (j := k) (by rw [C1]; exact we1 (by rw [g.lh]; exact hk)) ?_)
     rw [qu2]
     exact q _ _ _ _ (s6.set5 A _) (g.put ne hk hf k1 k2 k3 k4)
 ·rw [decide_eq_false hf]; refine qn7 ?_
  lk
  exact q S Hs H' w7 s (g.keep hf)
theorem xe5 : ∀ xs : List Str, qp5 (sDa xs) = true
 | [] => by show qp5 [] = true; rw [qp5]
 | x :: xs => by show qp5 (.str x :: sDa xs) = true; rw [qp5, xe5 xs, fix]; rfl
theorem we2 (r : Row) : fix r.da = true := by
 unfold Row.da
 simp [fix, qp5, xe5]
theorem ql7 : ∀ rs : List Row, qp5 (rs.map Row.da) = true
 | [] => by show qp5 [] = true; rw [qp5]
 | r :: rs => by show qp5 (r.da :: rs.map Row.da) = true; rw [qp5, we2, ql7 rs]; rfl
theorem qb5 {b p : Addr} (h : b ≠ p) : b ∉ [p] := by simpa using h
theorem we3 {H H' : Hp} {p : Addr} {xs : List V} (h : But [p] H H') (hp : H p = some (.lst xs)) : qn8 H H' := by
 refine ⟨fun b ys e => h b _ e (qb5 ?_), fun b o ys e => h b _ e (qb5 ?_)⟩
 ·rintro rfl; rw [hp] at e; cases e
 ·rintro rfl; rw [hp] at e; cases e
theorem wx8 {H : Hp} {p : Addr} {xs ys : List V} (hp : H p = some (.lst xs)) : qn8 H (upd H p (.lst ys)) := we3 (But.upd (by simp) _) hp
section
variable {H0 H' H'' : Hp} {ps : List Addr} {a3 a4 a5 : Addr} {S Hs : List Str}
theorem P0.but {p : Addr} {n : Int} (P : P0 H0 ps H') (hp : p ∈ ps) (b : But [p] H' H'') (h : H'' p = some (.lst [.int n])) : P0 H0 ps H'' := by
 refine ⟨fun a o e => b a o (P.same a o e) (qb5 ?_), P.new, fun p' hp' => ?_⟩
 ·rintro rfl; rw [P.new _ hp] at e; cases e
 ·by_cases e : p' = p
  ·rw [e]; exact ⟨n, h⟩
  ·obtain ⟨m, q⟩ := P.pots p' hp'
   exact ⟨m, b _ _ q (qb5 e)⟩
theorem qg0 {a p : Addr} {o : HO} (b : But [p] H' H'') (h : H' a = some o) (ha : a ∉ ps) (hp : p ∈ ps) : H'' a = some o := by
 refine b a o h (qb5 ?_)
 rintro rfl; exact ha hp
theorem St1.but {p : Addr} {n : Int} (s : St1 H0 ps a3 a4 a5 S Hs H') (A : wk6 H0 ps a3 a4 a5) (hp : p ∈ ps) (b : But [p] H' H'') (h : H'' p = some (.lst [.int n])) : St1 H0 ps a3 a4 a5 S Hs H'' :=
 ⟨s.P.but hp b h, qg0 b s.h3 A.n3 hp, qg0 b s.h4 A.n4 hp, qg0 b s.h5 A.n5 hp⟩
theorem St1.put {a : Addr} (s : St1 H0 ps a3 a4 a5 S Hs H') (h : H0 a = none) (ha : a ∉ ps) (n3 : a ≠ a3) (n4 : a ≠ a4) (n5 : a ≠ a5) (o : HO) : St1 H0 ps a3 a4 a5 S Hs (upd H' a o) :=
 ⟨s.P.put h ha o, by rw [B8 n3.symm]; exact s.h3, by rw [B8 n4.symm]; exact s.h4, by rw [B8 n5.symm]; exact s.h5⟩
end
theorem xn5 {H : Hp} {d : PyData} {v : V} (h : Dv K H d v) : ∀ {ds : List PyData} {vs : List V} (k : Nat), Dvs K H ds vs -> Dvs K H (V1 ds k d) (V1 vs k v)
 | ds, vs, 0, t => by unfold V1; simpa using M7 h t
 | [], vs, k + 1, t => by
   rw [Dvs] at t; subst t
   unfold V1; simpa using M7 h Q5
 | e :: ds, vs, k + 1, t => by
   rw [Dvs] at t
   obtain ⟨w, r, rfl, h1, h2⟩ := t
   have := xn5 h k h2
   unfold V1 at this ⊢
   simpa using M7 h1 this
theorem xn6 {α β : Type} (f : α -> β) (l : List α) (k : Nat) (x : α) : V1 (l.map f) k (f x) = (V1 l k x).map f := by
 unfold V1; simp [List.map_take, List.map_drop]
theorem xe6 {α : Type} (l : List α) (k : Nat) (x : α) : (V1 l k x).Perm (x :: l) := by
 unfold V1
 have := List.perm_middle (l₁ := l.take k) (l₂ := l.drop k) (a := x)
 rwa [List.take_append_drop] at this
theorem yi1 {α : Type} (l : List α) (k : Nat) (x : α) : (V1 l k x).length = l.length + 1 := (xe6 l k x).length_eq
noncomputable def qz5 (names S : List Str) (i : Nat) : List Str := ((List.range i).filter fun k => decide (gd S k = ("plain" : Str) \/ gd S k = ("anew" : Str))).map (gd names)
theorem wk7 (names S : List Str) (i : Nat) : (qz5 names S i).length <= i := by
 unfold qz5
 rw [List.length_map]
 exact Nat.le_trans (List.length_filter_le _ _) (by rw [List.length_range]; exact Nat.le_refl _)
theorem xu1 {H0 : Hp} {ps : List Addr} {a3 a4 a5 nm : Addr} {names S Hs : List Str} {R : VK} {σ : St} (h2 : σ[2]? = some (some (.ref nm))) (h4 : σ[4]? = some (some (.ref a4))) (hN : H0 nm = some (.lst (B2 names))) (h26 : names.length <= 26) (ls : S.length = names.length)
 (s : St1 H0 ps a3 a4 a5 S Hs H)
 (q : ∀ (a : Addr) (H1 H' : Hp), St1 H0 ps a3 a4 a5 S Hs H1 -> H1 a = none -> H' = upd H1 a (.lst (B2 (qb3 names S))) -> R (.ref a) H') :
 P7 [some 2, some 4, none] (qf2 (A6 (tCB (N4 K) (A6 (A7 2) B6)) B6)) (B7 2) (E4 (tOp (ql1 K false) (tOp (E7 K) (A7 1) (A7 2)) (O5 (A6 (tC (.str ("plain" : Str))) (A6 (tC (.str ("anew" : Str))) B6))))) (tOp (E7 K) (A7 0) (A7 2)) σ H R := by
 have eg : qe7 [some 2, some 4, none] σ = [some (.ref nm), some (.ref a4), none] := by unfold qe7; simp [h2, h4]
 refine qt2 (wd9 (W6 (xc7 (W6 (S1 h2 (V2 (O8 (.inl (SqL.of (s.P.same _ _ hN))) (V2 ?_))))))))
 rw [C1, eg]
 refine qf7 (n := (names.length : Int)) (by omega) (by omega) (fun i ys H' => St1 H0 ps a3 a4 a5 S Hs H' /\ ys = B2 (qz5 names S i)) ⟨s, rfl⟩ ?_ ?_ ?_
 ·rintro i ys H' hi ⟨_, rfl⟩
  rw [C1]
  have := wk7 names S i
  exact L9 (by omega)
 ·rintro i ys H' hi ⟨s2, rfl⟩
  have hlt : i < names.length := by omega
  lk
  refine L8 (SqL.of s2.h4) (qb4 (by rw [ls]; exact hlt)) ?_
  lk
  refine ⟨L9 (by show 2 <= 1000; decide), fun t ht => ?_⟩
  refine .inl (xx7 (xs := B2 [("plain" : Str), ("anew" : Str)]) (.inl (SqL.of A8)) rfl rfl ?_)
  rw [T7]
  lk
  have s3 := s2.lay ht (.lst [V.str ("plain" : Str), V.str ("anew" : Str)])
  have er : qz5 names S (i + 1) = qz5 names S i ++ (if decide (gd S i = ("plain" : Str) \/ gd S i = ("anew" : Str)) = true then [gd names i] else []) := by
   unfold qz5
   rw [List.range_succ, List.filter_append, List.map_append]
   by_cases h : decide (gd S i = ("plain" : Str) \/ gd S i = ("anew" : Str)) = true
   ·rw [if_pos h, List.filter_cons, if_pos h]; rfl
   ·rw [if_neg h, List.filter_cons, if_neg h]; rfl
  by_cases hm : gd S i ∈ [("plain" : Str), ("anew" : Str)]
  ·rw [decide_eq_true hm]
   lk
   refine L8 (SqL.of (s3.P.same _ _ hN)) (qb4 hlt) ?_
   refine ⟨s3, ?_⟩
   have hm' : gd S i = ("plain" : Str) \/ gd S i = ("anew" : Str) := by simpa using hm
   rw [er, if_pos (decide_eq_true hm')]
   simp [B2]
  ·rw [decide_eq_false hm]
   lk
   refine ⟨s3, ?_⟩
   have hm' : ¬ (gd S i = ("plain" : Str) \/ gd S i = ("anew" : Str)) := by simpa using hm
   rw [er, if_neg (by simpa using hm'), List.append_nil]
 ·rintro ys H' ⟨s2, rfl⟩ a ha
  exact q a H' _ s2 ha rfl
def xn7 (K : Fg) : TS :=
 (C6 (G0 (C8 (O3 K) [] E0 (A6 (tOp (E7 K) (A7 3) (A7 6)) (A6 (P7 [some 5, none] (qh6 K (A7 8)) (B7 1) (E4 (tOp (ql1 K true) (A7 1) (A7 0))) (A7 1)) B6))) (B7 10))
 (C6 (M8 (E4 (tOp (ql1 K false) (tOp (E7 K) (A7 2) (A7 6)) (A7 5)))
 (G0 (qp3 B6) (B7 10)) G7)
 (C6 (G0 (qp3 (A6 (tOp (E7 K) (A7 2) (A7 6)) (A6 (tOp (E7 K) (A7 4) (A7 6)) (A6 (tOp (E7 K) (A7 5) (A7 6)) (A6 (A7 10) (A6 (C8 (O3 K) [] E0 (A6 (tOp (E7 K) (A7 3) (A7 6)) (A6 (A7 8) B6))) B6)))))) (B7 11))
 (qf1 (tBM K "list" qt0 (A7 9) (A6 (C8 (G6 K) [] E0 (A6 (tOp (E7 K) (A7 3) (A7 6)) (A6 (tOp (L7 K) (tCB (N4 K) (A6 (A7 9) B6)) (tC (.int 1))) B6))) (A6 (A7 11) B6)))))))
structure St2 (K : Fg) (H0 : Hp) (ps : List Addr) (a3 a4 a5 a8 a9 : Addr) (names S Hs : List Str) (us : List V) (rs : List Row) (H' : Hp) : Prop where
 s : St1 H0 ps a3 a4 a5 S Hs H'
 h8 : H' a8 = some (.lst (B2 (qb3 names S)))
 h9 : H' a9 = some (.lst us)
 d : Dvs K H' (rs.map Row.da) us
structure xk4 (H0 : Hp) (ps : List Addr) (a3 a4 a5 a8 a9 : Addr) : Prop where
 A : wk6 H0 ps a3 a4 a5
 n8 : a8 ∉ ps
 n9 : a9 ∉ ps
 f9 : H0 a9 = none
 n98 : a9 ≠ a8
 n93 : a9 ≠ a3
 n94 : a9 ≠ a4
 n95 : a9 ≠ a5
section
variable {H0 H' H'' : Hp} {ps : List Addr} {a3 a4 a5 a8 a9 : Addr} {names S Hs : List Str} {us : List V} {rs : List Row}
theorem St2.lay (s : St2 K H0 ps a3 a4 a5 a8 a9 names S Hs us rs H') {t : Addr} (h : H' t = none) (o : HO) : St2 K H0 ps a3 a4 a5 a8 a9 names S Hs us rs (upd H' t o) :=
 ⟨s.s.lay h o, L5 s.h8 h, L5 s.h9 h, Dvs.same (B1.new h o) _ _ s.d⟩
theorem St2.but {p : Addr} {n m : Int} (s : St2 K H0 ps a3 a4 a5 a8 a9 names S Hs us rs H') (A : xk4 H0 ps a3 a4 a5 a8 a9) (hp : p ∈ ps) (h0 : H' p = some (.lst [.int m])) (b : But [p] H' H'') (h : H'' p = some (.lst [.int n])) : St2 K H0 ps a3 a4 a5 a8 a9 names S Hs us rs H'' :=
 ⟨s.s.but A.A hp b h, qg0 b s.h8 A.n8 hp, qg0 b s.h9 A.n9 hp, Dvs.tupK (we3 b h0) _ _ (ql7 rs) s.d⟩
end
theorem ya8 {H0 H' : Hp} {ps : List Addr} {a3 a4 a5 a8 a9 nm : Addr} {names S Hs : List Str} {us : List V} {rs : List Row} {D : P4} {i : Nat} {v0 v1 w7 w10 w11 : Option V} (A : xk4 H0 ps a3 a4 a5 a8 a9) (hN : H0 nm = some (.lst (B2 names))) (h26 : names.length <= 26) (hps : ps.length = names.length) (g : ql6 names S Hs 0) (hi : i < names.length)
 (s : St2 K H0 ps a3 a4 a5 a8 a9 names S Hs us rs H') (hl : us.length = i)
 (q : ∀ k r u H'' x y, xn3 names S Hs i r -> St2 K H0 ps a3 a4 a5 a8 a9 names S Hs (V1 us k u) (V1 rs k r) H'' -> D.nx [v0, v1, some (.ref nm), some (.ref a3), some (.ref a4), some (.ref a5), some (.int (i : Nat)), w7, some (.ref a8), some (.ref a9), x, y] H'') :
 xn7 K D [v0, v1, some (.ref nm), some (.ref a3), some (.ref a4), some (.ref a5), some (.int (i : Nat)), w7, some (.ref a8), some (.ref a9), w10, w11] H' := by
 have abl : (qb3 names S).length <= 26 := Nat.le_trans (wk7 names S names.length) h26
 obtain ⟨p, hp, ep⟩ := ya7 (ps := ps) (i := i) (by omega)
 unfold xn7
 lk
 refine L8 (SqL.of s.s.h3) ep ?_
 lk
 refine qa5 (xs := B2 (qb3 names S)) (SqL.of s.h8) (fun j ys H2 => H2 = H' /\ ys = B2 (((qb3 names S).take j).filter fun x => decide (x ∉ Hs))) ⟨rfl, rfl⟩ ?_ ?_ ?_ ?_
 ·rintro j ys H2 hj ⟨_, rfl⟩
  rw [C1]
  refine Nat.le_trans (List.length_filter_le _ _) ?_
  rw [List.length_take]
  exact L9 (by omega)
 ·rintro j ys H2 hj ⟨rfl, _⟩
  exact SqL.of s.h8
 ·rintro j x ys H2 hx ⟨rfl, rfl⟩
  obtain ⟨y, hy, rfl⟩ := T4 hx
  lk
  refine .inl (qt3 (xs := B2 Hs) (.inl (SqL.of s.s.h5)) rfl (V6 Hs) ?_)
  rw [T7]
  lk
  have er : ((qb3 names S).take (j + 1)).filter (fun x => decide (x ∉ Hs)) = ((qb3 names S).take j).filter (fun x => decide (x ∉ Hs)) ++ (if decide (y ∉ Hs) = true then [y] else []) := by
   rw [List.take_add_one, hy, List.filter_append]
   by_cases h : y ∈ Hs
   ·simp [h]
   ·simp [h]
  by_cases hm : y ∈ Hs
  ·rw [decide_eq_true hm, Bool.not_true]
   lk
   refine ⟨rfl, ?_⟩
   rw [er, if_neg (by simpa using hm), List.append_nil]
  ·rw [decide_eq_false hm, Bool.not_false]
   lk
   refine ⟨rfl, ?_⟩
   rw [er, if_pos (by simpa using hm)]
   simp [B2]
 ·rintro ys H2 ⟨rfl, rfl⟩ t1 ht1
  rw [C1, List.take_length]
  generalize hxs : (qb3 names S).filter (fun x => decide (x ∉ Hs)) = xs
  have lxs : xs.length <= 26 := by rw [<- hxs]; exact Nat.le_trans (List.length_filter_le _ _) abl
  lk
  obtain ⟨m, hm⟩ := s.s.P.pots p hp
  have s1 := s.lay ht1 (.lst (B2 xs))
  have hm1 : (upd H2 t1 (.lst (B2 xs))) p = some (.lst [.int m]) := L5 hm ht1
  refine ⟨p, t1, m, xs, rfl, hm1, SqL.of A8, by omega, D8 hm ht1, fun t sh n' H3 so bt hp3 ht3 => ?_⟩
  have s3 := s1.but A hp hm1 bt hp3
  lk
  refine L8 (SqL.of (s3.s.P.same _ _ hN)) (qb4 hi) ?_
  lk
  refine .inl (xx7 (xs := B2 Hs) (.inl (SqL.of s3.s.h5)) rfl (V6 Hs) ?_)
  rw [T7]
  lk
  have rest : ∀ (H4 : Hp) (ts : Addr) (shu : List Str) (n4 : Int), St2 K H0 ps a3 a4 a5 a8 a9 names S Hs us rs H4 -> H4 p = some (.lst [.int n4]) -> H4 ts = some (.tup (B2 shu)) -> ((gd names i ∈ Hs /\ shu = []) \/ (gd names i ∉ Hs /\ qi1 shu xs)) ->
   C6 (G0 (qp3 (A6 (tOp (E7 K) (A7 2) (A7 6)) (A6 (tOp (E7 K) (A7 4) (A7 6)) (A6 (tOp (E7 K) (A7 5) (A7 6)) (A6 (A7 10) (A6 (C8 (O3 K) [] E0 (A6 (tOp (E7 K) (A7 3) (A7 6)) (A6 (A7 8) B6))) B6)))))) (B7 11))
    (qf1 (tBM K "list" qt0 (A7 9) (A6 (C8 (G6 K) [] E0 (A6 (tOp (E7 K) (A7 3) (A7 6)) (A6 (tOp (L7 K) (tCB (N4 K) (A6 (A7 9) B6)) (tC (.int 1))) B6))) (A6 (A7 11) B6)))) D
    [v0, v1, some (.ref nm), some (.ref a3), some (.ref a4), some (.ref a5), some (.int (i : Nat)), w7, some (.ref a8), some (.ref a9), some (.ref ts), w11] H4 := by
   intro H4 ts shu n4 s4 hp4 hts hsh
   lk
   refine L8 (SqL.of (s4.s.P.same _ _ hN)) (qb4 hi) ?_
   lk
   refine L8 (SqL.of s4.s.h4) (qb4 (by rw [g.ls]; exact hi)) ?_
   lk
   refine L8 (SqL.of s4.s.h5) (qb4 (by rw [g.lh]; exact hi)) ?_
   lk
   refine L8 (SqL.of s4.s.h3) ep ?_
   lk
   refine ⟨p, a8, n4, qb3 names S, rfl, hp4, SqL.of s4.h8, by omega, fun z => A.n8 (z ▸ hp), fun tb bs n5 H5 sb bt5 hp5 htb => ?_⟩
   have s5 := s4.but A hp hp4 bt5 hp5
   have hts5 : H5 ts = some (.tup (B2 shu)) := (we3 bt5 hp4).1 _ _ hts
   lk
   refine ⟨L9 (by show 5 <= 1000; decide), fun tr htr => ?_⟩
   have s6 := s5.lay htr (.tup [V.str (gd names i), V.str (gd S i), V.str (gd Hs i), V.ref ts, V.ref tb])
   have hp6 : (upd H5 tr (.tup [V.str (gd names i), V.str (gd S i), V.str (gd Hs i), V.ref ts, V.ref tb])) p = some (.lst [.int n5]) := L5 hp5 htr
   have hts6 : (upd H5 tr (.tup [V.str (gd names i), V.str (gd S i), V.str (gd Hs i), V.ref ts, V.ref tb])) ts = some (.tup (B2 shu)) := L5 hts5 htr
   have htb6 : (upd H5 tr (.tup [V.str (gd names i), V.str (gd S i), V.str (gd Hs i), V.ref ts, V.ref tb])) tb = some (.tup (B2 bs)) := L5 htb htr
   have htr6 : (upd H5 tr (.tup [V.str (gd names i), V.str (gd S i), V.str (gd Hs i), V.ref ts, V.ref tb])) tr = some (.tup [V.str (gd names i), V.str (gd S i), V.str (gd Hs i), V.ref ts, V.ref tb]) := A8
   generalize hH6 : upd H5 tr (.tup [V.str (gd names i), V.str (gd S i), V.str (gd Hs i), V.ref ts, V.ref tb]) = H6 at *
   have dr : Dv K H6 (Row.da ⟨gd names i, gd S i, gd Hs i, shu, bs⟩) (.ref tr) := by
    refine N0.mpr ⟨tr, _, rfl, SqT.of htr6, M7 (R3.mpr rfl) (M7 (R3.mpr rfl) (M7 (R3.mpr rfl) (M7 ?_ (M7 ?_ Q5))))⟩
    ·exact N0.mpr ⟨ts, _, rfl, SqT.of hts6, R7.mpr rfl⟩
    ·exact N0.mpr ⟨tb, _, rfl, SqT.of htb6, R7.mpr rfl⟩
   lk
   refine ⟨.inl ⟨rfl, _, SqL.of s6.h9⟩, ?_⟩
   lk
   refine L8 (SqL.of s6.s.h3) ep ?_
   lk
   refine O8 (.inl (SqL.of s6.h9)) ?_
   lk
   refine ⟨p, (us.length : Int) + 1, n5, rfl, hp6, by omega, by omega, fun r n7 r0 r1 => ?_⟩
   have bt7 : But [p] H6 (upd H6 p (.lst [.int n7])) := But.upd (by simp) _
   have s7 := s6.but A hp hp6 bt7 A8
   have dr7 := Dv.tupK (we3 bt7 hp6) _ _ (we2 _) dr
   lk
   refine xx8 s7.h9 r0 (by omega) (Nat.lt_of_lt_of_le (by omega : us.length < 1000) (L9 (Nat.le_refl _))) ?_
   refine q r.toNat ⟨gd names i, gd S i, gd Hs i, shu, bs⟩ (.ref tr) _ _ _ ⟨rfl, rfl, rfl, ?_, sb⟩ ⟨s7.s.put A.f9 A.n9 A.n93 A.n94 A.n95 _, by rw [B8 A.n98.symm]; exact s7.h8, A8, ?_⟩
   ·rw [hxs]; exact hsh
   ·rw [<- xn6]
    exact Dvs.tupK (wx8 s7.h9) _ _ (by rw [xn6]; exact ql7 _) (xn5 dr7 r.toNat s7.d)
  by_cases hin : gd names i ∈ Hs
  ·rw [decide_eq_true hin]
   refine qx7 (ql0 (xx4 (V2 ⟨L9 (by show 0 <= 1000; decide), fun t2 ht2 => E3 ?_⟩)))
   exact rest _ t2 [] n' (s3.lay ht2 _) (L5 hp3 ht2) A8 (.inl ⟨hin, rfl⟩)
  ·rw [decide_eq_false hin]
   refine qn7 (wd8 ?_)
   exact rest _ t sh n' s3 hp3 ht3 (.inr ⟨hin, so⟩)
theorem ya9 (i : Nat) : B2 (List.replicate i ("" : Str)) ++ [V.str ("" : Str)] = B2 (List.replicate (i + 1) ("" : Str)) := by
 rw [List.replicate_succ']; simp [B2]
theorem wx9 (h : Y5 K vs H Q E) : qd2 K { nx := fun _ H' => Q .non H', rt := Q } (M2 ["_law_script", "_law_at", "_law_names_here", "_law_pots", "_law_sorts", "_law_hosts", "_law_k", "_law_free", "_law_able", "_law_rows_here", "_law_shuts", "_law_row"] vs) H := by
 obtain ⟨sc, nm, ns, at_, names, rfl, hS, h0, hN, h26, nd, nok, q⟩ := h
 have ne : ∀ x ∈ names, x ≠ ("" : Str) := fun x hx => by rintro rfl; have := (nok _ hx); have h1 := this.one; exact absurd h1 (by decide)
 show qd2 K _ [some (.ref sc), some (.int at_), some (.ref nm), none, none, none, none, none, none, none, none, none] H
 unfold qd2
 refine qa7 (ql0 (xt8 rfl rfl rfl hS h0 hN h26 fun a3 ps H1 P1 lps f3 n3 h31 => E3 ?_))
 refine qa7 (ql0 (xk3 rfl P1 h31 n3 (by omega) fun a4 S H2 P2 h32 f4 n4 n43 lS sS h42 => E3 ?_))
 refine qa7 (ql0 (qt2 (wg5 (S1 rfl ?_))))
 refine qa5 (SqL.of (P2.same _ _ hN)) (fun i ys H' => H' = H2 /\ ys = B2 (List.replicate i ("" : Str))) ⟨rfl, rfl⟩ ?_ ?_ ?_ ?_
 ·rintro i ys H' hi ⟨_, rfl⟩
  rw [C1] at hi ⊢
  rw [List.length_replicate]; exact L9 (by omega)
 ·rintro i ys H' hi ⟨rfl, _⟩
  exact SqL.of (P2.same _ _ hN)
 ·rintro i x ys H' hx ⟨rfl, rfl⟩
  refine E3 (yl5 (qx7 (yp7 ⟨rfl, ya9 i⟩)))
 rintro ys H' ⟨rfl, rfl⟩ a5 h5
 rw [C1]
 have f5 : H a5 = none := P2.same.free h5
 have n5 : a5 ∉ ps := P2.fresh h5
 have A : wk6 H ps a3 a4 a5 := ⟨f3, f4, f5, n3, n4, n5, n43.symm, D8 h32 h5, D8 h42 h5⟩
 have s0 : St1 H ps a3 a4 a5 S (List.replicate names.length ("" : Str)) (upd H' a5 (.lst (B2 (List.replicate names.length ("" : Str))))) := ⟨P2.lay h5 _, L5 h32 h5, L5 h42 h5, A8⟩
 have g0 : ql6 names S (List.replicate names.length ("" : Str)) names.length := xk2 (by omega) sS
 refine E3 ?_
 refine qa7 (wg4 (xy0 (W6 (xc7 (W6 (S1 rfl (V2 (O8 (.inl (SqL.of (s0.P.same _ _ hN))) (V2 ?_)))))))))
 rw [C1]
 refine yf9 (n := names.length) (by omega) (fun i σ H' => ∃ S Hs w6 w7, σ = [some (.ref sc), some (.int at_), some (.ref nm), some (.ref a3), some (.ref a4), some (.ref a5), w6, w7, none, none, none, none] /\ St1 H ps a3 a4 a5 S Hs H' /\ ql6 names S Hs (names.length - i)) ⟨S, _, none, none, rfl, s0, g0⟩ ?_ ?_
 ·rintro i σ H3 hi ⟨S, Hs, w6, w7, rfl, s, g⟩
  have ek : (names.length : Int) - 1 - i = ((names.length - 1 - i : Nat) : Int) := by omega
  rw [ek]
  refine E3 ?_
  refine xu0 (w6 := none) A hN h26 lps ne s (k := names.length - 1 - i) (by rw [show names.length - 1 - i + 1 = names.length - i by omega]; exact g) (by omega) fun S' Hs' H4 w s' g' => ?_
  exact ⟨S', Hs', _, w, rfl, s', by rw [show names.length - (i + 1) = names.length - 1 - i by omega]; exact g'⟩
 rintro σ H3 ⟨S, Hs, w6, w7, rfl, s, g⟩
 rw [Nat.sub_self] at g
 refine qa7 (ql0 (xu1 rfl rfl hN h26 g.ls s fun a8 H4 H5 s4 h8 e5 => E3 ?_))
 have s5 := s4.lay h8 (.lst (B2 (qb3 names S)))
 rw [<- e5] at s5
 have h85 : H5 a8 = some (.lst (B2 (qb3 names S))) := by rw [e5, A8]
 have n8 : a8 ∉ ps := s4.P.fresh h8
 refine qa7 (ql0 (xi1 (V2 ⟨L9 (by show 0 <= 1000; decide), fun a9 h9 => E3 ?_⟩)))
 have A2 : xk4 H ps a3 a4 a5 a8 a9 := ⟨A, n8, s5.P.fresh h9, s5.P.same.free h9, (D8 h85 h9).symm, (D8 s5.h3 h9).symm, (D8 s5.h4 h9).symm, (D8 s5.h5 h9).symm⟩
 have s6 : St2 K H ps a3 a4 a5 a8 a9 names S Hs [] [] (upd H5 a9 (.lst [])) := ⟨s5.lay h9 _, L5 h85 h9, A8, Q5⟩
 refine qa7 (wg4 (wd9 (W6 (xc7 (W6 (S1 rfl (V2 (O8 (.inl (SqL.of (s6.s.P.same _ _ hN))) (V2 ?_)))))))))
 rw [C1]
 refine qt1 (n := (names.length : Int)) (by omega) (by omega) (fun i σ H' => ∃ us rs l w6 x y, σ = [some (.ref sc), some (.int at_), some (.ref nm), some (.ref a3), some (.ref a4), some (.ref a5), w6, w7, some (.ref a8), some (.ref a9), x, y] /\ St2 K H ps a3 a4 a5 a8 a9 names S Hs us rs H' /\ us.length = i /\ rs.Perm l /\ l.length = i /\ ∀ j r, l[j]? = some r -> xn3 names S Hs j r) ⟨[], [], [], w6, none, none, rfl, s6, rfl, .nil, rfl, by intro j r h; simp at h⟩ ?_ ?_
 ·rintro i σ H6 hi ⟨us, rs, l, w6, x, y, rfl, s, hl, pm, hl2, ra⟩
  refine E3 ?_
  refine ya8 A2 hN h26 lps g (by omega) s hl fun k r u H7 x y hr s' => ?_
  refine ⟨_, _, l ++ [r], _, x, y, rfl, s', by rw [yi1, hl], (xe6 rs k r).trans ((pm.cons r).trans (List.perm_append_singleton r l).symm), by simp [hl2], fun j r' hj => ?_⟩
  rw [List.getElem?_append] at hj
  split at hj
  ·exact ra j r' hj
  ·rename_i hlt
   rw [List.getElem?_singleton] at hj
   split at hj
   ·have : j = i := by omega
    subst this
    cases hj; exact hr
   ·cases hj
 rintro σ H6 ⟨us, rs, l, w6, x, y, rfl, s, hl, pm, hl2, ra⟩
 refine xi0 (S1 rfl ?_)
 exact q a9 us rs H6 s.s.P.same A2.f9 s.h9 s.d ⟨S, Hs, l, pm, by omega, g, ra⟩
theorem yb0 {x : Str} {n : Option Str} (h : Q (.bl (decide (n = some x))) H) : O0 K (oV n) (.str x) H Q := by
 cases n with
 | none => refine xc8 rfl ?_; have e : (decide (oV none = V.str x)) = decide (none = some x) := by simp [oV]
           rw [e]; exact h
 | some y => refine xc8 rfl ?_; have e : (decide (oV (some y) = V.str x)) = decide (some y = some x) := by simp [oV]
             rw [e]; exact h
noncomputable def qd3 (rs : List Row) (n : Str) : Nat -> Option Str -> Bool
 | 0, _ => false
 | k + 1, h => if h = some n then true else qd3 rs n k (N1 rs h)
def W8 (K : Fg) : Sp := fun vs H Q _ => ∃ v n rs, vs = [v, .str n] /\ Rws K H v rs /\ rs.length <= 1000 /\ Q (.bl (qd3 rs n rs.length (N1 rs (some n)))) H
theorem wk8 (K : Fg) : ∀ vs H Q E, W8 K vs H Q E -> vs.length = ["rows", "name"].length := by rintro vs H Q E ⟨v, n, rs, rfl, _⟩; rfl
def Y6 (K : Fg) : TS :=
 (C6 (G0 (C8 (qb2 K) [] E0 (A6 (A7 0) (A6 (A7 1) B6))) (B7 2))
 (C6 (qn6 (qf2 (A6 (tCB (N4 K) (A6 (A7 0) B6)) B6)) (B7 3)
 (C6 (M8 (E4 (tOp (O0 K) (A7 2) (A7 1)))
 (M0 (tC (.bl true))) G7)
 (G0 (C8 (qb2 K) [] E0 (A6 (A7 0) (A6 (A7 2) B6))) (B7 2))))
 (M0 (tC (.bl false)))))
theorem wp4 (h : W8 K vs H Q E) : Y6 K { nx := fun _ H' => Q .non H', rt := Q } (M2 ["rows", "name", "host", "step"] vs) H := by
 obtain ⟨v, n, rs, rfl, hR, hl, q⟩ := h
 have hR' := hR
 obtain ⟨a, us, rfl, hq, hd⟩ := hR'
 have lus : us.length = rs.length := by have := hd.length; simpa using this
 show Y6 K _ [some (.ref a), some (.str n), none, none] H
 unfold Y6
 lk
 refine ⟨.ref a, some n, rs, rfl, hR, ?_⟩
 lk
 refine O8 hq ?_
 lk
 rw [lus]
 refine qt1 (n := (rs.length : Int)) (by omega) (by omega) (fun i σ H' => H' = H /\ ∃ h w, σ = [some (.ref a), some (.str n), some (oV h), w] /\ qd3 rs n rs.length (N1 rs (some n)) = qd3 rs n (rs.length - i) h) ⟨rfl, N1 rs (some n), none, rfl, rfl⟩ ?_ ?_
 ·rintro i σ H' hi ⟨rfl, h, w, rfl, e⟩
  have ek : rs.length - i = (rs.length - (i + 1)) + 1 := by omega
  rw [ek, qd3] at e
  lk
  refine yb0 ?_
  lk
  by_cases hn : h = some n
  ·rw [decide_eq_true hn]
   lk
   rw [if_pos hn] at e
   rw [e] at q; exact q
  ·rw [decide_eq_false hn]
   lk
   rw [if_neg hn] at e
   refine ⟨.ref a, h, rs, rfl, hR, ?_⟩
   lk
   exact ⟨rfl, _, _, rfl, e⟩
 ·rintro σ H' ⟨rfl, h, w, rfl, e⟩
  lk
  have z : rs.length - (rs.length : Int).toNat = 0 := by omega
  rw [z, qd3] at e
  rw [e] at q; exact q
theorem wy0 {H : Hp} : ∀ {ds es : List PyData} {us ws : List V}, Dvs K H ds us -> Dvs K H es ws -> Dvs K H (ds ++ es) (us ++ ws)
 | [], es, us, ws, h, h' => by rw [Dvs] at h; subst h; exact h'
 | d :: ds, es, us, ws, h, h' => by
   rw [Dvs] at h
   obtain ⟨v, r, rfl, h1, h2⟩ := h
   exact M7 h1 (wy0 h2 h')
noncomputable def G2 (rs : List Row) : List Row := rs.foldl (fun l r => if R0 l (some r.name) = none then l ++ [r] else l) []
theorem qb6 (l : List Row) (r : Row) : G2 (l ++ [r]) = if R0 (G2 l) (some r.name) = none then G2 l ++ [r] else G2 l := by
 unfold G2
 rw [List.foldl_append]; rfl
theorem qo7 (l : List Row) : (G2 l).length <= l.length := by
 unfold G2
 have : ∀ (l l' : List Row), (l.foldl (fun l r => if R0 l (some r.name) = none then l ++ [r] else l) l').length <= l.length + l'.length := by
  intro l
  induction l with
  | nil => intro l'; simp
  | cons r l ih =>
    intro l'
    rw [List.foldl_cons]
    refine Nat.le_trans (ih _) ?_
    split <;> simp <;> omega
 simpa using this l []
def W9 (K : Fg) : Sp := fun vs H Q _ => ∃ v rs, vs = [v] /\ Rws K H v rs /\ rs.length <= 900 /\
 ∀ t us H', B1 H H' -> H t = none -> H' t = some (.lst us) -> Dvs K H' ((G2 rs).map Row.da) us -> Q (.ref t) H'
theorem wk9 (K : Fg) : ∀ vs H Q E, W9 K vs H Q E -> vs.length = ["rows"].length := by rintro vs H Q E ⟨v, n, rfl, _⟩; rfl
def Y7 (K : Fg) : TS :=
 (C6 (G0 (O5 B6) (B7 1))
 (C6 (qn6 (qh6 K (A7 0)) (B7 2)
 (M8 (E4 (tOp xc6 (C8 (S4 K) [] E0 (A6 (A7 1) (A6 (tOp (E7 K) (A7 2) (tC (.int 0))) B6))) (tC .non)))
 (qf1 (tBM K "list" W0 (A7 1) (A6 (A7 2) B6))) G7))
 (M0 (A7 1))))
theorem wp5 (h : W9 K vs H Q E) : Y7 K { nx := fun _ H' => Q .non H', rt := Q } (M2 ["rows", "counted", "row"] vs) H := by
 obtain ⟨v, rs, rfl, ⟨a, us, rfl, hq, hd⟩, hl, q⟩ := h
 have lus : us.length = rs.length := by have := hd.length; simpa using this
 show Y7 K _ [some (.ref a), none, none] H
 unfold Y7
 refine qa7 (ql0 (xi1 (V2 ⟨L9 (by show 0 <= 1000; decide), fun t ft => E3 ?_⟩)))
 refine qa7 (wg4 (wg5 (S1 rfl ?_)))
 have s0 : B1 H (upd H t (.lst [])) := B1.new ft _
 have turn : ∀ i x σ H', us[i]? = some x -> (∃ xs w, σ = [some (.ref a), some (.ref t), w] /\ B1 H H' /\ H' t = some (.lst xs) /\ Dvs K H' ((G2 (rs.take i)).map Row.da) xs) -> ∀ (D : P4), (∀ σ' H'', (∃ xs w, σ' = [some (.ref a), some (.ref t), w] /\ B1 H H'' /\ H'' t = some (.lst xs) /\ Dvs K H'' ((G2 (rs.take (i + 1))).map Row.da) xs) -> D.nx σ' H'') ->
  B7 2 x σ H' fun σ2 H2 => (M8 (E4 (tOp xc6 (C8 (S4 K) [] E0 (A6 (A7 1) (A6 (tOp (E7 K) (A7 2) (tC (.int 0))) B6))) (tC .non))) (qf1 (tBM K "list" W0 (A7 1) (A6 (A7 2) B6))) G7) D σ2 H2 := by
  rintro i x σ H' hx ⟨xs, w, rfl, s, ht, hx'⟩ D k
  obtain ⟨d, hd1, hd2⟩ := (Dvs.same s _ _ hd).get' hx
  rw [List.getElem?_map] at hd1
  obtain ⟨r, hr, rfl⟩ := Option.map_eq_some_iff.mp hd1
  have hd2' := hd2
  obtain ⟨b, sv, bv, rfl, hb, hsv, hbv⟩ := V4 hd2
  have et : rs.take (i + 1) = rs.take i ++ [r] := by rw [List.take_add_one, hr]; rfl
  have lx : xs.length <= 900 := by
   have := hx'.length
   rw [List.length_map] at this
   have h2 := qo7 (rs.take i)
   rw [List.length_take] at h2
   omega
  refine E3 ?_
  lk
  refine P8 hb rfl ?_
  lk
  refine ⟨.ref t, some r.name, G2 (rs.take i), rfl, ⟨t, xs, rfl, .inl (SqL.of ht), hx'⟩, fun e => ?_, fun r' u e hu => ?_⟩
  ·lk
   rw [decide_eq_true rfl]
   x_go
   refine xm5 (yl6 (S1 rfl ⟨.inl ⟨rfl, _, SqL.of ht⟩, W6 (S1 rfl (V2 ?_))⟩))
   refine qf8 ht (Nat.lt_of_lt_of_le (by omega : xs.length < 1000) (L9 (Nat.le_refl _))) ?_
   refine k _ _ ⟨xs ++ [.ref b], _, rfl, T6 s ft _, A8, ?_⟩
   rw [et, qb6, if_pos e, List.map_append]
   exact wy0 (Dvs.tupK (wx8 ht) _ _ (ql7 _) hx') (M7 (Dv.tupK (wx8 ht) _ _ (we2 _) hd2') Q5)
  ·obtain ⟨b', _, _, rfl, _⟩ := V4 hu
   lk
   rw [decide_eq_false (by simp)]
   refine qn7 (wd8 ?_)
   refine k _ _ ⟨xs, _, rfl, s, ht, ?_⟩
   rw [et, qb6, if_neg (by rw [e]; exact fun z => by cases z)]
   exact hx'
 have fin : ∀ σ H', (∃ xs w, σ = [some (.ref a), some (.ref t), w] /\ B1 H H' /\ H' t = some (.lst xs) /\ Dvs K H' ((G2 (rs.take us.length)).map Row.da) xs) -> M0 (A7 1) { nx := fun _ H' => Q .non H', rt := Q } σ H' := by
  rintro σ H' ⟨xs, w, rfl, s, ht, hx'⟩
  rw [lus, List.take_length] at hx'
  exact xi0 (S1 rfl (q t xs H' s ft ht hx'))
 refine ⟨a, rfl, ?_⟩
 rcases hq with hq | hq
 ·exact .inl ⟨⟨us, s0.sqL hq⟩, qk6 (fun i σ H' => ∃ xs w, σ = [some (.ref a), some (.ref t), w] /\ B1 H H' /\ H' t = some (.lst xs) /\ Dvs K H' ((G2 (rs.take i)).map Row.da) xs) ⟨[], none, rfl, s0, A8, Q5⟩ (fun i σ H' _ p => by obtain ⟨_, _, _, s, _⟩ := p; exact s.sqL hq) (fun i x σ H' hx p => turn i x σ H' hx p _ fun _ _ z => z) fin⟩
 ·exact .inr ⟨⟨us, s0.sqT hq⟩, wv4 (fun i σ H' => ∃ xs w, σ = [some (.ref a), some (.ref t), w] /\ B1 H H' /\ H' t = some (.lst xs) /\ Dvs K H' ((G2 (rs.take i)).map Row.da) xs) ⟨[], none, rfl, s0, A8, Q5⟩ (fun i σ H' _ p => by obtain ⟨_, _, _, s, _⟩ := p; exact s.sqT hq) (fun i x σ H' hx p => turn i x σ H' hx p _ fun _ _ z => z) fin⟩
end My
namespace My
open PySem L2 PySem.StrLaws PySem.Builtin.Str
variable {K : Fg} {vs : List V} {H : Hp} {Q : VK} {E : XK}
theorem M5 {n : Nat} (h : n <= 100000) : n <= sizeLine := by rw [sizeLine_eq]; omega
theorem B1.tr {H H1 H2 : Hp} (a : B1 H H1) (b : B1 H1 H2) : B1 H H2 := fun c o e => b c o (a c o e)
theorem B1.put {H H1 : Hp} {p : Addr} (s : B1 H H1) (h : H p = none) (o : HO) : B1 H (upd H1 p o) := fun b u e => by
 have nb : b ≠ p := fun z => by rw [z, h] at e; cases e
 rw [B8 nb]; exact s b u e
theorem wy1 {H H' : Hp} {p : Addr} (s : B1 H H') (h : H' p = none) : H p = none := by
 cases e : H p with
 | none => rfl
 | some o => have := s _ _ e; rw [h] at this; cases this
theorem qi2 {H : Hp} {a b : Addr} {o : HO} (h : H a = some o) (g : H b = none) : a ≠ b := fun e => by rw [e, g] at h; cases h
theorem xe7 {d : Addr} {xs ys : List V} (h : H d = some (.lst xs)) : qn8 H (upd H d (.lst ys)) :=
 ⟨fun b zs e => by rw [B8 (fun z => by rw [z, h] at e; cases e)]; exact e, fun b o zs e => by rw [B8 (fun z => by rw [z, h] at e; cases e)]; exact e⟩
theorem yb1 {g : TG} {tb : TS} {D : P4} {σ : St} {H0 : Hp} {a : Addr} {xs : List V} (hq : SqL K H0 a xs \/ SqT K H0 a xs) (s0 : B1 H0 H) (Pv : Nat -> St -> Hp -> Prop) (h0 : Pv 0 σ H) (hk : ∀ i σ H', Pv i σ H' -> B1 H0 H')
 (hs : ∀ i x σ H, xs[i]? = some x -> Pv i σ H -> g x σ H fun σ2 H2 => tb { D with nx := PAt Pv (i + 1), ct := PAt Pv (i + 1), bk := D.nx } σ2 H2) (hd : ∀ σ H, Pv xs.length σ H -> D.nx σ H) :
 ∃ b, V.ref a = .ref b /\ (((∃ xs, SqL K H b xs) /\ xh9 g tb D σ (Itl K b) H) \/ ((∃ xs, SqT K H b xs) /\ xh9 g tb D σ (Itt K b) H)) := by
 rcases hq with hq | hq
 ·exact ⟨a, rfl, .inl ⟨⟨xs, s0.sqL hq⟩, qk6 Pv h0 (fun i σ H' _ p => (hk i σ H' p).sqL hq) hs hd⟩⟩
 ·exact ⟨a, rfl, .inr ⟨⟨xs, s0.sqT hq⟩, wv4 Pv h0 (fun i σ H' _ p => (hk i σ H' p).sqT hq) hs hd⟩⟩
theorem qz6 {g : TG} {tt : TT} {te : TE} {σ' : St} {H0 : Hp} {a : Addr} {xs : List V} (hq : SqL K H0 a xs \/ SqT K H0 a xs) (s0 : B1 H0 H) (Pv : Nat -> List V -> Hp -> Prop) (h0 : Pv 0 [] H) (hlen : ∀ i ys H, i <= xs.length -> Pv i ys H -> ys.length <= sizeLine) (hk : ∀ i ys H', Pv i ys H' -> B1 H0 H')
 (hs : ∀ i x ys H, xs[i]? = some x -> Pv i ys H -> g x σ' H fun σ2 H2 => tt σ2 H2 fun b H3 => if b = true then te σ2 H3 fun y H4 => PAt Pv (i + 1) (ys ++ [y]) H4 else PAt Pv (i + 1) ys H3)
 (hd : ∀ ys H, Pv xs.length ys H -> ∀ p, H p = none -> Q (.ref p) (upd H p (.lst ys))) :
 ∃ b, V.ref a = .ref b /\ (((∃ xs, SqL K H b xs) /\ qo5 g tt te σ' Q (Itl K b) H) \/ ((∃ xs, SqT K H b xs) /\ qo5 g tt te σ' Q (Itt K b) H)) := by
 rcases hq with hq | hq
 ·exact qa5 (s0.sqL hq) Pv h0 hlen (fun i ys H' _ p => (hk i ys H' p).sqL hq) hs hd
 ·refine ⟨a, rfl, .inr ⟨⟨xs, s0.sqT hq⟩, wd7 (n := xs.length) (fun i x => xs[i]? = some x) Pv h0 hlen (fun i ys H hi p => ?_) (fun i ys H x H' hi p y => ?_) (fun ys H p => ?_) (fun i x ys H _ hx p => hs i x ys H hx p) hd⟩⟩
  ·exact ⟨xs, xs[i], (hk i ys H p).sqT hq, by simp [hi]⟩
  ·exact ⟨y.1, y.2 xs ((hk i ys H p).sqT hq)⟩
  ·exact ⟨xs, (hk _ ys H p).sqT hq, Nat.le_refl _⟩
theorem B1.refl' {H : Hp} : B1 H H := fun _ _ e => e
theorem xk5 {r : Row} {v : V} (h : Dv K H r.da v) : ∃ b s t, v = .ref b /\ SqT K H b [.str r.name, .str r.sort, .str r.host, .ref s, .ref t] /\ SqT K H s (B2 r.shuts) /\ SqT K H t (B2 r.bars) := by
 obtain ⟨b, sv, bv, rfl, hb, h1, h2⟩ := V4 h
 obtain ⟨s, ss, rfl, hs, ds⟩ := N0.mp h1
 obtain ⟨t, ts, rfl, ht, dt⟩ := N0.mp h2
 rw [R7] at ds dt
 subst ds dt
 exact ⟨b, s, t, rfl, hb, hs, ht⟩
theorem wl0 (xs : List Str) : qg9 (B2 xs) (some 1) none = B2 (xs.drop 1) := by
 unfold qg9 B2
 cases xs with
 | nil => rfl
 | cons x xs =>
   rw [<- List.map_drop, <- List.map_take, List.length_map]
   have e1 : HT.sIx (x :: xs).length 0 (some 1) = 1 := by unfold HT.sIx; simp <;> omega
   have e2 : HT.sIx (x :: xs).length (x :: xs).length none = xs.length + 1 := rfl
   rw [e1, e2, List.drop_succ_cons, List.drop_zero, Nat.add_sub_cancel, List.take_length]
structure Sml (r : Row) : Prop where
 n : r.name.length <= 100
 h : r.host.length <= 100
 s : r.shuts.length <= 100 /\ ∀ x ∈ r.shuts, x.length <= 100
 b : r.bars.length <= 100 /\ ∀ x ∈ r.bars, x.length <= 100
noncomputable def yb2 (z : Str) : Bool := decide (1 <= z.length) && (decide (z.length <= 8) && z.cps.toList.all TX.letter)
noncomputable def nmX (z : Str) : Bool := yb2 z && !decide (z ∈ ([("shuts" : Str), ("bars" : Str)]))
noncomputable def ltS (a b : Str) : Bool := decide (a.cps.toList < b.cps.toList)
noncomputable def xu2 (xs : List Str) : Bool := (xs.zip (xs.drop 1)).all fun p => ltS p.1 p.2
noncomputable def T8 : List Str := [("bare" : Str), ("plain" : Str), ("anew" : Str), ("room" : Str), ("frame" : Str)]
noncomputable def yt3 (r : Row) : Bool := nmX r.name && (decide (r.sort ∈ T8) && (if r.sort = ("frame" : Str) then nmX r.host else decide (r.host = ("" : Str))))
theorem qz7 {z : Str} : nmX z = true ↔ ql4 z := by
 unfold nmX yb2
 simp only [Bool.and_eq_true, decide_eq_true_eq, Bool.not_eq_true', decide_eq_false_iff_not, List.all_eq_true, List.mem_cons, List.not_mem_nil, or_false, not_or]
 constructor
 ·rintro ⟨⟨h1, h2, h3⟩, h4, h5⟩
  exact ⟨h1, h2, fun c hc => by have := h3 c hc; unfold TX.letter at this; simpa using this, h4, h5⟩
 ·intro h
  exact ⟨⟨h.one, h.eight, fun c hc => by have := h.low c hc; unfold TX.letter; simpa using this⟩, h.noS, h.noB⟩
def N2 (K : Fg) : Sp := fun vs H Q _ => ∃ z : Str, vs = [.str z] /\ z.length <= 100000 /\ ∀ H', B1 H H' -> Q (.bl (yb2 z)) H'
theorem qg1 (K : Fg) : ∀ vs H Q E, N2 K vs H Q E -> vs.length = ["word"].length := by rintro vs H Q E ⟨z, rfl, _⟩; rfl
def N8 (K : Fg) : TS :=
 (M0 (qo0 (wv6 xh7 xh7 (tC (.int 1)) (tCB (N4 K) (A6 (A7 0) B6)) (tC (.int 8))) (tCB (xd3 K) (A6 (P7 [none] (yq7 (A7 0)) (B7 0) tTT (wv6 xh7 xh7 (tC (.str ("a" : Str))) (A7 0) (tC (.str ("z" : Str))))) B6))))
theorem qi3 (h : N2 K vs H Q E) : N8 K { nx := fun _ H' => Q .non H', rt := Q } (M2 ["word"] vs) H := by
 obtain ⟨z, rfl, hz, q⟩ := h
 unfold yb2 at q
 show N8 K _ [some (.str z)] H
 unfold N8
 lk
 refine yq6 (M5 hz) ?_
 lk
 by_cases h1 : (1 : Int) <= z.length
 ·rw [decide_eq_true h1]
  x_go
  rw [decide_eq_true (by omega : 1 <= z.length), Bool.true_and] at q
  lk
  by_cases h2 : (z.length : Int) <= 8
  ·rw [decide_eq_true h2]
   x_go
   rw [decide_eq_true (by omega : z.length <= 8), Bool.true_and] at q
   lk
   have hl : z.cps.toList.length = z.cps.size := Array.length_toList
   refine xy7 (fun i ys H' => H' = H /\ ys = ((z.cps.toList.take i).map TX.letter).map V.bl) ⟨rfl, rfl⟩ ?_ ?_ ?_
   ·rintro i ys H' hi ⟨_, rfl⟩
    rw [List.length_map, List.length_map, List.length_take]
    exact M5 (by have : z.cps.size <= 100000 := hz; omega)
   ·rintro i c ys H' hc ⟨rfl, rfl⟩
    have tk : z.cps.toList.take (i + 1) = z.cps.toList.take i ++ [c] := by rw [List.take_add_one, hc]; rfl
    lk
    refine yl7 ?_
    have e1 : (!decide ((⟨#[c]⟩ : Str).cps.toList < ("a" : Str).cps.toList)) = decide (97 <= c) := by
     show (!decide ([c] < [97])) = _
     rw [lt_cons_cons, lt_nil_nil, Bool.and_false, Bool.or_false]
     by_cases h : 97 <= c
     ·rw [decide_eq_true h, decide_eq_false (by omega)]; rfl
     ·rw [decide_eq_false h, decide_eq_true (by omega)]; rfl
    have e2 : (!decide (("z" : Str).cps.toList < (⟨#[c]⟩ : Str).cps.toList)) = decide (c <= 122) := by
     show (!decide ([122] < [c])) = _
     rw [lt_cons_cons, lt_nil_nil, Bool.and_false, Bool.or_false]
     by_cases h : c <= 122
     ·rw [decide_eq_true h, decide_eq_false (by omega)]; rfl
     ·rw [decide_eq_false h, decide_eq_true (by omega)]; rfl
    rw [e1]
    refine ⟨_, rfl, ?_⟩
    by_cases hc1 : 97 <= c
    ·rw [decide_eq_true hc1]; refine qx7 ?_
     lk
     refine yl7 ?_
     rw [e2]
     exact ⟨rfl, by rw [tk]; simp [TX.letter, hc1]⟩
    ·rw [decide_eq_false hc1]; refine qn7 ?_
     exact ⟨rfl, by rw [tk]; simp [TX.letter, hc1]⟩
   ·rintro ys H' ⟨rfl, rfl⟩ p hp
    lk
    refine xy6 (SqL.of A8) ?_
    rw [<- hl, List.take_length]
    have e : (z.cps.toList.map TX.letter).all id = z.cps.toList.all TX.letter := by rw [List.all_map]; rfl
    rw [e]
    exact q _ (B1.new hp _)
  ·rw [decide_eq_false h2]
   k_go
   rw [decide_eq_false (by omega : ¬ z.length <= 8), Bool.false_and] at q
   exact q _ (B1.refl H)
 ·rw [decide_eq_false h1]
  k_go
  refine ⟨false, rfl, qn7 ?_⟩
  rw [decide_eq_false (by omega : ¬ 1 <= z.length), Bool.false_and] at q
  exact q _ (B1.refl H)
def V7 (K : Fg) : Sp := fun vs H Q _ => ∃ z : Str, vs = [.str z] /\ z.length <= 100000 /\ ∀ H', B1 H H' -> Q (.bl (nmX z)) H'
theorem xe8 (K : Fg) : ∀ vs H Q E, V7 K vs H Q E -> vs.length = ["word"].length := by rintro vs H Q E ⟨z, rfl, _⟩; rfl
def qn2 (K : Fg) (c_KEYWORDS : Addr) : TS :=
 (M0 (qo0 (C8 (N2 K) [] E0 (A6 (A7 0) B6)) (tOp (ql1 K true) (A7 0) (tC (.ref c_KEYWORDS)))))
theorem xk6 {c_KEYWORDS : Addr} (q_KEYWORDS : ∀ H : Hp, SqT K H c_KEYWORDS [.str ("shuts" : Str), .str ("bars" : Str)]) (h : V7 K vs H Q E) : qn2 K c_KEYWORDS { nx := fun _ H' => Q .non H', rt := Q } (M2 ["word"] vs) H := by
 obtain ⟨z, rfl, hz, q⟩ := h
 show qn2 K c_KEYWORDS _ [some (.str z)] H
 unfold qn2
 unfold nmX at q
 lk
 refine ⟨z, rfl, hz, fun H1 s1 => ?_⟩
 refine ⟨_, rfl, ?_⟩
 cases e : yb2 z with
 | false =>
   k_go
   rw [e, Bool.false_and] at q
   exact q H1 s1
 | true =>
   x_go
   rw [e, Bool.true_and] at q
   lk
   refine .inl (qt3 (xs := B2 [("shuts" : Str), ("bars" : Str)]) (.inr (q_KEYWORDS H1)) rfl (V6 _) ?_)
   rw [T7]
   exact q H1 s1
def Y8 (K : Fg) : Sp := fun vs H Q _ => ∃ (a : Addr) (xs : List Str), vs = [.ref a] /\ SqT K H a (B2 xs) /\ xs.length <= 1000 /\ ∀ H', B1 H H' -> Q (.bl (xu2 xs)) H'
theorem wp6 (K : Fg) : ∀ vs H Q E, Y8 K vs H Q E -> vs.length = ["names"].length := by rintro vs H Q E ⟨a, xs, rfl, _⟩; rfl
def qd4 (K : Fg) : TS :=
 (M0 (tCB (xd3 K) (A6 (P7 [none, none] (yr2 K (A6 (A7 0) (A6 (tSl (yg5 K) (A7 0) (qj6 (tC (.int 1))) R6) B6))) (xb5 K 2 (X3 (B7 0) (X3 (B7 1) xb4))) tTT (tOp xh6 (A7 0) (A7 1))) B6)))
theorem wy2 (h : Y8 K vs H Q E) : qd4 K { nx := fun _ H' => Q .non H', rt := Q } (M2 ["names"] vs) H := by
 obtain ⟨a, xs, rfl, ha, hz, q⟩ := h
 show qd4 K _ [some (.ref a)] H
 unfold qd4
 lk
 refine yr4 ?_
 lk
 refine yy2 ha fun p H1 s1 hp => ?_
 rw [wl0] at hp
 lk
 have hl : (B2 xs).length = xs.length := C1 xs
 have hl1 : (B2 (xs.drop 1)).length = xs.length - 1 := by rw [C1, List.length_drop]
 refine ya1 (s1.sqT ha) hp (fun i ys H' => B1 H1 H' /\ ys = (((xs.zip (xs.drop 1)).take i).map fun p => ltS p.1 p.2).map V.bl) ⟨B1.refl', rfl⟩ ?_ ?_ ?_ ?_
 ·rintro i ys H' hi ⟨_, rfl⟩
  rw [List.length_map, List.length_map, List.length_take]
  exact M5 (by omega)
 ·rintro i ys H' ⟨s2, _⟩
  exact ⟨s2.sqT (s1.sqT ha), s2.sqT hp⟩
 ·rintro i x z ys H' t hx hz' ⟨s2, rfl⟩ ht
  obtain ⟨x, hx', rfl⟩ := T4 hx
  obtain ⟨z, hz'', rfl⟩ := T4 hz'
  refine ⟨t, _, rfl, SqT.of A8, rfl, _, _, rfl, E3 ⟨_, _, rfl, E3 ⟨rfl, ?_⟩⟩⟩
  lk
  refine yx5 ?_
  refine ⟨B1.tr s2 (B1.new ht _), ?_⟩
  have e : (xs.zip (xs.drop 1))[i]? = some (x, z) := by rw [List.getElem?_zip_eq_some]; exact ⟨hx', hz''⟩
  rw [List.take_add_one, e, List.map_append, List.map_append]
  rfl
 ·rintro ys H' ⟨s2, rfl⟩ c hc
  lk
  refine xy6 (SqL.of A8) ?_
  have e : min (B2 xs).length (B2 (xs.drop 1)).length = (xs.zip (xs.drop 1)).length := by rw [List.length_zip, C1, C1]
  rw [e, List.take_length, List.all_map]
  exact q _ (B1.tr s1 (B1.tr s2 (B1.new hc _)))
end My
namespace My
open PySem L2
variable {K : Fg} {vs : List V} {H : Hp} {Q : VK} {E : XK}
theorem Rws.same {H H' : Hp} {v : V} {rs : List Row} (h : Rws K H v rs) (s : B1 H H') : Rws K H' v rs := by
 obtain ⟨a, us, rfl, hq, hd⟩ := h
 exact ⟨a, us, rfl, hq.imp s.sqL s.sqT, Dvs.same s _ _ hd⟩
noncomputable def inO (o : Option Str) (xs : List Str) : Bool := match o with | none => false | some x => decide (x ∈ xs)
theorem yb3 (o : Option Str) (xs : List Str) : inV (oV o) (B2 xs) = inO o xs := by
 cases o with
 | some x => exact T7 x xs
 | none =>
   show inV .non (B2 xs) = false
   induction xs with
   | nil => rfl
   | cons x xs ih =>
     show inV .non (V.str x :: B2 xs) = false
     unfold inV at ih ⊢
     rw [List.any_cons, ih]
     rfl
theorem xn8 (o : Option Str) : qc4 (oV o) = true := by cases o <;> rfl
noncomputable def wl1 : List Str := [("plain" : Str), ("anew" : Str)]
noncomputable def wl2 : List Str := [("plain" : Str), ("frame" : Str)]
noncomputable def wp7 (rs : List Row) (xs : List Str) : Bool := xu2 xs && xs.all fun x => inO (S2 rs (some x)) wl1
noncomputable def wl3 (rs : List Row) (r : Row) : Bool := if 0 < r.shuts.length /\ frameOf rs (some r.name) ≠ none then false else decide ((r.shuts.filter fun x => decide (frameOf rs (some x) ≠ none)).length = 0) && wp7 rs r.shuts
noncomputable def wl4 (rs : List Row) (r : Row) : Bool := if r.sort = ("frame" : Str) then (if inO (S2 rs (some r.host)) wl2 = true /\ qd3 rs r.name rs.length (N1 rs (some r.name)) = false then decide (frameOf rs (some r.host) = some r.name) else false) else true
noncomputable def wp8 (rs : List Row) (r : Row) : Bool := wl4 rs r && (wl3 rs r && wp7 rs r.bars)
def wy3 (rs : List Row) : Prop := ∀ (i : Nat) (r : Row), rs[i]? = some r -> R0 (rs.take i) (some r.name) = none /\ wp8 (G2 rs) r = true
def P9 (K : Fg) : Sp := fun vs H Q _ => ∃ (v : V) (a : Addr) (rs : List Row) (xs : List Str), vs = [v, .ref a] /\ Rws K H v rs /\ SqT K H a (B2 xs) /\ xs.length <= 1000 /\ ∀ H', B1 H H' -> Q (.bl (wp7 rs xs)) H'
theorem qz8 (K : Fg) : ∀ vs H Q E, P9 K vs H Q E -> vs.length = ["rows", "names"].length := by rintro vs H Q E ⟨v, a, rs, xs, rfl, _⟩; rfl
def T9 (K : Fg) (c_SHUT_OR_BARRED_SORTS : Addr) : TS :=
 (M0 (qo0 (C8 (Y8 K) [] E0 (A6 (A7 1) B6)) (tCB (xd3 K) (A6 (P7 [some 0, none] (qh6 K (A7 1)) (B7 1) tTT (tOp (ql1 K false) (C8 (qb1 K) [] E0 (A6 (A7 0) (A6 (A7 1) B6))) (tC (.ref c_SHUT_OR_BARRED_SORTS)))) B6))))
theorem wd4 {c_SHUT_OR_BARRED_SORTS : Addr} (q_SHUT_OR_BARRED_SORTS : ∀ H : Hp, SqT K H c_SHUT_OR_BARRED_SORTS [.str ("plain" : Str), .str ("anew" : Str)]) (h : P9 K vs H Q E) : T9 K c_SHUT_OR_BARRED_SORTS { nx := fun _ H' => Q .non H', rt := Q } (M2 ["rows", "names"] vs) H := by
 obtain ⟨v, a, rs, xs, rfl, hR, ha, hz, q⟩ := h
 show T9 K c_SHUT_OR_BARRED_SORTS _ [some v, some (.ref a)] H
 unfold T9
 unfold wp7 at q
 lk
 refine ⟨a, xs, rfl, ha, hz, fun H1 s1 => ?_⟩
 refine ⟨_, rfl, ?_⟩
 cases e : xu2 xs with
 | false =>
   k_go
   rw [e, Bool.false_and] at q
   exact q H1 s1
 | true =>
   x_go
   rw [e, Bool.true_and] at q
   lk
   refine qz6 (.inr (s1.sqT ha)) B1.refl' (fun i ys H' => B1 H1 H' /\ ys = ((xs.take i).map fun x => inO (S2 rs (some x)) wl1).map V.bl) ⟨B1.refl', rfl⟩ ?_ (fun i ys H' p => p.1) ?_ ?_
   ·rintro i ys H' hi ⟨_, rfl⟩
    rw [List.length_map, List.length_map, List.length_take]
    exact M5 (by omega)
   ·rintro i x ys H' hx ⟨s2, rfl⟩
    obtain ⟨x, hx', rfl⟩ := T4 hx
    lk
    refine ⟨v, some x, rs, rfl, (hR.same s1).same s2, ?_⟩
    lk
    refine .inl (xx7 (xs := B2 wl1) (.inr (q_SHUT_OR_BARRED_SORTS H')) (xn8 _) (V6 _) ?_)
    rw [yb3]
    refine ⟨s2, ?_⟩
    rw [List.take_add_one, hx', List.map_append, List.map_append]
    rfl
   ·rintro ys H' ⟨s2, rfl⟩ c hc
    lk
    refine xy6 (SqL.of A8) ?_
    rw [C1, List.take_length, List.all_map]
    exact q _ (B1.tr s1 (B1.tr s2 (B1.new hc _)))
def qd5 (K : Fg) : Sp := fun vs H Q _ => ∃ (v w : V) (rs : List Row) (r : Row), vs = [v, w] /\ Rws K H v rs /\ Dv K H r.da w /\ Sml r /\ ∀ H', B1 H H' -> Q (.bl (wp7 rs r.bars)) H'
theorem wy4 (K : Fg) : ∀ vs H Q E, qd5 K vs H Q E -> vs.length = ["rows", "row"].length := by rintro vs H Q E ⟨v, w, rs, r, rfl, _⟩; rfl
def qi4 (K : Fg) : TS :=
 (M0 (C8 (P9 K) [] E0 (A6 (A7 0) (A6 (tOp (E7 K) (A7 1) (tC (.int 4))) B6))))
theorem xe9 (h : qd5 K vs H Q E) : qi4 K { nx := fun _ H' => Q .non H', rt := Q } (M2 ["rows", "row"] vs) H := by
 obtain ⟨v, w, rs, r, rfl, hR, hd, hS, q⟩ := h
 obtain ⟨b, s, t, rfl, hb, hs, ht⟩ := xk5 hd
 show qi4 K _ [some v, some (.ref b)] H
 unfold qi4
 have hB := hS.b
 lk
 refine P8 hb (v := .ref t) (D7 (j := 4) rfl) ?_
 exact ⟨v, t, rs, r.bars, rfl, hR, ht, by omega, q⟩
abbrev wp9 (K : Fg) : TS :=
 (M0 (qo0 (tOp (O0 K) (tCB (N4 K) (A6 (A7 2) B6)) (tC (.int 0))) (C8 (P9 K) [] E0 (A6 (A7 0) (A6 (tOp (E7 K) (A7 1) (tC (.int 3))) B6)))))
def shT (K : Fg) : TS :=
 (C6 (G0 (P7 [some 0, none] (qh6 K (tOp (E7 K) (A7 1) (tC (.int 3)))) (B7 1) (E4 (tOp qh4 (C8 (S5 K) [] E0 (A6 (A7 0) (A6 (A7 1) B6))) (tC .non))) (A7 1)) (B7 2))
 (wp9 K))
theorem yz0 {D : P4} {v : V} {b s t : Addr} {rs : List Row} {r : Row} (hR : Rws K H v rs) (hb : SqT K H b [.str r.name, .str r.sort, .str r.host, .ref s, .ref t]) (hs : SqT K H s (B2 r.shuts)) (hB : r.shuts.length <= 100)
 (q : ∀ H', B1 H H' -> D.rt (.bl (decide ((r.shuts.filter fun x => decide (frameOf rs (some x) ≠ none)).length = 0) && wp7 rs r.shuts)) H') : shT K D [some v, some (.ref b), none] H := by
 unfold shT
 lk
 refine P8 hb (v := .ref s) (D7 (j := 3) rfl) ?_
 refine qz6 (.inr hs) B1.refl' (fun i ys H' => B1 H H' /\ ys = B2 ((r.shuts.take i).filter fun x => decide (frameOf rs (some x) ≠ none))) ⟨B1.refl', rfl⟩ ?_ (fun i ys H' p => p.1) ?_ ?_
 ·rintro i ys H' hi ⟨_, rfl⟩
  have := List.length_filter_le (fun x => decide (frameOf rs (some x) ≠ none)) (r.shuts.take i)
  rw [List.length_take] at this
  rw [C1]
  exact M5 (by omega)
 ·rintro i x ys H' hx ⟨s2, rfl⟩
  obtain ⟨x, hx', rfl⟩ := T4 hx
  lk
  refine ⟨v, some x, rs, rfl, hR.same s2, ?_⟩
  lk
  have et : r.shuts.take (i + 1) = r.shuts.take i ++ [x] := by rw [List.take_add_one, hx']; rfl
  cases e : frameOf rs (some x) with
  | none =>
    k_go
    refine ⟨s2, ?_⟩
    rw [et, List.filter_append]
    simp [e]
  | some y =>
    x_go
    lk
    refine ⟨s2, ?_⟩
    rw [et, List.filter_append]
    simp [e, B2]
 ·rintro ys H' ⟨s2, rfl⟩ c hc
  rw [C1, List.take_length]
  have s3 := B1.tr s2 (B1.new hc (.lst (B2 (r.shuts.filter fun x => decide (frameOf rs (some x) ≠ none)))))
  have e3 : (upd H' c (.lst (B2 (r.shuts.filter fun x => decide (frameOf rs (some x) ≠ none))))) c = some (.lst (B2 (r.shuts.filter fun x => decide (frameOf rs (some x) ≠ none)))) := A8
  generalize upd H' c (.lst (B2 (r.shuts.filter fun x => decide (frameOf rs (some x) ≠ none)))) = H3 at *
  generalize r.shuts.filter (fun x => decide (frameOf rs (some x) ≠ none)) = fs at *
  lk
  refine O8 (.inl (SqL.of e3)) ?_
  rw [C1]
  lk
  by_cases hf : fs.length = 0
  ·rw [decide_eq_true (show ((fs.length : Nat) : Int) = 0 by omega)]
   x_go
   rw [decide_eq_true hf, Bool.true_and] at q
   lk
   refine P8 (s3.sqT hb) (v := .ref s) (D7 (j := 3) rfl) ?_
   exact ⟨v, s, rs, r.shuts, rfl, hR.same s3, s3.sqT hs, by omega, fun H4 s4 => q H4 (B1.tr s3 s4)⟩
  ·rw [decide_eq_false (show ¬ ((fs.length : Nat) : Int) = 0 by omega)]
   k_go
   rw [decide_eq_false hf, Bool.false_and] at q
   exact q H3 s3
def Y9 (K : Fg) : Sp := fun vs H Q _ => ∃ (v w : V) (rs : List Row) (r : Row), vs = [v, w] /\ Rws K H v rs /\ Dv K H r.da w /\ Sml r /\ ∀ H', B1 H H' -> Q (.bl (wl3 rs r)) H'
theorem wq0 (K : Fg) : ∀ vs H Q E, Y9 K vs H Q E -> vs.length = ["rows", "row"].length := by rintro vs H Q E ⟨v, w, rs, r, rfl, _⟩; rfl
def qd6 (K : Fg) : TS :=
 (C6 (M8 (yd8 (E4 (tOp yp4 (tCB (N4 K) (A6 (tOp (E7 K) (A7 1) (tC (.int 3))) B6)) (tC (.int 0)))) (E4 (tOp qh4 (C8 (S5 K) [] E0 (A6 (A7 0) (A6 (tOp (E7 K) (A7 1) (tC (.int 0))) B6))) (tC .non))))
 (M0 (tC (.bl false))) G7)
 (shT K))
theorem wy5 (h : Y9 K vs H Q E) : qd6 K { nx := fun _ H' => Q .non H', rt := Q } (M2 ["rows", "row", "hosts"] vs) H := by
 obtain ⟨v, w, rs, r, rfl, hR, hd, hS, q⟩ := h
 obtain ⟨b, s, t, rfl, hb, hs, ht⟩ := xk5 hd
 show qd6 K _ [some v, some (.ref b), none] H
 unfold qd6
 unfold wl3 at q
 have hB := hS.s
 lk
 refine P8 hb (v := .ref s) (D7 (j := 3) rfl) ?_
 lk
 refine O8 (.inr hs) ?_
 rw [C1]
 lk
 by_cases h0 : 0 < r.shuts.length
 ·rw [decide_eq_true (show (0 : Int) < (r.shuts.length : Nat) by omega)]
  x_go
  lk
  refine P8 hb (v := .str r.name) (D7 (j := 0) rfl) ?_
  refine ⟨v, some r.name, rs, rfl, hR, ?_⟩
  lk
  cases e : frameOf rs (some r.name) with
  | none =>
    k_go
    lk
    have hn : ¬ (0 < r.shuts.length /\ frameOf rs (some r.name) ≠ none) := fun z => z.2 e
    rw [if_neg hn] at q
    exact yz0 hR hb hs hB.1 q
  | some y =>
    x_go
    lk
    rw [if_pos ⟨h0, by rw [e]; simp⟩] at q
    exact q H B1.refl'
 ·rw [decide_eq_false (show ¬ (0 : Int) < (r.shuts.length : Nat) by omega)]
  k_go
  lk
  have hn : ¬ (0 < r.shuts.length /\ frameOf rs (some r.name) ≠ none) := fun z => h0 z.1
  rw [if_neg hn] at q
  exact yz0 hR hb hs hB.1 q
abbrev wq1 (K : Fg) : TS :=
 (M0 (tOp (O0 K) (C8 (S5 K) [] E0 (A6 (A7 0) (A6 (tOp (E7 K) (A7 1) (tC (.int 2))) B6))) (tOp (E7 K) (A7 1) (tC (.int 0)))))
abbrev wq2 (K : Fg) (c_HOST_SORTS : Addr) : TS :=
 (C6 (M8 (tOr (E4 (tOp (ql1 K true) (C8 (qb1 K) [] E0 (A6 (A7 0) (A6 (tOp (E7 K) (A7 1) (tC (.int 2))) B6))) (tC (.ref c_HOST_SORTS)))) (tB (C8 (W8 K) [] E0 (A6 (A7 0) (A6 (tOp (E7 K) (A7 1) (tC (.int 0))) B6)))))
 (M0 (tC (.bl false))) G7)
 (wq1 K))
def Z0 (K : Fg) : Sp := fun vs H Q _ => ∃ (v w : V) (rs : List Row) (r : Row), vs = [v, w] /\ Rws K H v rs /\ rs.length <= 900 /\ Dv K H r.da w /\ Sml r /\ ∀ H', B1 H H' -> Q (.bl (wl4 rs r)) H'
theorem wq3 (K : Fg) : ∀ vs H Q E, Z0 K vs H Q E -> vs.length = ["rows", "row"].length := by rintro vs H Q E ⟨v, w, rs, r, rfl, _⟩; rfl
def qd7 (K : Fg) (c_HOST_SORTS : Addr) : TS :=
 (C6 (M8 (E4 (tOp (qy1 K) (tOp (E7 K) (A7 1) (tC (.int 1))) (tC (.str ("frame" : Str)))))
 (M0 (tC (.bl true))) G7)
 (wq2 K c_HOST_SORTS))
theorem wy6 {c_HOST_SORTS : Addr} (q_HOST_SORTS : ∀ H : Hp, SqT K H c_HOST_SORTS [.str ("plain" : Str), .str ("frame" : Str)]) (h : Z0 K vs H Q E) : qd7 K c_HOST_SORTS { nx := fun _ H' => Q .non H', rt := Q } (M2 ["rows", "row"] vs) H := by
 obtain ⟨v, w, rs, r, rfl, hR, hz, hd, hS, q⟩ := h
 obtain ⟨b, s, t, rfl, hb, hs, ht⟩ := xk5 hd
 show qd7 K c_HOST_SORTS _ [some v, some (.ref b)] H
 unfold qd7
 unfold wl4 at q
 lk
 refine P8 hb (v := .str r.sort) (D7 (j := 1) rfl) ?_
 lk
 by_cases hf : r.sort = ("frame" : Str)
 ·rw [decide_eq_true hf]
  k_go
  rw [if_pos hf] at q
  lk
  refine P8 hb (v := .str r.host) (D7 (j := 2) rfl) ?_
  refine ⟨v, some r.host, rs, rfl, hR, ?_⟩
  lk
  refine .inl (qt3 (xs := B2 wl2) (.inr (q_HOST_SORTS H)) (xn8 _) (V6 _) ?_)
  rw [yb3]
  lk
  cases e1 : inO (S2 rs (some r.host)) wl2 with
  | false =>
    x_go
    lk
    rw [if_neg (fun z => by rw [e1] at z; exact Bool.false_ne_true z.1)] at q
    exact q H B1.refl'
  | true =>
    k_go
    lk
    refine P8 hb (v := .str r.name) (D7 (j := 0) rfl) ?_
    refine ⟨v, r.name, rs, rfl, hR, by omega, ?_⟩
    refine ⟨_, rfl, ?_⟩
    cases e2 : qd3 rs r.name rs.length (N1 rs (some r.name)) with
    | true =>
      x_go
      lk
      rw [if_neg (fun z => by rw [e2] at z; exact absurd z.2 (by decide))] at q
      exact q H B1.refl'
    | false =>
      k_go
      lk
      refine P8 hb (v := .str r.host) (D7 (j := 2) rfl) ?_
      refine ⟨v, some r.host, rs, rfl, hR, ?_⟩
      lk
      refine P8 hb (v := .str r.name) (D7 (j := 0) rfl) ?_
      refine yb0 ?_
      rw [if_pos ⟨e1, e2⟩] at q
      exact q H B1.refl'
 ·rw [decide_eq_false hf]
  x_go
  rw [if_neg hf] at q
  lk
  exact q H B1.refl'
def we4 (K : Fg) : Sp := fun vs H Q _ => ∃ (v w : V) (rs : List Row) (r : Row), vs = [v, w] /\ Rws K H v rs /\ rs.length <= 900 /\ Dv K H r.da w /\ Sml r /\ ∀ H', B1 H H' -> Q (.bl (wp8 rs r)) H'
theorem yb4 (K : Fg) : ∀ vs H Q E, we4 K vs H Q E -> vs.length = ["rows", "row"].length := by rintro vs H Q E ⟨v, w, rs, r, rfl, _⟩; rfl
def wy7 (K : Fg) : TS :=
 (M0 (qo0 (C8 (Z0 K) [] E0 (A6 (A7 0) (A6 (A7 1) B6))) (qo0 (C8 (Y9 K) [] E0 (A6 (A7 0) (A6 (A7 1) B6))) (C8 (qd5 K) [] E0 (A6 (A7 0) (A6 (A7 1) B6))))))
theorem yi2 (h : we4 K vs H Q E) : wy7 K { nx := fun _ H' => Q .non H', rt := Q } (M2 ["rows", "row"] vs) H := by
 obtain ⟨v, w, rs, r, rfl, hR, hz, hd, hS, q⟩ := h
 show wy7 K _ [some v, some w] H
 unfold wy7
 unfold wp8 at q
 lk
 refine ⟨v, w, rs, r, rfl, hR, hz, hd, hS, fun H1 s1 => ?_⟩
 refine ⟨_, rfl, ?_⟩
 cases e : wl4 rs r with
 | false =>
   k_go
   rw [e, Bool.false_and] at q
   exact q H1 s1
 | true =>
   x_go
   rw [e, Bool.true_and] at q
   lk
   refine ⟨v, w, rs, r, rfl, hR.same s1, Dv.same s1 _ _ hd, hS, fun H2 s2 => ?_⟩
   refine ⟨_, rfl, ?_⟩
   have s12 := B1.tr s1 s2
   cases e : wl3 rs r with
   | false =>
     k_go
     rw [e, Bool.false_and] at q
     exact q H2 s12
   | true =>
     x_go
     rw [e, Bool.true_and] at q
     lk
     exact ⟨v, w, rs, r, rfl, hR.same s12, Dv.same s12 _ _ hd, hS, fun H3 s3 => q H3 (B1.tr s12 s3)⟩
def yz1 (rs : List Row) : Prop := rs.length <= 12 /\ (∀ r ∈ rs, yt3 r = true) /\ wy3 rs
theorem yb5 {vs : List V} {i : Nat} (h : i <= vs.length) : qg9 vs none (some (i : Int)) = vs.take i := by
 unfold qg9
 have e1 : HT.sIx vs.length 0 none = 0 := rfl
 have e2 : HT.sIx vs.length vs.length (some (i : Int)) = i := by
  show (if (i : Int) < 0 then ((i : Int) + vs.length).toNat else min (i : Int).toNat vs.length) = i
  rw [if_neg (by omega)]; omega
 rw [e1, e2]; simp
theorem yb6 {ds : List PyData} {us : List V} (h : Dvs K H ds us) (i : Nat) : Dvs K H (ds.take i) (us.take i) := by
 induction i generalizing ds us with
 | zero => rw [List.take_zero, List.take_zero]; exact Q5
 | succ i ih =>
   cases ds with
   | nil => rw [Dvs] at h; subst h; rw [List.take_nil, List.take_nil]; exact Q5
   | cons d ds =>
     rw [Dvs] at h
     obtain ⟨v, r, rfl, h1, h2⟩ := h
     exact M7 h1 (ih h2)
def yi3 (rs : List Row) (i : Nat) : Prop := ∀ r, rs[i]? = some r -> R0 (rs.take i) (some r.name) = none /\ wp8 (G2 rs) r = true
structure yt4 (rs : List Row) (i : Nat) : Prop where
 lt : i < rs.length
 bad : ¬ yi3 rs i
 ok : ∀ j, j < i -> yi3 rs j
theorem yi4 {rs : List Row} : wy3 rs ↔ ∀ i, yi3 rs i := ⟨fun h i r hr => h i r hr, fun h i r hr => h i r hr⟩
theorem yt4.not {rs : List Row} {i : Nat} (h : yt4 rs i) : ¬ wy3 rs := fun m => h.bad (yi4.mp m i)
inductive Mis (K : Fg) (H0 : Hp) (a c : Addr) (rs : List Row) (i : Nat) : St -> Hp -> Prop
 | mk {H' : Hp} {a2 a3 a4 : Option V} (s : B1 H0 H') (g : ∀ (j : Nat) (r : Row), j < i -> rs[j]? = some r -> R0 (rs.take j) (some r.name) = none /\ wp8 (G2 rs) r = true) : Mis K H0 a c rs i [some (.ref a), some (.ref c), a2, a3, a4] H'
def fmT (K : Fg) : TS :=
 (M8 (tOr (tB (A7 4)) (wf0 (tB (C8 (we4 K) [] E0 (A6 (A7 1) (A6 (A7 3) B6))))))
 (M0 (A7 2)) G7)
theorem yz2 {D : P4} {a c b : Addr} {i : Nat} {rs : List Row} {r : Row} {c0 : Bool} (hr : rs[i]? = some r) (hC : Rws K H (.ref c) (G2 rs)) (hz : (G2 rs).length <= 900) (hd3 : Dv K H r.da (.ref b)) (hS : Sml r) (hc0 : c0 = false ↔ R0 (rs.take i) (some r.name) = none)
 (qi : ∀ H', B1 H H' -> ¬ yi3 rs i -> D.rt (.int i) H') (qn : ∀ H', B1 H H' -> R0 (rs.take i) (some r.name) = none -> wp8 (G2 rs) r = true -> D.nx [some (.ref a), some (.ref c), some (.int i), some (.ref b), some (.bl c0)] H') :
 fmT K D [some (.ref a), some (.ref c), some (.int i), some (.ref b), some (.bl c0)] H := by
 unfold fmT
 cases c0 with
 | true =>
   lk
   refine qi _ B1.refl' fun m => ?_
   have := hc0.mpr (m r hr).1
   cases this
 | false =>
   have hrn := hc0.mp rfl
   lk
   refine ⟨.ref c, .ref b, G2 rs, r, rfl, hC, hz, hd3, hS, fun H4 s4 => ?_⟩
   refine ⟨_, rfl, ?_⟩
   cases e : wp8 (G2 rs) r with
   | false =>
     x_go
     lk
     refine qi _ s4 fun m => ?_
     have := (m r hr).2
     rw [e] at this; cases this
   | true =>
     k_go
     lk
     exact qn _ s4 hrn e
abbrev qz9 (K : Fg) : TS :=
 (C6 (G0 (tOp qh4 (C8 (S4 K) [] E0 (A6 (tSl (yg5 K) (A7 0) R6 (qj6 (A7 2))) (A6 (tOp (E7 K) (A7 3) (tC (.int 0))) B6))) (tC .non)) (B7 4))
 (fmT K))
abbrev wa0 (K : Fg) : TS :=
 (C6 (qn6 (wi4 K (A6 (A7 0) B6)) (xb5 K 2 (X3 (B7 2) (X3 (B7 3) xb4)))
 (qz9 K))
 (M0 (tC .non)))
def Q0 (K : Fg) : Sp := fun vs H Q _ => ∃ (a : Addr) (us : List V) (rs : List Row), vs = [.ref a] /\ SqL K H a us /\ Dvs K H (rs.map Row.da) us /\ rs.length <= 900 /\ (∀ r ∈ rs, Sml r) /\ (∀ H', B1 H H' -> wy3 rs -> Q .non H') /\ ∀ (i : Nat) H', B1 H H' -> yt4 rs i -> Q (.int i) H'
theorem wa1 (K : Fg) : ∀ vs H Q E, Q0 K vs H Q E -> vs.length = ["rows"].length := by rintro vs H Q E ⟨a, us, rs, rfl, _⟩; rfl
def U0 (K : Fg) : TS :=
 (C6 (G0 (C8 (W9 K) [] E0 (A6 (A7 0) B6)) (B7 1))
 (wa0 K))
theorem wd5 (h : Q0 K vs H Q E) : U0 K { nx := fun _ H' => Q .non H', rt := Q } (M2 ["rows", "counted", "number", "row", "told_before"] vs) H := by
 obtain ⟨a, us, rs, rfl, hq, hd, hz, hS, qn, qi⟩ := h
 have lus : us.length = rs.length := by have := hd.length; simpa using this
 show U0 K _ [some (.ref a), none, none, none, none] H
 unfold U0
 lk
 refine ⟨.ref a, rs, rfl, ⟨a, us, rfl, .inl hq, hd⟩, hz, fun c cs H1 s1 nc hc hcd => ?_⟩
 have hcl := qo7 rs
 lk
 refine wi6 ?_
 lk
 refine qy7 (s1.sqL hq) (Mis K H1 a c rs) (.mk B1.refl' fun j r hj => absurd hj (Nat.not_lt_zero _)) (fun i σ H' p => by cases p with | mk s g => exact s.sqL (s1.sqL hq)) ?_ ?_
 ·rintro i x σ H' p hx ⟨s, g⟩ hp
  rename_i a2 a3 a4
  have s2 := B1.tr s (B1.new hp (.tup [.int i, x]))
  obtain ⟨d, hd1, hd2⟩ := (Dvs.same (B1.tr s1 s2) _ _ hd).get' hx
  rw [List.getElem?_map] at hd1
  obtain ⟨r, hr, rfl⟩ := Option.map_eq_some_iff.mp hd1
  have hi : i < rs.length := (List.getElem?_eq_some_iff.mp hr).1
  refine ⟨p, _, rfl, SqT.of A8, rfl, _, _, rfl, E3 ⟨_, _, rfl, E3 ⟨rfl, ?_⟩⟩⟩
  generalize upd H' p (.tup [.int i, x]) = H2 at *
  have s02 := B1.tr s1 s2
  lk
  refine .inl (qt6 (s02.sqL hq) fun t ht0 => ?_)
  rw [yb5 (by omega)]
  have s3 := B1.new ht0 (.lst (us.take i))
  have ht : (upd H2 t (.lst (us.take i))) t = some (.lst (us.take i)) := A8
  generalize upd H2 t (.lst (us.take i)) = H3 at *
  have s03 := B1.tr s02 s3
  lk
  obtain ⟨b, s', t', rfl, hb, _, _⟩ := xk5 hd2
  refine P8 (s3.sqT hb) (v := .str r.name) (D7 (j := 0) rfl) ?_
  have hdt := yb6 (Dvs.same s03 _ _ hd) i
  rw [<- List.map_take] at hdt
  have hd3 := Dv.same s3 _ _ hd2
  have s23 := B1.tr s2 s3
  have hC : Rws K H3 (.ref c) (G2 rs) := ⟨c, cs, rfl, .inl (SqL.of (s23 _ _ hc)), Dvs.same s23 _ _ hcd⟩
  refine ⟨.ref t, some r.name, rs.take i, rfl, ⟨t, _, rfl, .inl (SqL.of ht), hdt⟩, fun e => ?_, fun r' u e hu => ?_⟩
  ·lk
   refine yz2 hr hC (by omega) hd3 (hS r (List.mem_of_getElem? hr)) ⟨fun _ => e, fun _ => rfl⟩ (fun H' s m => qi i H' (B1.tr s03 s) ⟨hi, m, fun j hj r2 hr2 => g j r2 hj hr2⟩) fun H4 s4 h1 h2 => .mk (B1.tr s23 s4) fun j r2 hj hr2 => ?_
   rcases Nat.lt_or_ge j i with hlt | hge
   ·exact g j r2 hlt hr2
   ·have ej : j = i := by omega
    subst ej
    rw [hr] at hr2; cases hr2
    exact ⟨h1, h2⟩
  ·obtain ⟨b', _, _, rfl, _⟩ := xk5 hu
   lk
   exact yz2 hr hC (by omega) hd3 (hS r (List.mem_of_getElem? hr)) ⟨fun z => (by cases z), fun z => by rw [e] at z; cases z⟩ (fun H' s m => qi i H' (B1.tr s03 s) ⟨hi, m, fun j hj r2 hr2 => g j r2 hj hr2⟩) fun H4 s4 h1 h2 => by rw [e] at h1; cases h1
 ·rintro σ H' ⟨s, g⟩
  lk
  exact qn H' (B1.tr s1 s) fun j r hr => g j r (by rw [lus]; exact (List.getElem?_eq_some_iff.mp hr).1) hr
noncomputable def qe9 (rs : List Row) : List Str := (rs.filter fun r => decide (r.sort = ("frame" : Str))).map (·.host)
theorem qi5 {l : List Row} {x : Str} : R0 l (some x) = none ↔ x ∉ l.map Row.name := by
 unfold R0
 rw [List.find?_eq_none]
 constructor
 ·intro h hm
  obtain ⟨r, hr, rfl⟩ := List.mem_map.mp hm
  have := h r hr
  simp at this
 ·intro h r hr
  have : r.name ≠ x := fun e => h (e ▸ List.mem_map_of_mem hr)
  simp [this]
theorem wl5 {l : List Row} {x : Str} {r : Row} (h : R0 l (some x) = some r) : r ∈ l /\ r.name = x := by
 unfold R0 at h
 have h1 := List.mem_of_find?_eq_some h
 have h2 := List.find?_some h
 exact ⟨h1, by simpa using h2⟩
theorem qu3 {α β : Type} {f : α -> β} : ∀ {l : List α}, (l.map f).Nodup -> ∀ {a b : α}, a ∈ l -> b ∈ l -> f a = f b -> a = b
 | [], _, a, b, ha, _, _ => by cases ha
 | x :: l, h, a, b, ha, hb, e => by
   rw [List.map_cons, List.nodup_cons] at h
   rcases List.mem_cons.mp ha with rfl | ha'
   ·rcases List.mem_cons.mp hb with rfl | hb'
    ·rfl
    ·exact absurd (e ▸ List.mem_map_of_mem hb') h.1
   ·rcases List.mem_cons.mp hb with rfl | hb'
    ·exact absurd (e ▸ List.mem_map_of_mem ha') h.1
    ·exact qu3 h.2 ha' hb' e
theorem we5 {α β : Type} {f : α -> β} : ∀ {l : List α}, l.Nodup -> (∀ a ∈ l, ∀ b ∈ l, f a = f b -> a = b) -> (l.map f).Nodup
 | [], _, _ => List.nodup_nil
 | x :: l, h, g => by
   rw [List.nodup_cons] at h
   rw [List.map_cons, List.nodup_cons]
   refine ⟨fun hm => ?_, we5 h.2 fun a ha b hb => g a (List.mem_cons_of_mem _ ha) b (List.mem_cons_of_mem _ hb)⟩
   obtain ⟨y, hy, e⟩ := List.mem_map.mp hm
   have := g y (List.mem_cons_of_mem _ hy) x List.mem_cons_self e
   rw [this] at hy
   exact h.1 hy
theorem qi6 {α β : Type} {f : α -> β} : ∀ {l : List α}, (l.map f).Nodup -> l.Nodup
 | [], _ => List.nodup_nil
 | x :: l, h => by
   rw [List.map_cons, List.nodup_cons] at h
   rw [List.nodup_cons]
   exact ⟨fun hm => h.1 (List.mem_map_of_mem hm), qi6 h.2⟩
section
variable {rs : List Row}
theorem xu3 (nd : (rs.map Row.name).Nodup) {r : Row} (hr : r ∈ rs) : R0 rs (some r.name) = some r := by
 cases e : R0 rs (some r.name) with
 | none => exact absurd (List.mem_map_of_mem hr) (qi5.mp e)
 | some r2 =>
   obtain ⟨h1, h2⟩ := wl5 e
   rw [qu3 nd h1 hr h2]
theorem qi7 {x : Str} : frameOf rs (some x) ≠ none ↔ x ∈ qe9 rs := by
 unfold frameOf qe9
 rw [ne_eq, Option.map_eq_none_iff, List.find?_eq_none]
 constructor
 ·intro h
  apply Classical.byContradiction
  intro g
  apply h
  intro r hr z
  apply g
  have z : r.sort = ("frame" : Str) /\ r.host = x := by simpa using z
  exact List.mem_map.mpr ⟨r, List.mem_filter.mpr ⟨hr, decide_eq_true z.1⟩, z.2⟩
 ·intro h g
  obtain ⟨r, hr, e⟩ := List.mem_map.mp h
  rw [List.mem_filter] at hr
  have e2 := of_decide_eq_true hr.2
  exact g r hr.1 (by simp [e2, e])
theorem wy8 {x y : Str} (h : frameOf rs (some x) = some y) : ∃ r ∈ rs, r.sort = ("frame" : Str) /\ r.host = x /\ r.name = y := by
 unfold frameOf at h
 obtain ⟨r, hr, e⟩ := Option.map_eq_some_iff.mp h
 have h1 := List.mem_of_find?_eq_some hr
 have h2 := List.find?_some hr
 have h2 : r.sort = ("frame" : Str) /\ r.host = x := by simpa using h2
 exact ⟨r, h1, h2.1, h2.2, e⟩
theorem xf0 (nd : (rs.map Row.name).Nodup) : (∀ r ∈ rs, r.sort = ("frame" : Str) -> frameOf rs (some r.host) = some r.name) ↔ (qe9 rs).Nodup := by
 have ndr := qi6 nd
 constructor
 ·intro h
  refine we5 (ndr.sublist List.filter_sublist) fun a ha b hb e => ?_
  rw [List.mem_filter] at ha hb
  have h1 := h a ha.1 (of_decide_eq_true ha.2)
  have h2 := h b hb.1 (of_decide_eq_true hb.2)
  rw [e, h2] at h1
  exact qu3 nd ha.1 hb.1 (Option.some.inj h1).symm
 ·intro h r hr hf
  cases e : frameOf rs (some r.host) with
  | none => exact absurd (List.mem_map.mpr ⟨r, List.mem_filter.mpr ⟨hr, decide_eq_true hf⟩, rfl⟩) (fun z => (qi7.mpr z) e)
  | some y =>
    obtain ⟨r2, h1, h2, h3, h4⟩ := wy8 e
    have := qu3 h (List.mem_filter.mpr ⟨h1, decide_eq_true h2⟩) (List.mem_filter.mpr ⟨hr, decide_eq_true hf⟩) h3
    rw [<- h4, this]
noncomputable def itO (rs : List Row) : Nat -> Option Str -> Option Str
 | 0, h => h
 | k + 1, h => itO rs k (N1 rs h)
theorem xf1 : ∀ k, itO rs k none = none
 | 0 => rfl
 | k + 1 => by
   show itO rs k (N1 rs none) = none
   have : N1 rs none = none := by
    unfold N1 R0
    have : rs.find? (fun r => decide (some r.name = none)) = none := by rw [List.find?_eq_none]; intro r _; simp
    rw [this]; rfl
   rw [this]; exact xf1 k
theorem xf2 {n : Str} : ∀ (k : Nat) (h : Option Str), qd3 rs n k h = true ↔ ∃ j, j < k /\ itO rs j h = some n
 | 0, h => by
   rw [qd3]
   constructor
   ·intro z; cases z
   ·rintro ⟨j, hj, _⟩; omega
 | k + 1, h => by
   rw [qd3]
   by_cases e : h = some n
   ·rw [if_pos e]
    exact ⟨fun _ => ⟨0, by omega, e⟩, fun _ => rfl⟩
   ·rw [if_neg e, xf2 k]
    constructor
    ·rintro ⟨j, hj, q⟩
     exact ⟨j + 1, by omega, q⟩
    ·rintro ⟨j, hj, q⟩
     cases j with
     | zero => exact absurd q e
     | succ j => exact ⟨j, by omega, q⟩
theorem wb6 {x y : Str} (h : N1 rs (some x) = some y) : ∃ r ∈ rs, r.name = x /\ r.sort = ("frame" : Str) /\ r.host = y := by
 unfold N1 at h
 cases e : R0 rs (some x) with
 | none => rw [e] at h; cases h
 | some r =>
   rw [e] at h
   obtain ⟨h1, h2⟩ := wl5 e
   have h : (if r.sort = ("frame" : Str) then some r.host else none) = some y := h
   by_cases hf : r.sort = ("frame" : Str)
   ·rw [if_pos hf] at h
    exact ⟨r, h1, h2, hf, Option.some.inj h⟩
   ·rw [if_neg hf] at h; cases h
theorem qu4 : ∀ {l : List Row}, (l.map Row.name).Nodup -> G2 l = l := by
 intro l
 induction h : l.length generalizing l with
 | zero => intro _; rw [List.eq_nil_of_length_eq_zero h]; rfl
 | succ n ih =>
   intro nd
   rcases List.eq_nil_or_concat l with rfl | ⟨l', r, rfl⟩
   ·rfl
   ·rw [List.concat_eq_append] at *
    rw [List.map_append, List.nodup_append] at nd
    have hl : l'.length = n := by simpa using h
    rw [qb6, ih hl nd.1, if_pos]
    rw [qi5]
    intro hm
    exact nd.2.2 _ hm _ (by simp) rfl
theorem yi5 : wy3 rs ↔ (rs.map Row.name).Nodup /\ ∀ r ∈ rs, wp8 rs r = true := by
 have hn : (∀ (i : Nat) (r : Row), rs[i]? = some r -> R0 (rs.take i) (some r.name) = none) ↔ (rs.map Row.name).Nodup := by
  constructor
  ·intro h
   have : ∀ i, i <= rs.length -> ((rs.take i).map Row.name).Nodup := by
    intro i
    induction i with
    | zero => intro _; exact List.nodup_nil
    | succ i ih =>
      intro hi
      have hr : rs[i]? = some rs[i] := List.getElem?_eq_getElem (by omega)
      have := h i _ hr
      rw [qi5] at this
      rw [List.take_add_one, hr, List.map_append, List.nodup_append]
      refine ⟨ih (by omega), by simp, fun a ha b hb e => this ?_⟩
      have hb : b = rs[i].name := by simpa using hb
      rw [<- hb, <- e]; exact ha
   have := this rs.length (Nat.le_refl _)
   rwa [List.take_length] at this
  ·intro nd i r hr
   rw [qi5, List.map_take]
   intro hm
   rw [<- List.take_append_drop i (rs.map Row.name), List.nodup_append] at nd
   exact nd.2.2 _ hm _ (List.mem_of_getElem? (i := 0) (by rw [List.getElem?_drop, Nat.add_zero, List.getElem?_map, hr]; rfl)) rfl
 constructor
 ·intro h
  have nd := hn.mp fun i r hr => (h i r hr).1
  refine ⟨nd, fun r hr => ?_⟩
  obtain ⟨i, hi⟩ := List.mem_iff_getElem?.mp hr
  have := (h i r hi).2
  rwa [qu4 nd] at this
 ·rintro ⟨nd, h⟩ i r hr
  exact ⟨hn.mpr nd i r hr, by rw [qu4 nd]; exact h r (List.mem_of_getElem? hr)⟩
theorem xn9 {r : Row} : yt3 r = true ↔ nmX r.name = true /\ r.sort ∈ T8 /\ (r.sort = ("frame" : Str) -> nmX r.host = true) /\ (r.sort ≠ ("frame" : Str) -> r.host = ("" : Str)) := by
 unfold yt3
 rw [Bool.and_eq_true, Bool.and_eq_true, decide_eq_true_eq]
 by_cases hf : r.sort = ("frame" : Str)
 ·rw [if_pos hf]
  exact ⟨fun ⟨a, b, c⟩ => ⟨a, b, fun _ => c, fun z => absurd hf z⟩, fun ⟨a, b, c, _⟩ => ⟨a, b, c hf⟩⟩
 ·rw [if_neg hf, decide_eq_true_eq]
  exact ⟨fun ⟨a, b, c⟩ => ⟨a, b, fun z => absurd z hf, fun _ => c⟩, fun ⟨a, b, _, c⟩ => ⟨a, b, c hf⟩⟩
theorem xo0 {xs : List Str} : wp7 rs xs = true ↔ xu2 xs = true /\ ∀ x ∈ xs, inO (S2 rs (some x)) wl1 = true := by
 unfold wp7
 rw [Bool.and_eq_true, List.all_eq_true]
theorem yb7 {r : Row} : wl3 rs r = true ↔ ¬ (r.shuts ≠ [] /\ r.name ∈ qe9 rs) /\ (∀ x ∈ r.shuts, x ∉ qe9 rs) /\ wp7 rs r.shuts = true := by
 have h0 : 0 < r.shuts.length ↔ r.shuts ≠ [] := by cases r.shuts <;> simp
 unfold wl3
 have hh : (0 < r.shuts.length /\ frameOf rs (some r.name) ≠ none) ↔ (r.shuts ≠ [] /\ r.name ∈ qe9 rs) := by rw [h0, qi7]
 by_cases h : r.shuts ≠ [] /\ r.name ∈ qe9 rs
 ·rw [if_pos (hh.mpr h)]
  exact ⟨fun z => (by cases z), fun z => absurd h z.1⟩
 ·rw [if_neg (fun z => h (hh.mp z)), Bool.and_eq_true, decide_eq_true_eq, List.length_eq_zero_iff, List.filter_eq_nil_iff]
  have e : (∀ a ∈ r.shuts, ¬ decide (frameOf rs (some a) ≠ none) = true) ↔ ∀ x ∈ r.shuts, x ∉ qe9 rs := by
   constructor
   ·intro z x hx hm; exact z x hx (decide_eq_true (qi7.mpr hm))
   ·intro z x hx hm; exact z x hx (qi7.mp (of_decide_eq_true hm))
  rw [e]
  exact ⟨fun z => ⟨h, z⟩, fun z => z.2⟩
theorem yb8 {r : Row} : wl4 rs r = true ↔ (r.sort = ("frame" : Str) -> inO (S2 rs (some r.host)) wl2 = true /\ qd3 rs r.name rs.length (N1 rs (some r.name)) = false /\ frameOf rs (some r.host) = some r.name) := by
 unfold wl4
 by_cases hf : r.sort = ("frame" : Str)
 ·rw [if_pos hf]
  by_cases h : inO (S2 rs (some r.host)) wl2 = true /\ qd3 rs r.name rs.length (N1 rs (some r.name)) = false
  ·rw [if_pos h, decide_eq_true_eq]
   exact ⟨fun z _ => ⟨h.1, h.2, z⟩, fun z => (z hf).2.2⟩
  ·rw [if_neg h]
   exact ⟨fun z => (by cases z), fun z => absurd ⟨(z hf).1, (z hf).2.1⟩ h⟩
 ·rw [if_neg hf]
  exact ⟨fun _ z => absurd z hf, fun _ => rfl⟩
theorem yi6 {r : Row} : wp8 rs r = true ↔ wl4 rs r = true /\ wl3 rs r = true /\ wp7 rs r.bars = true := by
 unfold wp8; rw [Bool.and_eq_true, Bool.and_eq_true]
end
theorem qu5 : ∀ (a b : List Nat), ¬ b < a -> a ≠ b -> a < b
 | [], [], _, n => absurd rfl n
 | [], y :: ys, _, _ => List.nil_lt_cons _ _
 | x :: xs, [], h, _ => absurd (List.nil_lt_cons _ _) h
 | x :: xs, y :: ys, h, n => by
   rw [List.cons_lt_cons_iff] at h ⊢
   rcases Nat.lt_trichotomy x y with g | g | g
   ·exact .inl g
   ·subst g
    exact .inr ⟨rfl, qu5 xs ys (fun z => h (.inr ⟨rfl, z⟩)) (fun z => n (by rw [z]))⟩
   ·exact absurd (.inl g) h
theorem qq1 : ∀ {xs : List Str}, PyProof.Rows.sortedS xs = true -> xs.Nodup -> xu2 xs = true
 | [], _, _ => rfl
 | [x], _, _ => rfl
 | x :: y :: r, h, nd => by
   have h : PyProof.Rows.risingS x (y :: r) = true := h
   rw [PyProof.Rows.risingS, Bool.and_eq_true] at h
   rw [List.nodup_cons] at nd
   have ih := qq1 (xs := y :: r) h.2 nd.2
   have hxy : ltS x y = true := by
    unfold ltS
    refine decide_eq_true (qu5 _ _ (fun z => ?_) (fun z => nd.1 (by rw [T5 z]; exact List.mem_cons_self)))
    have h1 := h.1
    rw [PyProof.Rows.ltCps_eq, decide_eq_true z] at h1
    cases h1
   unfold xu2 at ih ⊢
   show (ltS x y && _) = true
   rw [hxy, Bool.true_and]
   exact ih
theorem wu4 {names : List Str} {rs : List Row} (h : wd3 names rs) (hn : names.Nodup) (hk : ∀ x ∈ names, ql4 x) (h12 : names.length <= 12) : yz1 rs := by
 have nd := h.nodup hn
 have hl : rs.length <= 12 := by have := h.names.length_eq; rw [List.length_map] at this; omega
 have hne : ∀ x ∈ names, x ≠ ("" : Str) := fun x hx z => by have := (hk x hx).one; rw [z] at this; exact absurd this (by decide)
 have uq : ∀ {r r' : Row}, r ∈ rs -> r' ∈ rs -> r.sort = ("frame" : Str) -> r'.sort = ("frame" : Str) -> r.host = r'.host -> r.name = r'.name := fun a b c d e => h.uniq hn a b c d e
 obtain ⟨S, Hs, g, ra⟩ := h.at
 have rw_ : ∀ j, j < names.length -> ∃ r ∈ rs, r.name = gd names j /\ r.sort = gd S j := by
  intro j hj
  have hm : gd names j ∈ rs.map (·.name) := h.names.mem_iff.mpr (Y0 hj)
  obtain ⟨r, hr, e⟩ := List.mem_map.mp hm
  obtain ⟨i, hi, R⟩ := ra r hr
  have : i = j := by
   have e2 : gd names i = gd names j := by rw [<- R.name]; exact e
   have := congrArg names.idxOf e2
   rwa [qz4 hn hi, qz4 hn hj] at this
  subst this
  exact ⟨r, hr, e, R.sort⟩
 have srt : ∀ j, j < names.length -> ∀ L : List Str, gd S j ∈ L -> inO (S2 rs (some (gd names j))) L = true := by
  intro j hj L hL
  obtain ⟨r, hr, e1, e2⟩ := rw_ j hj
  unfold S2
  rw [<- e1, xu3 nd hr]
  show decide (r.sort ∈ L) = true
  rw [e2]; exact decide_eq_true hL
 have hsub : ∀ x ∈ qe9 rs, x ∈ Hs := by
  intro x hx
  obtain ⟨r, hr, rfl⟩ := List.mem_map.mp hx
  rw [List.mem_filter] at hr
  obtain ⟨i, hi, R⟩ := ra r hr.1
  show r.host ∈ Hs
  rw [R.host]
  exact Y0 (by rw [g.lh]; exact hi)
 have hfr : ∀ r ∈ rs, r.sort = ("frame" : Str) -> ∃ j, j < names.length /\ r.host = gd names j /\ gd S j ∈ wl2 /\ names.idxOf r.name < names.idxOf r.host := by
  intro r hr hf
  obtain ⟨i, hi, R⟩ := ra r hr
  have hx := g.frm i (Nat.zero_le _) hi (by rw [<- R.sort]; exact hf)
  obtain ⟨_, j, h1, h2, h3, h4⟩ := g.host i hx
  refine ⟨j, h2, by rw [R.host, h3], ?_, ?_⟩
  ·unfold wl2; rcases h4 with h4 | h4 <;> rw [h4] <;> simp
  ·rw [R.name, R.host, h3, qz4 hn hi, qz4 hn h2]; exact h1
 have hup : ∀ (k : Nat) (x y : Str), itO rs (k + 1) (some x) = some y -> names.idxOf x < names.idxOf y := by
  intro k
  induction k with
  | zero =>
    intro x y e
    obtain ⟨r, hr, e1, e2, e3⟩ := wb6 (show N1 rs (some x) = some y from e)
    obtain ⟨j, _, _, _, h4⟩ := hfr r hr e2
    rw [<- e1, <- e3]; exact h4
  | succ k ih =>
    intro x y e
    have e' : itO rs (k + 1) (N1 rs (some x)) = some y := e
    cases ec : N1 rs (some x) with
    | none => rw [ec, xf1] at e'; cases e'
    | some z =>
      rw [ec] at e'
      obtain ⟨r, hr, e1, e2, e3⟩ := wb6 ec
      obtain ⟨j, _, _, _, h4⟩ := hfr r hr e2
      have := ih z y e'
      rw [e1, e3] at h4
      omega
 have able_in : ∀ x ∈ qb3 names S, inO (S2 rs (some x)) wl1 = true := by
  intro x hx
  unfold qb3 at hx
  obtain ⟨k, hk, rfl⟩ := List.mem_map.mp hx
  rw [List.mem_filter, List.mem_range] at hk
  refine srt k hk.1 wl1 ?_
  unfold wl1
  rcases of_decide_eq_true hk.2 with e | e <;> rw [e] <;> simp
 have able_nd : (qb3 names S).Nodup := by
  unfold qb3
  refine we5 (List.nodup_range.sublist List.filter_sublist) fun a ha b hb e => ?_
  rw [List.mem_filter, List.mem_range] at ha hb
  have := congrArg names.idxOf e
  rwa [qz4 hn ha.1, qz4 hn hb.1] at this
 have hi : (qe9 rs).Nodup := by
  refine we5 ((qi6 nd).sublist List.filter_sublist) fun a ha b hb e => ?_
  rw [List.mem_filter] at ha hb
  exact qu3 nd ha.1 hb.1 (uq ha.1 hb.1 (of_decide_eq_true ha.2) (of_decide_eq_true hb.2) e)
 refine ⟨hl, fun r hr => ?_, yi5.mpr ⟨nd, fun r hr => ?_⟩⟩
 ·obtain ⟨i, hi', R⟩ := ra r hr
  refine xn9.mpr ⟨?_, ?_, fun hf => ?_, fun hf => ?_⟩
  ·rw [R.name]; exact qz7.mpr (hk _ (Y0 hi'))
  ·rw [R.sort]
   have := g.srt _ (Y0 (l := S) (i := i) (by rw [g.ls]; exact hi'))
   unfold qz3 at this
   unfold T8
   rcases this with e | e | e | e | e <;> rw [e] <;> simp
  ·obtain ⟨j, hj, e, _, _⟩ := hfr r hr hf
   rw [e]; exact qz7.mpr (hk _ (Y0 hj))
  ·apply Classical.byContradiction
   intro z
   rw [R.host] at z
   exact hf (by rw [R.sort]; exact (g.host i z).1)
 ·obtain ⟨i, hi', R⟩ := ra r hr
  refine yi6.mpr ⟨yb8.mpr fun hf => ?_, yb7.mpr ?_, xo0.mpr ⟨qq1 R.bars.rise (R.bars.nodup able_nd), fun x hx => able_in x (R.bars.mem hx)⟩⟩
  ·obtain ⟨j, hj, e, hL, _⟩ := hfr r hr hf
   refine ⟨by rw [e]; exact srt j hj _ hL, ?_, (xf0 nd).mpr hi r hr hf⟩
   cases ec : qd3 rs r.name rs.length (N1 rs (some r.name)) with
   | false => rfl
   | true =>
     obtain ⟨k, _, hk'⟩ := (xf2 _ _).mp ec
     have := hup k r.name r.name hk'
     omega
  ·rcases R.shuts with ⟨h1, h2⟩ | ⟨h1, h2⟩
   ·rw [h2]
    exact ⟨fun z => z.1 rfl, fun x hx => (by cases hx), rfl⟩
   ·have hs : ∀ x ∈ r.shuts, x ∈ qb3 names S /\ x ∉ Hs := fun x hx => by
     have := h2.mem hx
     rw [List.mem_filter] at this
     exact ⟨this.1, of_decide_eq_true this.2⟩
    exact ⟨fun z => h1 (hsub _ z.2), fun x hx z => (hs x hx).2 (hsub x z), xo0.mpr ⟨qq1 h2.rise (h2.nodup (able_nd.sublist List.filter_sublist)), fun x hx => able_in x (hs x hx).1⟩⟩
theorem wu5 {a b c : List Nat} (h1 : ¬ b < a) (h2 : ¬ c < b) : ¬ c < a := by
 intro h
 by_cases e1 : a = b
 ·rw [e1] at h; exact h2 h
 ·have l1 := qu5 a b h1 e1
  exact h2 (List.lt_trans h l1)
theorem wa2 : ∀ {xs : List Str}, PyProof.Rows.sortedS xs = true -> xs.Pairwise fun a b => ¬ b.cps.toList < a.cps.toList
 | [], _ => .nil
 | [x], _ => .cons (fun y hy => by cases hy) .nil
 | x :: y :: r, h => by
   have h : PyProof.Rows.risingS x (y :: r) = true := h
   rw [PyProof.Rows.risingS, Bool.and_eq_true] at h
   have ih := wa2 (xs := y :: r) h.2
   have hxy : ¬ y.cps.toList < x.cps.toList := fun z => by
    have h1 := h.1
    rw [PyProof.Rows.ltCps_eq, decide_eq_true z] at h1
    cases h1
   refine .cons (fun z hz => ?_) ih
   rcases List.mem_cons.mp hz with rfl | hz
   ·exact hxy
   ·cases ih with | cons h0 _ => exact wu5 hxy (h0 z hz)
theorem qn3 {xs ys : List Str} (h1 : PyProof.Rows.sortedS xs = true) (h2 : PyProof.Rows.sortedS ys = true) (p : xs.Perm ys) : xs = ys :=
 List.Perm.eq_of_pairwise (fun a b _ _ h1 h2 => Classical.byContradiction fun n => h2 (qu5 _ _ h1 fun e => n (T5 e))) (wa2 h1) (wa2 h2) p
noncomputable def jn (c : Nat) : List Str -> List Nat
 | [] => []
 | [x] => x.cps.toList
 | x :: y :: r => x.cps.toList ++ c :: jn c (y :: r)
theorem R8 (c : Nat) : ∀ xs : List Str, (Str.join ⟨#[c]⟩ xs).cps.toList = jn c xs
 | [] => rfl
 | [x] => rfl
 | x :: y :: r => by
   show (x ++ ⟨#[c]⟩ ++ Str.join ⟨#[c]⟩ (y :: r)).cps.toList = _
   rw [jn, <- R8 c (y :: r)]
   show (x.cps ++ #[c] ++ (Str.join ⟨#[c]⟩ (y :: r)).cps).toList = _
   simp
theorem xf3 {c : Nat} : ∀ {a b u v : List Nat}, c ∉ a -> c ∉ b -> a ++ c :: u = b ++ c :: v -> a = b /\ u = v
 | [], [], u, v, _, _, e => ⟨rfl, by simpa using e⟩
 | [], y :: b, u, v, _, hb, e => by
   rw [List.nil_append, List.cons_append] at e
   injection e with e1 e2
   exact absurd (by rw [<- e1]; exact List.mem_cons_self) hb
 | x :: a, [], u, v, ha, _, e => by
   rw [List.nil_append, List.cons_append] at e
   injection e with e1 e2
   exact absurd (by rw [e1]; exact List.mem_cons_self) ha
 | x :: a, y :: b, u, v, ha, hb, e => by
   rw [List.cons_append, List.cons_append] at e
   injection e with e1 e2
   have := xf3 (fun h => ha (List.mem_cons_of_mem _ h)) (fun h => hb (List.mem_cons_of_mem _ h)) e2
   exact ⟨by rw [e1, this.1], this.2⟩
theorem yb9 {c : Nat} : ∀ {x y : Str} {r : List Str}, c ∈ jn c (x :: y :: r) := by
 intro x y r
 rw [jn]; simp
theorem yc0 {c : Nat} : ∀ {xs ys : List Str}, xs ≠ [] -> ys ≠ [] -> (∀ x ∈ xs, c ∉ x.cps.toList) -> (∀ y ∈ ys, c ∉ y.cps.toList) -> jn c xs = jn c ys -> xs = ys
 | [], _, h, _, _, _, _ => absurd rfl h
 | _ :: _, [], _, h, _, _, _ => absurd rfl h
 | [x], [y], _, _, _, _, e => by rw [T5 (show x.cps.toList = y.cps.toList from e)]
 | [x], y :: z :: r, _, _, hx, _, e => by
   have e : x.cps.toList = jn c (y :: z :: r) := e
   exact absurd (by rw [e]; exact yb9) (hx x List.mem_cons_self)
 | x :: z :: r, [y], _, _, _, hy, e => by
   have e : jn c (x :: z :: r) = y.cps.toList := e
   exact absurd (by rw [<- e]; exact yb9) (hy y List.mem_cons_self)
 | x :: x2 :: r, y :: y2 :: s, _, _, hx, hy, e => by
   rw [jn, jn] at e
   obtain ⟨e1, e2⟩ := xf3 (hx x List.mem_cons_self) (hy y List.mem_cons_self) e
   have := yc0 (xs := x2 :: r) (ys := y2 :: s) (by simp) (by simp) (fun w hw => hx w (List.mem_cons_of_mem _ hw)) (fun w hw => hy w (List.mem_cons_of_mem _ hw)) e2
   rw [T5 e1, this]
theorem qq2 {c : Nat} {xs : List Str} (hne : xs ≠ []) (hf : ∀ x ∈ xs, c ∉ x.cps.toList) : PySem.Txt.split (Str.join ⟨#[c]⟩ xs) ⟨#[c]⟩ = xs := by
 have h1 := PySem.StrLaws.join_split (Str.join ⟨#[c]⟩ xs) ⟨#[c]⟩
 have h2 := PySem.StrLaws.split_free (Str.join ⟨#[c]⟩ xs) c
 have h3 := (PyProof.Rows.fact_split (Str.join ⟨#[c]⟩ xs) ⟨#[c]⟩).1
 refine yc0 (fun e => by rw [e] at h3; exact absurd h3 (by decide)) hne h2 hf ?_
 rw [<- R8, <- R8, h1]
noncomputable def kwL (k : Str) (xs : List Str) : List Str := if xs = [] then [] else k :: xs
noncomputable def S7 (r : Row) : List Str := if r.sort = ("frame" : Str) then [r.host] else []
noncomputable def E5 (r : Row) (sh ba : List Str) : List Str := [r.name, r.sort] ++ (S7 r ++ (kwL ("shuts" : Str) sh ++ kwL ("bars" : Str) ba))
noncomputable def nbF (k : Str) (ws : List Str) : List Str := if ws.take 1 = [k] then (ws.drop 1).takeWhile nmX else []
noncomputable def wfN (xs : List Str) : Nat := if xs.length = 0 then 0 else 1 + xs.length
theorem qi8 (k : Str) (xs : List Str) : (kwL k xs).length = wfN xs := by
 unfold kwL wfN
 cases xs with
 | nil => rfl
 | cons x xs => rw [if_neg (by simp), if_neg (by simp), List.length_cons, List.length_cons]; omega
theorem wu6 {xs ys : List Str} (h : ∀ x ∈ xs, nmX x = true) (h2 : ∀ y, ys.head? = some y -> nmX y = false) : (xs ++ ys).takeWhile nmX = xs := by
 induction xs with
 | nil =>
   cases ys with
   | nil => rfl
   | cons y ys => rw [List.nil_append, List.takeWhile_cons, h2 y rfl]; rfl
 | cons x xs ih => rw [List.cons_append, List.takeWhile_cons, h x List.mem_cons_self, if_pos rfl, ih fun y hy => h y (List.mem_cons_of_mem _ hy)]
theorem yt5 : nmX ("shuts" : Str) = false := by decide +kernel
theorem wy9 : nmX ("bars" : Str) = false := by decide +kernel
theorem yc1 {sh ba : List Str} (h : ∀ x ∈ sh, nmX x = true) : nbF ("shuts" : Str) (kwL ("shuts" : Str) sh ++ kwL ("bars" : Str) ba) = sh := by
 unfold nbF
 cases sh with
 | nil =>
   have e : kwL ("shuts" : Str) [] = [] := rfl
   rw [e, List.nil_append]
   cases ba with
   | nil => rfl
   | cons y ys => rw [if_neg]; unfold kwL; rw [if_neg (by simp)]; show ¬ [("bars" : Str)] = [("shuts" : Str)]; decide +kernel
 | cons x xs =>
   have e : kwL ("shuts" : Str) (x :: xs) = ("shuts" : Str) :: (x :: xs) := by unfold kwL; rw [if_neg (by simp)]
   rw [e, List.cons_append, if_pos (by rfl : List.take 1 (("shuts" : Str) :: (x :: xs ++ kwL ("bars" : Str) ba)) = [("shuts" : Str)])]
   show ((x :: xs) ++ kwL ("bars" : Str) ba).takeWhile nmX = _
   refine wu6 h fun y hy => ?_
   unfold kwL at hy
   split at hy
   ·cases hy
   ·cases hy; exact wy9
theorem yi7 {ba : List Str} (h : ∀ x ∈ ba, nmX x = true) : nbF ("bars" : Str) (kwL ("bars" : Str) ba) = ba := by
 unfold nbF
 cases ba with
 | nil => rfl
 | cons x xs =>
   have e : kwL ("bars" : Str) (x :: xs) = ("bars" : Str) :: (x :: xs) := by unfold kwL; rw [if_neg (by simp)]
   rw [e, if_pos (by rfl : List.take 1 (("bars" : Str) :: x :: xs) = [("bars" : Str)])]
   show (x :: xs).takeWhile nmX = _
   have := wu6 (ys := []) h (fun y hy => by cases hy)
   rwa [List.append_nil] at this
structure qb7 (r : Row) : Prop where
 n : nmX r.name = true
 s : r.sort ∈ T8
 f : r.sort = ("frame" : Str) -> nmX r.host = true
 e : r.sort ≠ ("frame" : Str) -> r.host = ("" : Str)
 a : ∀ x ∈ r.shuts, nmX x = true
 b : ∀ x ∈ r.bars, nmX x = true
 sa : PyProof.Rows.sortedS r.shuts = true
 sb : PyProof.Rows.sortedS r.bars = true
 la : r.shuts.length <= 20
 lb : r.bars.length <= 20
theorem wa3 {x : Str} (h : nmX x = true) : x.length <= 8 := (qz7.mp h).eight
theorem wl6 : ∀ x ∈ T8, x.length <= 8 := by decide +kernel
theorem xf4 (xs ys : List Str) : PyData.eqv (.list (sDa xs)) (.list (sDa ys)) = decide (xs = ys) := by
 induction xs generalizing ys with
 | nil => cases ys with
   | nil => rfl
   | cons y ys => rfl
 | cons x xs ih =>
   cases ys with
   | nil => rfl
   | cons y ys =>
     have h := ih ys
     rw [PyData.eqv] at h ⊢
     show PyData.eqvAll (.str x :: sDa xs) (.str y :: sDa ys) = _
     rw [PyData.eqvAll, h]
     rw [PyData.eqv]
     by_cases e : x = y
     ·subst e; by_cases e2 : xs = ys <;> simp [e2]
     ·simp [e]
def U4 (K : Fg) : Sp := fun vs H Q _ => ∃ (a : Addr) (xs : List Str), vs = [.ref a] /\ SqL K H a (B2 xs) /\ Q (.int (wfN xs : Nat)) H
theorem wq4 (K : Fg) : ∀ vs H Q E, U4 K vs H Q E -> vs.length = ["names"].length := by rintro vs H Q E ⟨a, xs, rfl, _⟩; rfl
def qd8 (K : Fg) : TS :=
 (M0 (tIf (E4 (tOp (O0 K) (tCB (N4 K) (A6 (A7 0) B6)) (tC (.int 0)))) (tC (.int 0)) (tOp (L7 K) (tC (.int 1)) (tCB (N4 K) (A6 (A7 0) B6)))))
theorem wz0 (h : U4 K vs H Q E) : qd8 K { nx := fun _ H' => Q .non H', rt := Q } (M2 ["names"] vs) H := by
 obtain ⟨a, xs, rfl, ha, q⟩ := h
 show qd8 K _ [some (.ref a)] H
 unfold qd8
 unfold wfN at q
 lk
 refine O8 (.inl ha) ?_
 rw [C1]
 lk
 by_cases h0 : xs.length = 0
 ·rw [decide_eq_true (show ((xs.length : Nat) : Int) = 0 by omega)]
  x_go
  rw [if_pos h0] at q
  lk
  exact q
 ·rw [decide_eq_false (show ¬ ((xs.length : Nat) : Int) = 0 by omega)]
  k_go
  rw [if_neg h0] at q
  lk
  refine O8 (.inl ha) ?_
  rw [C1]
  lk
  rw [show ((1 + xs.length : Nat) : Int) = 1 + (xs.length : Nat) by omega] at q
  exact q
inductive Nbh (K : Fg) (H0 : Hp) (k : Str) (a p : Addr) (ws : List Str) (i : Nat) : St -> Hp -> Prop
 | mk {H' : Hp} {o : Option V} (s : B1 H0 H') (n0 : H0 p = none) (g : H' p = some (.lst (B2 (ws.take i)))) (h : ∀ x ∈ ws.take i, nmX x = true) : Nbh K H0 k a p ws i [some (.str k), some (.ref a), some (.ref p), o] H'
theorem zb3 (xs : List Str) : qg9 (B2 xs) none (some 1) = B2 (xs.take 1) := by
 unfold qg9 B2
 cases xs with
 | nil => rfl
 | cons x xs =>
   rw [<- List.map_drop, <- List.map_take, List.length_map]
   have e1 : HT.sIx (x :: xs).length (x :: xs).length (some 1) = 1 := by
    show (if (1 : Int) < 0 then ((1 : Int) + ((x :: xs).length : Nat)).toNat else min (1 : Int).toNat (x :: xs).length) = 1
    rw [if_neg (by decide), List.length_cons]
    show min 1 (xs.length + 1) = 1
    omega
   have e2 : HT.sIx (x :: xs).length 0 none = 0 := rfl
   rw [e1, e2]; rfl
def nbR (K : Fg) : TS :=
 (M0 (A7 2))
theorem yt6 {D : P4} {k : Str} {a p : Addr} {o : Option V} (q : D.rt (.ref p) H) : nbR K D [some (.str k), some (.ref a), some (.ref p), o] H := by
 unfold nbR
 lk
 exact q
abbrev wa4 (K : Fg) : TS :=
 (C6 (M8 (wf0 (tB (C8 (V7 K) [] E0 (A6 (A7 3) B6))))
 xg3 G7)
 (qf1 (tBM K "list" W0 (A7 2) (A6 (A7 3) B6))))
abbrev wa5 (K : Fg) : TS :=
 (qn6 (qh6 K (tSl (wg9 K) (A7 1) (qj6 (tC (.int 1))) R6)) (B7 3)
 (wa4 K))
abbrev wa6 (K : Fg) : TS :=
 (C6 (M8 (E4 (tOp (O0 K) (tSl (wg9 K) (A7 1) R6 (qj6 (tC (.int 1)))) (O5 (A6 (A7 0) B6))))
 (wa5 K) G7)
 (nbR K))
def Q1 (K : Fg) : Sp := fun vs H Q _ => ∃ (k : Str) (a : Addr) (ws : List Str), vs = [.str k, .ref a] /\ H a = some (.lst (B2 ws)) /\ ws.length <= 1000 /\ (∀ x ∈ ws, x.length <= 1000) /\ ∀ (p : Addr) (H' : Hp), B1 H H' -> H p = none -> H' p = some (.lst (B2 (nbF k ws))) -> Q (.ref p) H'
theorem wa7 (K : Fg) : ∀ vs H Q E, Q1 K vs H Q E -> vs.length = ["keyword", "words"].length := by rintro vs H Q E ⟨k, a, ws, rfl, _⟩; rfl
def U5 (K : Fg) : TS :=
 (C6 (G0 (O5 B6) (B7 2))
 (wa6 K))
theorem wd6 (h : Q1 K vs H Q E) : U5 K { nx := fun _ H' => Q .non H', rt := Q } (M2 ["keyword", "words", "names", "word"] vs) H := by
 obtain ⟨k, a, ws, rfl, ha, hz, hx, q⟩ := h
 show U5 K _ [some (.str k), some (.ref a), none, none] H
 unfold U5
 unfold nbF at q
 lk
 refine ⟨M5 (by z_go), fun p hp => ?_⟩
 have s1 := B1.new hp (.lst [])
 have e1 : (upd H p (.lst [])) p = some (.lst []) := A8
 generalize upd H p (.lst []) = H1 at *
 lk
 refine qt6 (SqL.of (s1 _ _ ha)) fun p2 hp2 => ?_
 rw [zb3]
 have s2 := B1.new hp2 (.lst (B2 (ws.take 1)))
 have e2 : (upd H1 p2 (.lst (B2 (ws.take 1)))) p2 = some (.lst (B2 (ws.take 1))) := A8
 generalize upd H1 p2 (.lst (B2 (ws.take 1))) = H2 at *
 lk
 refine ⟨M5 (by z_go), fun p3 hp3 => ?_⟩
 have s3 := B1.new hp3 (.lst [.str k])
 refine yl8 (d := .list (sDa (ws.take 1))) (e := .list (sDa [k])) (W5.mpr ⟨p2, _, rfl, SqL.of (s3 _ _ e2), R7.mpr rfl⟩) (W5.mpr ⟨p3, _, rfl, SqL.of A8, R7.mpr rfl⟩) (Nat.le_trans (Nat.min_le_right _ _) (by have : (PyData.list [PyData.str k]).depth = 1 := rfl; show (PyData.list [PyData.str k]).depth <= _; omega)) ?_
 rw [xf4]
 generalize upd H2 p3 (.lst [.str k]) = H3 at *
 have s13 := B1.tr s2 s3
 have s03 := B1.tr s1 s13
 lk
 by_cases hk : ws.take 1 = [k]
 ·rw [decide_eq_true hk]
  x_go
  rw [if_pos hk] at q
  lk
  refine qt6 (SqL.of (s03 _ _ ha)) fun p4 hp4 => ?_
  rw [wl0]
  have s4 := B1.new hp4 (.lst (B2 (ws.drop 1)))
  have e4 : (upd H3 p4 (.lst (B2 (ws.drop 1)))) p4 = some (.lst (B2 (ws.drop 1))) := A8
  have np4 : p4 ≠ p := fun z => by rw [z, s13 _ _ e1] at hp4; cases hp4
  have ep4 := s4 _ _ (s13 _ _ e1)
  have s04 := B1.tr s03 s4
  generalize upd H3 p4 (.lst (B2 (ws.drop 1))) = H4 at *
  have hwl : (ws.drop 1).length <= 1000 := by rw [List.length_drop]; omega
  have hwx : ∀ x ∈ ws.drop 1, x.length <= 1000 := fun x h => hx x (List.mem_of_mem_drop h)
  generalize ws.drop 1 = us at *
  refine ⟨p4, rfl, .inl ⟨⟨_, SqL.of e4⟩, qk6 (xs := B2 us) (fun i σ H' => H' p4 = some (.lst (B2 us)) /\ Nbh K H k a p us i σ H') ⟨e4, .mk s04 hp ep4 (fun x hx => by cases hx)⟩ (fun i σ H' _ p => SqL.of p.1) ?_ ?_⟩⟩
  ·rintro i x σ H' hx' ⟨h4, s5, n0, g, h⟩
   rename_i o1
   obtain ⟨x, hxi, rfl⟩ := T4 hx'
   have hil : i < us.length := (List.getElem?_eq_some_iff.mp hxi).1
   have et : us.take (i + 1) = us.take i ++ [x] := by rw [List.take_add_one, hxi]; rfl
   have hxl := hwx x (List.mem_of_getElem? hxi)
   lk
   refine ⟨x, rfl, by omega, fun H6 s6 => ?_⟩
   refine ⟨_, rfl, ?_⟩
   have g6 := s6 _ _ g
   have s06 := B1.tr s5 s6
   cases e : nmX x with
   | false =>
     x_go
     lk
     refine yt6 (K := K) (q p H6 s06 hp ?_)
     rw [g6]
     congr 2
     have : us = us.take i ++ (x :: us.drop (i + 1)) := by
      rw [List.getElem?_eq_getElem hil] at hxi
      injection hxi with hxi
      rw [<- hxi, <- List.drop_eq_getElem_cons hil, List.take_append_drop]
     have h9 := wu6 (xs := us.take i) (ys := x :: us.drop (i + 1)) h (fun y hy => by cases hy; exact e)
     rw [<- this] at h9
     rw [h9]
   | true =>
     k_go
     lk
     refine ⟨.inl ⟨rfl, _, SqL.of g6⟩, ?_⟩
     lk
     refine qf8 g6 (by rw [C1, List.length_take, sizeLine_eq]; omega) ?_
     refine ⟨by rw [B8 np4]; exact s6 _ _ h4, .mk (B1.put s06 hp _) hp ?_ fun y hy => ?_⟩
     ·rw [A8, et]; unfold B2; rw [List.map_append]; rfl
     ·rw [et] at hy
      rcases List.mem_append.mp hy with hy | hy
      ·exact h y hy
      ·rw [List.mem_singleton.mp hy]; exact e
  ·rintro σ H' ⟨h4, s5, n0, g, h⟩
   rw [C1, List.take_length] at g h
   refine yt6 (K := K) (q p H' s5 hp ?_)
   rw [g]
   have h9 := wu6 (ys := []) h (fun y hy => by cases hy)
   rw [List.append_nil] at h9
   rw [h9]
 ·rw [decide_eq_false hk]
  k_go
  rw [if_neg hk] at q
  lk
  exact yt6 (K := K) (q p H3 s03 hp (s13 _ _ e1))
theorem ym3 {w s t : Addr} {n so h : Str} {sh ba : List Str} (e : H w = some (.tup [.str n, .str so, .str h, .ref s, .ref t])) (hs : SqT K H s (B2 sh)) (ht : SqT K H t (B2 ba)) : Dv K H (Row.da ⟨n, so, h, sh, ba⟩) (.ref w) :=
 N0.mpr ⟨w, _, rfl, SqT.of e, M7 (R3.mpr rfl) (M7 (R3.mpr rfl) (M7 (R3.mpr rfl) (M7 (N0.mpr ⟨s, _, rfl, hs, R7.mpr rfl⟩) (M7 (N0.mpr ⟨t, _, rfl, ht, R7.mpr rfl⟩) Q5))))⟩
theorem wa8 {ws : List Str} {i : Nat} (h : i <= ws.length) : qg9 (B2 ws) (some (i : Int)) none = B2 (ws.drop i) := by
 unfold qg9
 have e1 : HT.sIx (B2 ws).length 0 (some (i : Int)) = i := by
  rw [C1]
  show (if (i : Int) < 0 then ((i : Int) + ws.length).toNat else min (i : Int).toNat ws.length) = i
  rw [if_neg (by omega)]; omega
 have e2 : HT.sIx (B2 ws).length (B2 ws).length none = (B2 ws).length := rfl
 rw [e1, e2, List.take_of_length_le (by rw [List.length_drop]; omega)]
 unfold B2; rw [List.map_drop]
theorem wu7 : ∀ {xs : List Str}, (xs.Pairwise fun a b => ¬ b.cps.toList < a.cps.toList) -> PyProof.Rows.sortedS xs = true
 | [], _ => rfl
 | [_], _ => rfl
 | a :: b :: r, h => by
   rw [List.pairwise_cons] at h
   have h1 := h.1 b List.mem_cons_self
   have h2 := wu7 h.2
   show PyProof.Rows.risingS a (b :: r) = true
   rw [PyProof.Rows.risingS, Bool.and_eq_true]
   refine ⟨?_, h2⟩
   rw [PyProof.Rows.ltCps_eq, decide_eq_false h1]; rfl
noncomputable def leB (a b : Str) : Bool := !decide (b.cps.toList < a.cps.toList)
theorem qu6 {a b : Str} : leB a b = true ↔ ¬ b.cps.toList < a.cps.toList := by unfold leB; simp
noncomputable def Z9 (xs : List Str) : List Str := xs.mergeSort leB
theorem qu7 (xs : List Str) : (Z9 xs).Perm xs := List.mergeSort_perm _ _
theorem qi9 (xs : List Str) : PyProof.Rows.sortedS (Z9 xs) = true := by
 refine wu7 ?_
 have := List.pairwise_mergeSort (le := leB) (fun a b c h1 h2 => qu6.mpr (wu5 (qu6.mp h1) (qu6.mp h2))) (fun a b => by
  simp only [Bool.or_eq_true, qu6]
  apply Classical.byContradiction
  intro h
  have h1 : b.cps.toList < a.cps.toList := Classical.byContradiction fun z => h (.inl z)
  have h2 : a.cps.toList < b.cps.toList := Classical.byContradiction fun z => h (.inr z)
  exact absurd h2 (List.lt_asymm h1)) xs
 exact this.imp fun h => qu6.mp h
noncomputable def rdT (ws : List Str) (st : Nat) (host : Str) : Option Row :=
 if st + wfN (nbF ("shuts" : Str) (ws.drop st)) + wfN (nbF ("bars" : Str) (ws.drop (st + wfN (nbF ("shuts" : Str) (ws.drop st))))) = ws.length then
  some ⟨gd ws 0, gd ws 1, host, Z9 (nbF ("shuts" : Str) (ws.drop st)), Z9 (nbF ("bars" : Str) (ws.drop (st + wfN (nbF ("shuts" : Str) (ws.drop st)))))⟩
 else none
noncomputable def rdF (ws : List Str) : Option Row :=
 if ws.length < 2 then none
 else if nmX (gd ws 0) = false then none
 else if gd ws 1 ∉ T8 then none
 else if gd ws 1 = ("frame" : Str) then (if ws.length < 3 then none else if nmX (gd ws 2) = false then none else rdT ws 3 (gd ws 2))
 else rdT ws 2 ("" : Str)
theorem xk7 {ws : List Str} {i : Nat} (h : i < ws.length) : (B2 ws)[i]? = some (.str (gd ws i)) := by unfold B2; rw [List.getElem?_map, wk1 h]; rfl
theorem xo1 (k : Str) (ws : List Str) : wfN (nbF k ws) <= ws.length := by
 unfold nbF
 split
 ·rename_i h
  cases ws with
  | nil => cases h
  | cons x xs =>
    show wfN (xs.takeWhile nmX) <= xs.length + 1
    have := (List.takeWhile_prefix (p := nmX) (l := xs)).length_le
    unfold wfN; split <;> omega
 ·exact Nat.zero_le _
theorem yc2 (k : Str) (ws : List Str) : (nbF k ws).length <= ws.length := by
 have := xo1 k ws
 unfold wfN at this
 split at this <;> omega
abbrev wz1 (K : Fg) : TS :=
 (M0 (qp3 (A6 (tOp (E7 K) (A7 0) (tC (.int 0))) (A6 (tOp (E7 K) (A7 0) (tC (.int 1))) (A6 (A7 1) (A6 (tCB (qn1 K) (A6 (tCB (qs9 K) (A6 (A7 3) B6)) B6)) (A6 (tCB (qn1 K) (A6 (tCB (qs9 K) (A6 (A7 4) B6)) B6)) B6)))))))
abbrev wz2 (K : Fg) : TS :=
 (C6 (M8 (E4 (tOp (qy1 K) (tOp (L7 K) (A7 2) (C8 (U4 K) [] E0 (A6 (A7 4) B6))) (tCB (N4 K) (A6 (A7 0) B6))))
 (M0 (tC .non)) G7)
 (wz1 K))
abbrev wz3 (K : Fg) : TS :=
 (C6 (G0 (C8 (Q1 K) [] E0 (A6 (tC (.str ("bars" : Str))) (A6 (tSl (wg9 K) (A7 0) (qj6 (A7 2)) R6) B6))) (B7 4))
 (wz2 K))
abbrev wz4 (K : Fg) : TS :=
 (C6 (G0 (tOp (L7 K) (A7 2) (C8 (U4 K) [] E0 (A6 (A7 3) B6))) (B7 2))
 (wz3 K))
def rrR (K : Fg) : TS :=
 (C6 (G0 (C8 (Q1 K) [] E0 (A6 (tC (.str ("shuts" : Str))) (A6 (tSl (wg9 K) (A7 0) (qj6 (A7 2)) R6) B6))) (B7 3))
 (wz4 K))
theorem yz3 {D : P4} {a : Addr} {st : Nat} {ws : List Str} {host : Str} (ha : H a = some (.lst (B2 ws))) (hst : 2 <= st) (hsl : st <= ws.length) (hwl : ws.length <= 60) (hwx : ∀ x ∈ ws, x.length <= 1000)
 (q0 : ∀ H', B1 H H' -> rdT ws st host = none -> D.rt .non H') (q : ∀ (r : Row) (t : Addr) H', B1 H H' -> rdT ws st host = some r -> Dv K H' r.da (.ref t) -> D.rt (.ref t) H') : rrR K D [some (.ref a), some (.str host), some (.int st), none, none] H := by
 unfold rrR
 lk
 refine qt6 (SqL.of ha) fun p hp => ?_
 rw [wa8 hsl]
 have s1 := B1.new hp (.lst (B2 (ws.drop st)))
 have e1 : (upd H p (.lst (B2 (ws.drop st)))) p = some (.lst (B2 (ws.drop st))) := A8
 generalize upd H p (.lst (B2 (ws.drop st))) = H1 at *
 lk
 refine ⟨("shuts" : Str), p, ws.drop st, rfl, e1, by rw [List.length_drop]; omega, fun x hx => hwx x (List.mem_of_mem_drop hx), fun c H2 s2 _ hc => ?_⟩
 unfold rdT at q0 q
 have hn1 := xo1 ("shuts" : Str) (ws.drop st)
 have hn1' := yc2 ("shuts" : Str) (ws.drop st)
 rw [List.length_drop] at hn1 hn1'
 generalize nbF ("shuts" : Str) (ws.drop st) = sh at *
 have s02 := B1.tr s1 s2
 lk
 refine ⟨c, sh, rfl, SqL.of hc, ?_⟩
 lk
 refine qt6 (SqL.of (s02 _ _ ha)) fun p3 hp3 => ?_
 rw [show ((st : Int) + (wfN sh : Nat)) = ((st + wfN sh : Nat) : Int) by omega, wa8 (by omega)]
 have s3 := B1.new hp3 (.lst (B2 (ws.drop (st + wfN sh))))
 have e3 : (upd H2 p3 (.lst (B2 (ws.drop (st + wfN sh))))) p3 = some (.lst (B2 (ws.drop (st + wfN sh)))) := A8
 generalize upd H2 p3 (.lst (B2 (ws.drop (st + wfN sh)))) = H3 at *
 lk
 refine ⟨("bars" : Str), p3, ws.drop (st + wfN sh), rfl, e3, by rw [List.length_drop]; omega, fun x hx => hwx x (List.mem_of_mem_drop hx), fun d H4 s4 _ hd => ?_⟩
 have hn2' := yc2 ("bars" : Str) (ws.drop (st + wfN sh))
 rw [List.length_drop] at hn2'
 generalize nbF ("bars" : Str) (ws.drop (st + wfN sh)) = ba at *
 have s24 := B1.tr s3 s4
 have s04 := B1.tr s02 s24
 lk
 refine ⟨d, ba, rfl, SqL.of hd, ?_⟩
 lk
 refine O8 (.inl (SqL.of (s04 _ _ ha))) ?_
 lk
 rw [C1]
 by_cases hw : st + wfN sh + wfN ba = ws.length
 ·rw [decide_eq_true (show ((st + wfN sh : Nat) : Int) + (wfN ba : Nat) = (ws.length : Nat) by omega)]
  k_go
  rw [if_pos hw] at q
  lk
  refine L8 (SqL.of (s04 _ _ ha)) (v := .str (gd ws 0)) (D7 (j := 0) (xk7 (by omega))) ?_
  lk
  refine L8 (SqL.of (s04 _ _ ha)) (v := .str (gd ws 1)) (D7 (j := 1) (xk7 (by omega))) ?_
  lk
  refine ⟨c, sh, rfl, SqL.of (s24 _ _ hc), by omega, fun l ys hp' hs' hl => ?_⟩
  have ey : ys = Z9 sh := qn3 hs' (qi9 _) (hp'.trans (qu7 _).symm)
  subst ey
  have s5 := B1.new hl (.lst (B2 (Z9 sh)))
  have e5 : (upd H4 l (.lst (B2 (Z9 sh)))) l = some (.lst (B2 (Z9 sh))) := A8
  generalize upd H4 l (.lst (B2 (Z9 sh))) = H5 at *
  lk
  refine ⟨l, _, rfl, .inl ⟨SqL.of e5, fun t1 ht1 => ?_⟩⟩
  have s6 := B1.new ht1 (.tup (B2 (Z9 sh)))
  have e6 : (upd H5 t1 (.tup (B2 (Z9 sh)))) t1 = some (.tup (B2 (Z9 sh))) := A8
  generalize upd H5 t1 (.tup (B2 (Z9 sh))) = H6 at *
  lk
  refine ⟨d, ba, rfl, SqL.of (s6 _ _ (s5 _ _ hd)), by omega, fun l2 zs hp'' hs'' hl2 => ?_⟩
  have ez : zs = Z9 ba := qn3 hs'' (qi9 _) (hp''.trans (qu7 _).symm)
  subst ez
  have s7 := B1.new hl2 (.lst (B2 (Z9 ba)))
  have e7 : (upd H6 l2 (.lst (B2 (Z9 ba)))) l2 = some (.lst (B2 (Z9 ba))) := A8
  generalize upd H6 l2 (.lst (B2 (Z9 ba))) = H7 at *
  lk
  refine ⟨l2, _, rfl, .inl ⟨SqL.of e7, fun t2 ht2 => ?_⟩⟩
  have s8 := B1.new ht2 (.tup (B2 (Z9 ba)))
  have e8 : (upd H7 t2 (.tup (B2 (Z9 ba)))) t2 = some (.tup (B2 (Z9 ba))) := A8
  generalize upd H7 t2 (.tup (B2 (Z9 ba))) = H8 at *
  lk
  refine ⟨M5 (by z_go), fun t3 ht3 => ?_⟩
  have s9 := B1.new ht3 (.tup [.str (gd ws 0), .str (gd ws 1), .str host, .ref t1, .ref t2])
  have e9 : (upd H8 t3 (.tup [.str (gd ws 0), .str (gd ws 1), .str host, .ref t1, .ref t2])) t3 = some (.tup [.str (gd ws 0), .str (gd ws 1), .str host, .ref t1, .ref t2]) := A8
  refine q _ t3 _ (B1.tr s04 (B1.tr s5 (B1.tr s6 (B1.tr s7 (B1.tr s8 s9))))) rfl ?_
  exact ym3 e9 (SqT.of (s9 _ _ (s8 _ _ (s7 _ _ e6)))) (SqT.of (s9 _ _ e8))
 ·rw [decide_eq_false (show ¬ ((st + wfN sh : Nat) : Int) + (wfN ba : Nat) = (ws.length : Nat) by omega)]
  x_go
  lk
  exact q0 _ s04 (if_neg hw)
abbrev wz5 (K : Fg) : TS :=
 (C6 (M8 (tOr (E4 (tOp xh6 (tCB (N4 K) (A6 (A7 0) B6)) (tC (.int 3)))) (wf0 (tB (C8 (V7 K) [] E0 (A6 (tOp (E7 K) (A7 0) (tC (.int 2))) B6)))))
 (M0 (tC .non)) G7)
 (C6 (G0 (tOp (E7 K) (A7 0) (tC (.int 2))) (B7 1))
 (G0 (tC (.int 3)) (B7 2))))
abbrev wz6 (K : Fg) : TS :=
 (C6 (M8 (E4 (tOp (O0 K) (tOp (E7 K) (A7 0) (tC (.int 1))) (tC (.str ("frame" : Str)))))
 (wz5 K) G7)
 (rrR K))
abbrev wz7 (K : Fg) : TS :=
 (C6 (G0 (tC (.str ("" : Str))) (B7 1))
 (C6 (G0 (tC (.int 2)) (B7 2))
 (wz6 K)))
def X7 (K : Fg) : Sp := fun vs H Q _ => ∃ (a : Addr) (ws : List Str), vs = [.ref a] /\ H a = some (.lst (B2 ws)) /\ ws.length <= 60 /\ (∀ x ∈ ws, x.length <= 1000) /\ (∀ H', B1 H H' -> rdF ws = none -> Q .non H') /\ ∀ (r : Row) (t : Addr) H', B1 H H' -> rdF ws = some r -> Dv K H' r.da (.ref t) -> Q (.ref t) H'
theorem wz8 (K : Fg) : ∀ vs H Q E, X7 K vs H Q E -> vs.length = ["words"].length := by rintro vs H Q E ⟨a, ws, rfl, _⟩; rfl
def qj0 (K : Fg) (c_SORTS : Addr) : TS :=
 (C6 (M8 (tOr (E4 (tOp xh6 (tCB (N4 K) (A6 (A7 0) B6)) (tC (.int 2)))) (tOr (wf0 (tB (C8 (V7 K) [] E0 (A6 (tOp (E7 K) (A7 0) (tC (.int 0))) B6)))) (E4 (tOp (ql1 K true) (tOp (E7 K) (A7 0) (tC (.int 1))) (tC (.ref c_SORTS))))))
 (M0 (tC .non)) G7)
 (wz7 K))
theorem xf5 {c_SORTS : Addr} (q_SORTS : ∀ H : Hp, SqT K H c_SORTS [.str ("bare" : Str), .str ("plain" : Str), .str ("anew" : Str), .str ("room" : Str), .str ("frame" : Str)]) (h : X7 K vs H Q E) : qj0 K c_SORTS { nx := fun _ H' => Q .non H', rt := Q } (M2 ["words", "host", "start", "shuts", "bars"] vs) H := by
 obtain ⟨a, ws, rfl, ha, hwl, hwx, q0, q⟩ := h
 show qj0 K c_SORTS _ [some (.ref a), none, none, none, none] H
 unfold qj0
 unfold rdF at q0 q
 have gdl : ∀ i, i < ws.length -> (gd ws i).length <= 1000 := fun i hi => hwx _ (Y0 hi)
 lk
 refine O8 (.inl (SqL.of ha)) ?_
 rw [C1]
 lk
 by_cases h2 : ws.length < 2
 ·rw [decide_eq_true (show ((ws.length : Nat) : Int) < 2 by omega)]
  x_go
  lk
  exact q0 _ B1.refl' (if_pos h2)
 rw [decide_eq_false (show ¬ ((ws.length : Nat) : Int) < 2 by omega)]
 k_go
 rw [if_neg h2] at q0 q
 lk
 refine L8 (SqL.of ha) (v := .str (gd ws 0)) (D7 (j := 0) (xk7 (by omega))) ?_
 have hg0 := gdl 0 (by omega)
 refine ⟨gd ws 0, rfl, by omega, fun H1 s1 => ?_⟩
 refine ⟨_, rfl, ?_⟩
 cases e0 : nmX (gd ws 0) with
 | false =>
   x_go
   lk
   exact q0 _ s1 (if_pos e0)
 | true =>
   k_go
   rw [if_neg (by rw [e0]; exact Bool.noConfusion)] at q0 q
   lk
   refine L8 (SqL.of (s1 _ _ ha)) (v := .str (gd ws 1)) (D7 (j := 1) (xk7 (by omega))) ?_
   lk
   refine .inl (qt3 (xs := B2 T8) (.inr (q_SORTS H1)) rfl (V6 _) ?_)
   rw [T7]
   lk
   by_cases hs : gd ws 1 ∈ T8
   ·rw [decide_eq_true hs]
    k_go
    rw [if_neg (fun z => z hs)] at q0 q
    lk
    refine L8 (SqL.of (s1 _ _ ha)) (v := .str (gd ws 1)) (D7 (j := 1) (xk7 (by omega))) ?_
    lk
    by_cases hf : gd ws 1 = ("frame" : Str)
    ·rw [decide_eq_true hf]
     x_go
     rw [if_pos hf] at q0 q
     lk
     refine O8 (.inl (SqL.of (s1 _ _ ha))) ?_
     rw [C1]
     lk
     by_cases h3 : ws.length < 3
     ·rw [decide_eq_true (show ((ws.length : Nat) : Int) < 3 by omega)]
      x_go
      lk
      exact q0 _ s1 (if_pos h3)
     rw [decide_eq_false (show ¬ ((ws.length : Nat) : Int) < 3 by omega)]
     k_go
     rw [if_neg h3] at q0 q
     lk
     refine L8 (SqL.of (s1 _ _ ha)) (v := .str (gd ws 2)) (D7 (j := 2) (xk7 (by omega))) ?_
     have hg2 := gdl 2 (by omega)
     refine ⟨gd ws 2, rfl, by omega, fun H2 s2 => ?_⟩
     refine ⟨_, rfl, ?_⟩
     have s02 := B1.tr s1 s2
     cases e2 : nmX (gd ws 2) with
     | false =>
       x_go
       lk
       exact q0 _ s02 (if_pos e2)
     | true =>
       k_go
       rw [if_neg (by rw [e2]; exact Bool.noConfusion)] at q0 q
       lk
       refine L8 (SqL.of (s02 _ _ ha)) (v := .str (gd ws 2)) (D7 (j := 2) (xk7 (by omega))) ?_
       lk
       exact yz3 (st := 3) (s02 _ _ ha) (by omega) (by omega) hwl hwx (fun H' s' => q0 H' (B1.tr s02 s')) fun r t H' s' => q r t H' (B1.tr s02 s')
    ·rw [decide_eq_false hf]
     k_go
     rw [if_neg hf] at q0 q
     lk
     exact yz3 (st := 2) (s1 _ _ ha) (by omega) (by omega) hwl hwx (fun H' s' => q0 H' (B1.tr s1 s')) fun r t H' s' => q r t H' (B1.tr s1 s')
   ·rw [decide_eq_false hs]
    x_go
    lk
    exact q0 _ s1 (if_pos hs)
theorem qb8 (z : Str) (xs : List Str) : PySem.Txt.join z xs = Str.join z xs := PySem.StrLaws.glued_eq_join _ _
noncomputable def ym4 (r : Row) (sh ba : List Str) : Str := Str.join (" " : Str) (E5 r sh ba)
theorem qj1 {x : Str} (h : nmX x = true) : 10 ∉ x.cps.toList /\ 32 ∉ x.cps.toList := by
 have k := (qz7.mp h).low
 exact ⟨fun z => by have := k 10 z; omega, fun z => by have := k 32 z; omega⟩
theorem xu4 : ∀ x ∈ T8, 10 ∉ x.cps.toList /\ 32 ∉ x.cps.toList := by decide +kernel
theorem qq3 {r : Row} {sh ba : List Str} (G : qb7 r) (p1 : sh.Perm r.shuts) (p2 : ba.Perm r.bars) : ∀ x ∈ E5 r sh ba, 10 ∉ x.cps.toList /\ 32 ∉ x.cps.toList := by
 intro x hx
 unfold E5 at hx
 rcases List.mem_append.mp hx with hx | hx
 ·rcases List.mem_cons.mp hx with rfl | hx
  ·exact qj1 G.n
  ·rw [List.mem_singleton.mp hx]; exact xu4 _ G.s
 ·rcases List.mem_append.mp hx with hx | hx
  ·unfold S7 at hx
   split at hx
   ·rename_i hf; rw [List.mem_singleton.mp hx]; exact qj1 (G.f hf)
   ·cases hx
  ·rcases List.mem_append.mp hx with hx | hx
   ·unfold kwL at hx
    split at hx
    ·cases hx
    ·rcases List.mem_cons.mp hx with rfl | hx
     ·decide +kernel
     ·exact qj1 (G.a x (p1.mem_iff.mp hx))
   ·unfold kwL at hx
    split at hx
    ·cases hx
    ·rcases List.mem_cons.mp hx with rfl | hx
     ·decide +kernel
     ·exact qj1 (G.b x (p2.mem_iff.mp hx))
theorem xo2 {c d : Nat} (n : c ≠ d) : ∀ {xs : List Str}, (∀ x ∈ xs, c ∉ x.cps.toList) -> c ∉ jn d xs
 | [], _ => by rw [jn]; simp
 | [x], h => by rw [jn]; exact h x List.mem_cons_self
 | x :: y :: r, h => by
   rw [jn]
   intro z
   rcases List.mem_append.mp z with z | z
   ·exact h x List.mem_cons_self z
   ·rcases List.mem_cons.mp z with z | z
    ·exact n z
    ·exact xo2 n (fun w hw => h w (List.mem_cons_of_mem _ hw)) z
theorem xk8 {r : Row} {sh ba : List Str} (G : qb7 r) (p1 : sh.Perm r.shuts) (p2 : ba.Perm r.bars) : PySem.Txt.split (ym4 r sh ba) (" " : Str) = E5 r sh ba :=
 qq2 (c := 32) (by unfold E5; simp) fun x hx => (qq3 G p1 p2 x hx).2
theorem yc3 {c : Nat} {m : Nat} : ∀ {xs : List Str}, (∀ x ∈ xs, x.length <= m) -> (jn c xs).length <= xs.length * (m + 1)
 | [], _ => by rw [jn]; simp
 | [x], h => by
   have := h x List.mem_cons_self
   have e : x.cps.toList.length = x.length := Array.length_toList
   rw [jn, List.length_singleton]; omega
 | x :: y :: r, h => by
   have h1 := h x List.mem_cons_self
   have e : x.cps.toList.length = x.length := Array.length_toList
   have h2 := yc3 (c := c) (xs := y :: r) fun w hw => h w (List.mem_cons_of_mem _ hw)
   rw [jn, List.length_append, List.length_cons, List.length_cons, Nat.add_mul]
   omega
theorem xf6 {c m : Nat} {xs : List Str} (h : ∀ x ∈ xs, x.length <= m) : (Str.join ⟨#[c]⟩ xs).length <= xs.length * (m + 1) := by
 have := yc3 (c := c) h
 rw [<- R8] at this
 have e : (Str.join ⟨#[c]⟩ xs).cps.toList.length = (Str.join ⟨#[c]⟩ xs).length := Array.length_toList
 omega
theorem S8 {r : Row} {sh ba : List Str} (G : qb7 r) (p1 : sh.Perm r.shuts) (p2 : ba.Perm r.bars) : (E5 r sh ba).length <= 50 /\ ∀ x ∈ E5 r sh ba, x.length <= 10 := by
 have hsl2 : sh.length <= 20 := by rw [p1.length_eq]; exact G.la
 have hbl2 : ba.length <= 20 := by rw [p2.length_eq]; exact G.lb
 have hk1 := qi8 ("shuts" : Str) sh
 have hk2 := qi8 ("bars" : Str) ba
 have hf1 : wfN sh <= 21 := by unfold wfN; split <;> omega
 have hf2 : wfN ba <= 21 := by unfold wfN; split <;> omega
 have hhl : (S7 r).length <= 1 := by unfold S7; split <;> simp
 refine ⟨?_, fun x hx => ?_⟩
 ·unfold E5
  rw [List.length_append, List.length_append, List.length_append, hk1, hk2]
  show 2 + _ <= _
  omega
 ·have nl : ∀ {z : Str}, nmX z = true -> z.length <= 10 := fun h => by have := wa3 h; omega
  unfold E5 at hx
  rcases List.mem_append.mp hx with hx | hx
  ·rcases List.mem_cons.mp hx with rfl | hx
   ·exact nl G.n
   ·rw [List.mem_singleton.mp hx]; have := wl6 _ G.s; omega
  ·rcases List.mem_append.mp hx with hx | hx
   ·unfold S7 at hx
    split at hx
    ·rename_i hf; rw [List.mem_singleton.mp hx]; exact nl (G.f hf)
    ·cases hx
   ·rcases List.mem_append.mp hx with hx | hx
    ·unfold kwL at hx
     split at hx
     ·cases hx
     ·rcases List.mem_cons.mp hx with rfl | hx
      ·decide +kernel
      ·exact nl (G.a x (p1.mem_iff.mp hx))
    ·unfold kwL at hx
     split at hx
     ·cases hx
     ·rcases List.mem_cons.mp hx with rfl | hx
      ·decide +kernel
      ·exact nl (G.b x (p2.mem_iff.mp hx))
noncomputable def rdL (l : Str) : Option Row := rdF (PySem.Txt.split l (" " : Str))
structure qq4 (l : Str) : Prop where
 n : 10 ∉ l.cps.toList
 z : l.length <= 1000
 w : (PySem.Txt.split l (" " : Str)).length <= 60
 x : ∀ y ∈ PySem.Txt.split l (" " : Str), y.length <= 1000
structure yi8 (ls : List Str) (m : Nat) : Prop where
 lt : m < ls.length
 bad : ∀ l, ls[m]? = some l -> rdL l = none \/ 12 <= m
 ok : ∀ j l, j < m -> ls[j]? = some l -> rdL l ≠ none /\ j < 12
theorem xf7 {ls : List Str} (hne : ls ≠ []) (h : ∀ l ∈ ls, qq4 l) : PySem.Txt.split (Str.join ("\n" : Str) ls) ("\n" : Str) = ls := qq2 (c := 10) hne fun x hx => (h x hx).n
theorem yc4 {ls : List Str} (h : ∀ l ∈ ls, qq4 l) (hl : ls.length <= 20) : (Str.join ("\n" : Str) ls).length <= 20 * 1001 := by
 have h1 := xf6 (c := 10) (m := 1000) (xs := ls) fun x hx => (h x hx).z
 have h2 : ls.length * (1000 + 1) <= 20 * 1001 := Nat.mul_le_mul_right _ hl
 show (Str.join ⟨#[10]⟩ ls).length <= _
 omega
inductive Rrw (K : Fg) (H0 : Hp) (z : Str) (p : Addr) (ls : List Str) (i : Nat) : St -> Hp -> Prop
 | mk {H' : Hp} {a2 a3 a4 : Option V} {us : List V} {rs : List Row} (s : B1 H0 H') (g : H' p = some (.lst us)) (d : Dvs K H' (rs.map Row.da) us) (e : (ls.take i).map rdL = rs.map some) : Rrw K H0 z p ls i [some (.str z), some (.ref p), a2, a3, a4] H'
abbrev wq5 (K : Fg) : TS :=
 (C6 (M8 (tOr (E4 (tOp xc6 (A7 4) (tC .non))) (E4 (tOp yf4 (A7 2) (tC (.int 12)))))
 wf1 G7)
 (qf1 (tBM K "list" W0 (A7 1) (A6 (A7 4) B6))))
abbrev wq6 (K : Fg) : TS :=
 (C6 (G0 (C8 (X7 K) [] E0 (A6 (tBM K "str" qy8 (A7 3) (A6 (tC (.str (" " : Str))) B6)) B6)) (B7 4))
 (wq5 K))
abbrev wq7 (K : Fg) : TS :=
 (C6 (qn6 (wi4 K (A6 (tBM K "str" qy8 (A7 0) (A6 (tC (.str ("\n" : Str))) B6)) B6)) (xb5 K 2 (X3 (B7 2) (X3 (B7 3) xb4)))
 (wq6 K))
 (M0 (A7 1)))
def qa0 (K : Fg) : Sp := fun vs H Q _ => ∃ (z : Str) (ls : List Str), vs = [.str z] /\ ls ≠ [] /\ ls.length <= 12 /\ (∀ l ∈ ls, qq4 l) /\ z = Str.join ("\n" : Str) ls /\ (∀ l ∈ ls, rdL l ≠ none) /\ ∀ (p : Addr) (us : List V) (rs : List Row) H', B1 H H' -> H' p = some (.lst us) -> Dvs K H' (rs.map Row.da) us -> ls.map rdL = rs.map some -> Q (.ref p) H'
theorem wq8 (K : Fg) : ∀ vs H Q E, qa0 K vs H Q E -> vs.length = ["text"].length := by rintro vs H Q E ⟨z, ls, rfl, _⟩; rfl
def qd9 (K : Fg) : TS :=
 (C6 (G0 (O5 B6) (B7 1))
 (wq7 K))
theorem wz9 (h : qa0 K vs H Q E) : qd9 K { nx := fun _ H' => Q .non H', rt := Q } (M2 ["text", "rows", "number", "line", "row"] vs) H := by
 obtain ⟨z, ls, rfl, hne, hz, hL, ez, hR, q⟩ := h
 show qd9 K _ [some (.str z), none, none, none, none] H
 unfold qd9
 have hzl := yc4 hL (by omega)
 have hsp := xf7 hne hL
 rw [<- ez] at hzl hsp
 lk
 refine ⟨M5 (by z_go), fun p hp => ?_⟩
 have s1 := B1.new hp (.lst [])
 have e1 : (upd H p (.lst [])) p = some (.lst []) := A8
 generalize upd H p (.lst []) = H1 at *
 lk
 refine wi6 ?_
 lk
 refine ⟨rfl, ?_⟩
 lk
 refine ⟨z, _, rfl, rfl, by decide +kernel, by omega, fun p2 hp2 => ?_⟩
 rw [hsp]
 have s2 := B1.new hp2 (.lst (B2 ls))
 have e2 : (upd H1 p2 (.lst (B2 ls))) p2 = some (.lst (B2 ls)) := A8
 have np2 : p2 ≠ p := fun z => by rw [z, e1] at hp2; cases hp2
 have e12 := s2 _ _ e1
 have s02 := B1.tr s1 s2
 generalize upd H1 p2 (.lst (B2 ls)) = H2 at *
 lk
 refine qy7 (SqL.of e2) (fun i σ H' => H' p2 = some (.lst (B2 ls)) /\ Rrw K H z p ls i σ H') ⟨e2, .mk (rs := []) s02 e12 Q5 rfl⟩ (fun i σ H' p => SqL.of p.1) ?_ ?_
 ·rintro i x σ H' t hx ⟨h2, s, g, d, ee⟩ ht
  rename_i a2 a3 a4 us rs
  obtain ⟨l, hl, rfl⟩ := T4 hx
  have O := hL l (List.mem_of_getElem? hl)
  have hi : i < ls.length := (List.getElem?_eq_some_iff.mp hl).1
  have et : ls.take (i + 1) = ls.take i ++ [l] := by rw [List.take_add_one, hl]; rfl
  have lus : us.length = i := by
   have h1 := d.length
   have h2 := congrArg List.length ee
   rw [List.length_map] at h1
   rw [List.length_map, List.length_map, List.length_take] at h2
   omega
  have s3 := B1.new ht (.tup [.int i, .str l])
  refine ⟨t, _, rfl, SqT.of A8, rfl, _, _, rfl, E3 ⟨_, _, rfl, E3 ⟨rfl, ?_⟩⟩⟩
  generalize upd H' t (.tup [.int i, .str l]) = H3 at *
  have hz1 := O.z
  lk
  refine ⟨rfl, ?_⟩
  lk
  refine ⟨_, _, rfl, rfl, by decide +kernel, by omega, fun p4 hp4 => ?_⟩
  have s4 := B1.new hp4 (.lst (B2 (PySem.Txt.split l (" " : Str))))
  have e4 : (upd H3 p4 (.lst (B2 (PySem.Txt.split l (" " : Str))))) p4 = some (.lst (B2 (PySem.Txt.split l (" " : Str)))) := A8
  generalize upd H3 p4 (.lst (B2 (PySem.Txt.split l (" " : Str)))) = H4 at *
  lk
  refine ⟨p4, _, rfl, e4, O.w, O.x, fun H5 s5 e5 => absurd e5 (hR l (List.mem_of_getElem? hl)), fun r t5 H5 s5 e5 hd5 => ?_⟩
  have s35 := B1.tr s3 (B1.tr s4 s5)
  lk
  rw [decide_eq_false (show ¬ V.ref t5 = .non from fun z => by cases z)]
  k_go
  lk
  rw [decide_eq_false (show ¬ (12 : Int) <= (i : Int) by omega)]
  k_go
  lk
  refine ⟨.inl ⟨rfl, _, SqL.of (s35 _ _ g)⟩, ?_⟩
  lk
  refine qf8 (s35 _ _ g) (by rw [lus, sizeLine_eq]; omega) ?_
  have tk := xe7 (ys := us ++ [.ref t5]) (s35 _ _ g)
  refine ⟨by rw [B8 np2]; exact s35 _ _ h2, .mk (rs := rs ++ [r]) (B1.put (B1.tr s s35) hp _) A8 ?_ ?_⟩
  ·rw [List.map_append]
   exact wy0 (Dvs.tupK tk _ _ (ql7 _) (Dvs.same s35 _ _ d)) (M7 (Dv.tupK tk _ _ (we2 _) hd5) Q5)
  ·rw [et, List.map_append, List.map_append, ee]
   show _ ++ [rdL l] = _
   rw [show rdL l = some r from e5]; rfl
 ·rintro σ H' ⟨h2, s, g, d, ee⟩
  rw [C1, List.take_length] at ee
  lk
  exact q p _ _ H' s g d ee
def S9 (K : Fg) : Sp := fun vs H Q _ => ∃ (e C : Addr) (i : Int), vs = [.ref e, .int i] /\ H e = some (ErX e C none) /\ SeI K C "row" /\ i.natAbs <= 1000 /\ ∀ dx, H dx = none -> dx ≠ e -> Q .non (upd (upd H e (ErX e C (some dx))) dx (.xd [("row", .int i)]))
theorem xa0 (K : Fg) : ∀ vs H Q E, S9 K vs H Q E -> vs.length = ["self", "row"].length := by rintro vs H Q E ⟨e, C, i, rfl, _⟩; rfl
def qj2 (K : Fg) : TS :=
 (C6 (qf1 (yr8 K (A6 (A7 0) (A6 (yr5 ("row " : Str) (" does not have the form of a book's row" : Str) (A7 1)) B6))))
 (yh5 K (A7 0) (A7 1) "row"))
theorem xf8 (h : S9 K vs H Q E) : qj2 K { nx := fun _ H' => Q .non H', rt := Q } (M2 ["self", "row"] vs) H := by
 obtain ⟨e, C, i, rfl, he, S, hi, q⟩ := h
 show qj2 K _ [some (.ref e), some (.int i)] H
 unfold qj2
 lk
 refine ys1 ?_
 lk
 refine ys3 ?_
 lk
 refine ⟨hi, ?_⟩
 lk
 refine ⟨e, C, none, _, rfl, he, S.qi, ?_⟩
 show yh5 K (A7 0) (A7 1) "row" { nx := fun _ H' => Q .non H', rt := Q } _ _
 refine ys4 ?_
 lk
 exact ⟨e, C, rfl, he, S, q⟩
abbrev wl7 (K : Fg) (k_NoText : Addr) (E : XK) : TS :=
 (C6 (M8 (tOr (E4 (tOp xc6 (A7 4) (tC .non))) (E4 (tOp yf4 (A7 2) (tC (.int 12)))))
 (qu0 k_NoText E (S9 K) (A6 (A7 2) B6)) G7)
 (qf1 (tBM K "list" W0 (A7 1) (A6 (A7 4) B6))))
abbrev wl8 (K : Fg) (k_NoText : Addr) (E : XK) : TS :=
 (C6 (G0 (C8 (X7 K) [] E0 (A6 (tBM K "str" qy8 (A7 3) (A6 (tC (.str (" " : Str))) B6)) B6)) (B7 4))
 (wl7 K k_NoText E))
abbrev wl9 (K : Fg) (k_NoText : Addr) (E : XK) : TS :=
 (C6 (qn6 (wi4 K (A6 (tBM K "str" qy8 (A7 0) (A6 (tC (.str ("\n" : Str))) B6)) B6)) (xb5 K 2 (X3 (B7 2) (X3 (B7 3) xb4)))
 (wl8 K k_NoText E))
 (M0 (A7 1)))
def X0 (K : Fg) (kX : Addr) : Sp := fun vs H Q E => ∃ (z : Str) (ls : List Str) (m : Nat), vs = [.str z] /\ ls.length <= 20 /\ (∀ l ∈ ls, qq4 l) /\ z = Str.join ("\n" : Str) ls /\ yi8 ls m /\ ∀ (dx : Addr) H', B1 H H' -> H' dx = some (.xd [("row", .int m)]) -> E (.ref kX) (some dx) H'
theorem wm0 (K : Fg) (kX : Addr) : ∀ vs H Q E, X0 K kX vs H Q E -> vs.length = ["text"].length := by rintro vs H Q E ⟨z, ls, m, rfl, _⟩; rfl
def qa1 (K : Fg) (k_NoText : Addr) (E : XK) : TS :=
 (C6 (G0 (O5 B6) (B7 1))
 (wl9 K k_NoText E))
theorem wq9 {kX : Addr} (se : SeI K kX "row") (h : X0 K kX vs H Q E) : qa1 K kX E { nx := fun _ H' => Q .non H', rt := Q } (M2 ["text", "rows", "number", "line", "row"] vs) H := by
 obtain ⟨z, ls, m, rfl, hz, hL, ez, F, q⟩ := h
 show qa1 K _ _ _ [some (.str z), none, none, none, none] H
 unfold qa1
 have hne : ls ≠ [] := fun z => by have := F.lt; rw [z] at this; exact absurd this (Nat.not_lt_zero _)
 have hzl := yc4 hL hz
 have hsp := xf7 hne hL
 rw [<- ez] at hzl hsp
 lk
 refine ⟨M5 (by z_go), fun p hp => ?_⟩
 have s1 := B1.new hp (.lst [])
 have e1 : (upd H p (.lst [])) p = some (.lst []) := A8
 generalize upd H p (.lst []) = H1 at *
 lk
 refine wi6 ?_
 lk
 refine ⟨rfl, ?_⟩
 lk
 refine ⟨z, _, rfl, rfl, by decide +kernel, by omega, fun p2 hp2 => ?_⟩
 rw [hsp]
 have s2 := B1.new hp2 (.lst (B2 ls))
 have e2 : (upd H1 p2 (.lst (B2 ls))) p2 = some (.lst (B2 ls)) := A8
 have np2 : p2 ≠ p := fun z => by rw [z, e1] at hp2; cases hp2
 have e12 := s2 _ _ e1
 have s02 := B1.tr s1 s2
 generalize upd H1 p2 (.lst (B2 ls)) = H2 at *
 lk
 refine qy7 (SqL.of e2) (fun i σ H' => H' p2 = some (.lst (B2 ls)) /\ i <= m /\ ∃ (a2 a3 a4 : Option V) (us : List V), B1 H H' /\ H' p = some (.lst us) /\ us.length = i /\ σ = [some (.str z), some (.ref p), a2, a3, a4]) ⟨e2, Nat.zero_le _, _, _, _, [], s02, e12, rfl, rfl⟩ (fun i σ H' p => SqL.of p.1) ?_ ?_
 ·rintro i x σ H' t hx ⟨h2, him, a2, a3, a4, us, s, g, lus, rfl⟩ ht
  obtain ⟨l, hl, rfl⟩ := T4 hx
  have O := hL l (List.mem_of_getElem? hl)
  have hi : i < ls.length := (List.getElem?_eq_some_iff.mp hl).1
  have s3 := B1.new ht (.tup [.int i, .str l])
  refine ⟨t, _, rfl, SqT.of A8, rfl, _, _, rfl, E3 ⟨_, _, rfl, E3 ⟨rfl, ?_⟩⟩⟩
  generalize upd H' t (.tup [.int i, .str l]) = H3 at *
  have hz1 := O.z
  have raise : ∀ {H6 : Hp} {v4 : V}, B1 H H6 -> i = m -> qu0 kX E (S9 K) (A6 (A7 2) B6) { nx := fun _ _ => True, rt := Q } [some (.str z), some (.ref p), some (.int i), some (.str l), some v4] H6 := by
   intro H6 v4 s6 em
   subst em
   refine wu2 ?_
   lk
   refine ⟨M5 (by z_go), fun e he => ⟨e, kX, i, rfl, A8, se, by omega, fun dx hdx ne => ⟨rfl, some dx, ?_, q dx _ ?_ ?_⟩⟩⟩
   ·rw [B8 (Ne.symm ne), A8]
   ·intro c u g
    have g1 := s6 c u g
    rw [B8 ne] at hdx
    have n1 := qi2 g1 he
    have n2 := qi2 g1 hdx
    rw [qa9 n1, B8 n2, B8 n1, B8 n1]; exact g1
   ·rw [qa9 ne, A8]
  lk
  refine ⟨rfl, ?_⟩
  lk
  refine ⟨_, _, rfl, rfl, by decide +kernel, by omega, fun p4 hp4 => ?_⟩
  have s4 := B1.new hp4 (.lst (B2 (PySem.Txt.split l (" " : Str))))
  have e4 : (upd H3 p4 (.lst (B2 (PySem.Txt.split l (" " : Str))))) p4 = some (.lst (B2 (PySem.Txt.split l (" " : Str)))) := A8
  generalize upd H3 p4 (.lst (B2 (PySem.Txt.split l (" " : Str)))) = H4 at *
  lk
  refine ⟨p4, _, rfl, e4, O.w, O.x, fun H5 s5 e5 => ?_, fun r t5 H5 s5 e5 hd5 => ?_⟩
  ·have s35 := B1.tr s3 (B1.tr s4 s5)
   lk
   rw [decide_eq_true rfl]
   x_go
   have em : i = m := by
    rcases Nat.lt_or_ge i m with h | h
    ·exact absurd e5 (F.ok i l h hl).1
    ·omega
   exact raise (B1.tr s s35) em
  ·have s35 := B1.tr s3 (B1.tr s4 s5)
   lk
   rw [decide_eq_false (show ¬ V.ref t5 = .non from fun z => by cases z)]
   k_go
   lk
   by_cases h12 : 12 <= i
   ·rw [decide_eq_true (show (12 : Int) <= (i : Int) by omega)]
    x_go
    have em : i = m := by
     rcases Nat.lt_or_ge i m with h | h
     ·have := (F.ok i l h hl).2; omega
     ·omega
    exact raise (B1.tr s s35) em
   ·rw [decide_eq_false (show ¬ (12 : Int) <= (i : Int) by omega)]
    k_go
    have hlt : i < m := by
     rcases Nat.lt_or_ge i m with h | h
     ·exact h
     ·obtain rfl : i = m := by omega
      rcases F.bad l hl with z | z
      ·have e5 : rdL l = some r := e5
       rw [z] at e5; cases e5
      ·omega
    lk
    refine ⟨.inl ⟨rfl, _, SqL.of (s35 _ _ g)⟩, ?_⟩
    lk
    refine qf8 (s35 _ _ g) (by rw [lus, sizeLine_eq]; omega) ?_
    refine ⟨by rw [B8 np2]; exact s35 _ _ h2, hlt, _, _, _, us ++ [.ref t5], B1.put (B1.tr s s35) hp _, A8, by rw [List.length_append, lus]; rfl, rfl⟩
 ·rintro σ H' ⟨h2, him, a2, a3, a4, us, s, g, lus, rfl⟩
  have := F.lt
  rw [C1] at him
  omega
abbrev wr0 (K : Fg) : TS :=
 (C6 (M8 (E4 (tOp qh4 (A7 2) (tC .non)))
 wf1 G7)
 (M0 (tCB (qn1 K) (A6 (A7 1) B6))))
def rbT (K : Fg) : TS :=
 (C6 (G0 (C8 (Q0 K) [] E0 (A6 (A7 1) B6)) (B7 2))
 (wr0 K))
theorem zb4 {D : P4} {z : Str} {p : Addr} {us : List V} {rs : List Row} (hp : H p = some (.lst us)) (hd : Dvs K H (rs.map Row.da) us) (hz : rs.length <= 12) (hS : ∀ r ∈ rs, Sml r) (hM : wy3 rs)
 (q : ∀ (t : Addr) H', B1 H H' -> H' t = some (.tup us) -> D.rt (.ref t) H') : rbT K D [some (.str z), some (.ref p), none] H := by
 unfold rbT
 lk
 refine ⟨p, us, rs, rfl, SqL.of hp, hd, by omega, hS, fun H1 s1 _ => ?_, fun i H1 s1 m => absurd hM m.not⟩
 lk
 k_go
 lk
 refine ⟨p, _, rfl, .inl ⟨SqL.of (s1 _ _ hp), fun t ht => ?_⟩⟩
 have s2 := B1.new ht (.tup us)
 exact q t _ (B1.tr s1 s2) A8
theorem xo3 {ls : List Str} (h0 : ls ≠ []) (h1 : ls ≠ [("" : Str)]) : Str.join ("\n" : Str) ls ≠ ("" : Str) := by
 intro e
 have e2 : (Str.join ⟨#[10]⟩ ls).cps.toList = jn 10 ls := R8 10 _
 have e3 : ([] : List Nat) = jn 10 ls := by rw [<- e2]; show _ = (Str.join ("\n" : Str) ls).cps.toList; rw [e]; rfl
 match ls, h0, h1, e3 with
 | [l], _, h1, e3 =>
   refine h1 ?_
   rw [jn] at e3
   have : l = ("" : Str) := T5 (by rw [<- e3]; rfl)
   rw [this]
 | l :: m :: ls, _, _, e3 => rw [jn] at e3; have := congrArg List.length e3; simp at this
theorem yi9 {ls : List Str} {rs qs : List Row} (h : ls.map rdL = rs.map some) (g : ls.map rdL = qs.map some) : rs = qs := by
 have e : rs.map some = qs.map some := by rw [<- h, <- g]
 have : ∀ {a b : List Row}, a.map some = b.map some -> a = b := by
  intro a
  induction a with
  | nil => intro b h; cases b with
    | nil => rfl
    | cons _ _ => cases h
  | cons x a ih => intro b h; cases b with
    | nil => cases h
    | cons y b => injection h with h1 h2; injection h1 with h1; rw [h1, ih h2]
 exact this e
abbrev wr1 (K : Fg) : TS :=
 (C6 (G0 (tIf (E4 (tOp (O0 K) (A7 0) (tC (.str ("" : Str))))) (O5 B6) (C8 (qa0 K) [] E0 (A6 (A7 0) B6))) (B7 1))
 (rbT K))
def U6 (K : Fg) : Sp := fun vs H Q _ => ∃ (z : Str) (ls : List Str) (rs : List Row), vs = [.str z] /\ ls ≠ [] /\ ls ≠ [("" : Str)] /\ ls.length <= 12 /\ (∀ l ∈ ls, qq4 l) /\ z = Str.join ("\n" : Str) ls /\ ls.map rdL = rs.map some /\ (∀ r ∈ rs, Sml r) /\ wy3 rs /\ ∀ (t : Addr) (us : List V) H', B1 H H' -> H' t = some (.tup us) -> us.length = rs.length -> Q (.ref t) H'
theorem wr2 (K : Fg) : ∀ vs H Q E, U6 K vs H Q E -> vs.length = ["text"].length := by rintro vs H Q E ⟨z, ls, rs, rfl, _⟩; rfl
def qe0 (K : Fg) : TS :=
 (C6 (M8 (wf0 (tB (tCB (xr9 K) (A6 (A7 0) (A6 (tC (.ty "str")) B6)))))
 wf1 G7)
 (wr1 K))
theorem xa1 (h : U6 K vs H Q E) : qe0 K { nx := fun _ H' => Q .non H', rt := Q } (M2 ["text", "rows", "misfit"] vs) H := by
 obtain ⟨z, ls, rs, rfl, h0, h1, hz, hL, ez, hR, hS, hM, q⟩ := h
 show qe0 K _ [some (.str z), none, none] H
 unfold qe0
 lk
 refine xd0 (.str _) (b := true) rfl ?_
 lk
 k_go
 lk
 have hzn : ¬ z = ("" : Str) := by rw [ez]; exact xo3 h0 h1
 rw [decide_eq_false hzn]
 k_go
 lk
 have hlr : rs.length = ls.length := by have := congrArg List.length hR; rw [List.length_map, List.length_map] at this; exact this.symm
 refine ⟨z, ls, rfl, h0, hz, hL, ez, fun l hl e => ?_, fun p us qs H1 s1 h1 h2 h3 => ?_⟩
 ·have : (none : Option Row) ∈ rs.map some := by rw [<- hR, <- e]; exact List.mem_map_of_mem hl
  obtain ⟨_, _, z⟩ := List.mem_map.mp this
  cases z
 ·obtain rfl := yi9 h3 hR
  have hul : us.length = qs.length := by have := h2.length; simpa using this
  lk
  exact zb4 h1 h2 (by omega) hS hM fun t H' s' h => q t _ H' (B1.tr s1 s') h hul
abbrev wm1 (K : Fg) : TS :=
 (C6 (M8 (E4 (tOp qh4 (A7 2) (tC .non)))
 wf1 G7)
 (M0 (tCB (qn1 K) (A6 (A7 1) B6))))
abbrev wm2 (K : Fg) (k_NoText : Addr) (E : XK) : TS :=
 (C6 (G0 (tIf (E4 (tOp (O0 K) (A7 0) (tC (.str ("" : Str))))) (O5 B6) (C8 (X0 K k_NoText) [] E (A6 (A7 0) B6))) (B7 1))
 (C6 (G0 (C8 (Q0 K) [] E0 (A6 (A7 1) B6)) (B7 2))
 (wm1 K)))
def X2 (K : Fg) (kX : Addr) : Sp := fun vs H Q E => (∃ (z : Str) (ls : List Str) (m : Nat), vs = [.str z] /\ ls ≠ [("" : Str)] /\ ls.length <= 20 /\ (∀ l ∈ ls, qq4 l) /\ z = Str.join ("\n" : Str) ls /\ yi8 ls m /\ ∀ (dx : Addr) H', B1 H H' -> H' dx = some (.xd [("row", .int m)]) -> E (.ref kX) (some dx) H') \/
 ∃ (v : V) (t : Value), vs = [v] /\ qk7 K H v t /\ PySem.W.kitOne K t (.type "str") = some false /\ ∀ (dx : Addr) H', B1 H H' -> H' dx = some (.xd [("row", .int 0)]) -> E (.ref kX) (some dx) H'
theorem wm3 (K : Fg) (kX : Addr) : ∀ vs H Q E, X2 K kX vs H Q E -> vs.length = ["text"].length := by rintro vs H Q E (⟨z, ls, m, rfl, _⟩ | ⟨v, t, rfl, _⟩) <;> rfl
def Q7 (K : Fg) (k_NoText : Addr) (E : XK) : TS :=
 (C6 (M8 (wf0 (tB (tCB (xr9 K) (A6 (A7 0) (A6 (tC (.ty "str")) B6)))))
 (qu0 k_NoText E (S9 K) (A6 (tC (.int 0)) B6)) G7)
 (wm2 K k_NoText E))
theorem wr3 {kX : Addr} (se : SeI K kX "row") (h : X2 K kX vs H Q E) : Q7 K kX E { nx := fun _ H' => Q .non H', rt := Q } (M2 ["text", "rows", "misfit"] vs) H := by
 rcases h with ⟨z, ls, m, rfl, h1, hz, hL, ez, F, q⟩ | ⟨v, t, rfl, ty, kt, q⟩
 ·show Q7 K _ _ _ [some (.str z), none, none] H
  unfold Q7
  have h0 : ls ≠ [] := fun z => by have := F.lt; rw [z] at this; exact absurd this (Nat.not_lt_zero _)
  lk
  refine xd0 (.str _) (b := true) rfl ?_
  lk
  k_go
  lk
  have hzn : ¬ z = ("" : Str) := by rw [ez]; exact xo3 h0 h1
  rw [decide_eq_false hzn]
  k_go
  lk
  exact ⟨z, ls, m, rfl, hz, hL, ez, F, q⟩
 ·show Q7 K _ _ _ [some v, none, none] H
  unfold Q7
  lk
  refine xd0 ty (b := false) kt ?_
  lk
  x_go
  refine wu2 ?_
  lk
  refine ⟨M5 (by z_go), fun e he => ⟨e, kX, 0, rfl, A8, se, by decide, fun dx hdx ne => ⟨rfl, some dx, ?_, q dx _ ?_ ?_⟩⟩⟩
  ·rw [B8 (Ne.symm ne), A8]
  ·intro c u g
   rw [B8 ne] at hdx
   have n1 := qi2 g he
   have n2 := qi2 g hdx
   rw [qa9 n1, B8 n2, B8 n1, B8 n1]; exact g
  ·rw [qa9 ne, A8]
noncomputable def G5 (r : Row) : Str := ym4 r r.shuts r.bars
theorem yj0 (xs : List Str) : PyData.eqv (.tuple (sDa xs)) (.tuple []) = xs.isEmpty := by cases xs <;> rfl
theorem wm4 {m : Nat} : ∀ {xs : List Str}, (∀ x ∈ xs, x.length <= m) -> (xs.map (·.length)).sum <= xs.length * m
 | [], _ => by simp
 | x :: xs, h => by
   have h1 := h x List.mem_cons_self
   have h2 := wm4 (xs := xs) fun y hy => h y (List.mem_cons_of_mem _ hy)
   rw [List.map_cons, List.sum_cons, List.length_cons, Nat.add_mul]; omega
theorem xk9 {r : Row} {sh ba : List Str} (G : qb7 r) (p1 : sh.Perm r.shuts) (p2 : ba.Perm r.bars) : ((E5 r sh ba).map (·.length)).sum + (E5 r sh ba).length * (" " : Str).length <= 16777216 := by
 obtain ⟨h1, h2⟩ := S8 G p1 p2
 have h3 := wm4 h2
 have h4 : (E5 r sh ba).length * 10 <= 50 * 10 := Nat.mul_le_mul_right _ h1
 show _ + _ * 1 <= _
 omega
theorem qg2 (xs ys : List Str) : B2 xs ++ B2 ys = B2 (xs ++ ys) := by unfold B2; rw [List.map_append]
theorem qu8 {k : Str} {xs : List Str} (h : xs ≠ []) : kwL k xs = k :: xs := by unfold kwL; rw [if_neg h]
theorem yj1 {k : Str} : kwL k [] = [] := rfl
abbrev wr4 (K : Fg) : TS :=
 (G0 (tOp (L7 K) (tOp (L7 K) (A7 6) (O5 (A6 (A7 7) B6))) (tCB (xx2 K) (A6 (A7 8) B6))) (B7 6))
def riI (K : Fg) : TS :=
 (M8 (E4 (tOp (qy1 K) (A7 8) (qp3 B6)))
 (wr4 K) G7)
theorem yz4 {D : P4} {v0 : Option V} {r : Row} {s t p a : Addr} {k : Str} {ws ys : List Str} (hp : H p = some (.lst (B2 ws))) (ha : SqT K H a (B2 ys)) (hl : ws.length + ys.length <= 1000)
 (q : ∀ (p' : Addr) H', B1 H H' -> H' p' = some (.lst (B2 (ws ++ kwL k ys))) -> D.nx [v0, some (.str r.name), some (.str r.sort), some (.str r.host), some (.ref s), some (.ref t), some (.ref p'), some (.str k), some (.ref a)] H') : riI K D [v0, some (.str r.name), some (.str r.sort), some (.str r.host), some (.ref s), some (.ref t), some (.ref p), some (.str k), some (.ref a)] H := by
 unfold riI
 lk
 refine ⟨M5 (by z_go), fun p1 hp1 => ?_⟩
 have s1 := B1.new hp1 (.tup [])
 refine yx7 (d := .tuple (sDa ys)) (e := .tuple []) (N0.mpr ⟨a, _, rfl, s1.sqT ha, R7.mpr rfl⟩) (N0.mpr ⟨p1, [], rfl, SqT.of A8, Q5⟩) (Nat.le_trans (Nat.min_le_right _ _) (by decide)) ?_
 rw [yj0]
 generalize upd H p1 (.tup []) = H1 at *
 lk
 cases e : ys.isEmpty with
 | true =>
   k_go
   have e0 : ys = [] := List.isEmpty_iff.mp e
   subst e0
   lk
   refine q p H1 s1 ?_
   rw [yj1, List.append_nil]; exact s1 _ _ hp
 | false =>
   x_go
   have hne : ys ≠ [] := fun z => by rw [z] at e; cases e
   lk
   refine ⟨M5 (by z_go), fun p2 hp2 => ?_⟩
   have s2 := B1.new hp2 (.lst [.str k])
   have e2 : (upd H1 p2 (.lst [.str k])) p2 = some (.lst (B2 [k])) := A8
   generalize upd H1 p2 (.lst [.str k]) = H2 at *
   have s02 := B1.tr s1 s2
   refine wt6 (s02 _ _ hp) e2 (M5 (by rw [C1]; show _ + 1 <= _; omega)) fun p3 hp3 => ?_
   rw [qg2]
   have s3 := B1.new hp3 (.lst (B2 (ws ++ [k])))
   have e3 : (upd H2 p3 (.lst (B2 (ws ++ [k])))) p3 = some (.lst (B2 (ws ++ [k]))) := A8
   generalize upd H2 p3 (.lst (B2 (ws ++ [k]))) = H3 at *
   have s03 := B1.tr s02 s3
   lk
   refine ⟨a, _, rfl, .inr (s03.sqT ha), fun p4 hp4 => ?_⟩
   have s4 := B1.new hp4 (.lst (B2 ys))
   have e4 : (upd H3 p4 (.lst (B2 ys))) p4 = some (.lst (B2 ys)) := A8
   generalize upd H3 p4 (.lst (B2 ys)) = H4 at *
   refine wt6 (s4 _ _ e3) e4 (M5 (by rw [C1, C1, List.length_append]; show _ + 1 + _ <= _; omega)) fun p5 hp5 => ?_
   rw [qg2]
   lk
   refine q p5 _ (B1.tr s03 (B1.tr s4 (B1.new hp5 _))) ?_
   rw [A8, qu8 hne]; simp
def riT (K : Fg) : TS :=
 (C6 (qn6 (qh6 K (O5 (A6 (qp3 (A6 (tC (.str ("shuts" : Str))) (A6 (A7 4) B6))) (A6 (qp3 (A6 (tC (.str ("bars" : Str))) (A6 (A7 5) B6))) B6)))) (xb5 K 2 (X3 (B7 7) (X3 (B7 8) xb4)))
 (riI K))
 (M0 (tBM K "str" (qo4 K) (tC (.str (" " : Str))) (A6 (A7 6) B6))))
noncomputable def wi (r : Row) : Nat -> List Str
 | 0 => [r.name, r.sort] ++ S7 r
 | 1 => [r.name, r.sort] ++ S7 r ++ kwL ("shuts" : Str) r.shuts
 | _ => [r.name, r.sort] ++ S7 r ++ kwL ("shuts" : Str) r.shuts ++ kwL ("bars" : Str) r.bars
inductive Ris (H0 : Hp) (v0 : Option V) (s t : Addr) (r : Row) (i : Nat) : St -> Hp -> Prop
 | mk {H' : Hp} {p : Addr} {o1 o2 : Option V} (q : B1 H0 H') (g : H' p = some (.lst (B2 (wi r i)))) : Ris H0 v0 s t r i [v0, some (.str r.name), some (.str r.sort), some (.str r.host), some (.ref s), some (.ref t), some (.ref p), o1, o2] H'
theorem yz5 {D : P4} {v0 : Option V} {s t p : Addr} {r : Row} {o1 o2 : Option V} (U : qb7 r) (hs : SqT K H s (B2 r.shuts)) (ht : SqT K H t (B2 r.bars)) (hp : H p = some (.lst (B2 ([r.name, r.sort] ++ S7 r))))
 (q : ∀ H', B1 H H' -> D.rt (.str (G5 r)) H') : riT K D [v0, some (.str r.name), some (.str r.sort), some (.str r.host), some (.ref s), some (.ref t), some (.ref p), o1, o2] H := by
 have G := U
 have p1 : r.shuts.Perm r.shuts := List.Perm.refl _
 have p2 : r.bars.Perm r.bars := List.Perm.refl _
 have hwl := S8 G p1 p2
 have ew : wi r 2 = E5 r r.shuts r.bars := by unfold wi E5; simp
 have hhl : (S7 r).length <= 1 := by unfold S7; split <;> simp
 have hk1 := qi8 ("shuts" : Str) r.shuts
 have hla := U.la
 have hlb := U.lb
 have hf1 : wfN r.shuts <= 21 := by unfold wfN; split <;> omega
 unfold riT
 lk
 refine ⟨M5 (by z_go), fun t1 ht1 => ?_⟩
 have s1 := B1.new ht1 (.tup [.str ("shuts" : Str), .ref s])
 have e1 : (upd H t1 (.tup [.str ("shuts" : Str), .ref s])) t1 = some (.tup [.str ("shuts" : Str), .ref s]) := A8
 generalize upd H t1 (.tup [.str ("shuts" : Str), .ref s]) = H1 at *
 lk
 refine ⟨M5 (by z_go), fun t2 ht2 => ?_⟩
 have s2 := B1.new ht2 (.tup [.str ("bars" : Str), .ref t])
 have e2 : (upd H1 t2 (.tup [.str ("bars" : Str), .ref t])) t2 = some (.tup [.str ("bars" : Str), .ref t]) := A8
 generalize upd H1 t2 (.tup [.str ("bars" : Str), .ref t]) = H2 at *
 lk
 refine ⟨M5 (by z_go), fun l hl => ?_⟩
 have s3 := B1.new hl (.lst [.ref t1, .ref t2])
 have e3 : (upd H2 l (.lst [.ref t1, .ref t2])) l = some (.lst [.ref t1, .ref t2]) := A8
 have e1 := s3 _ _ (s2 _ _ e1)
 have e2 := s3 _ _ e2
 have s03 := B1.tr s1 (B1.tr s2 s3)
 generalize upd H2 l (.lst [.ref t1, .ref t2]) = H3 at *
 lk
 refine yb1 (xs := [.ref t1, .ref t2]) (.inl (SqL.of e3)) B1.refl' (Ris H3 v0 s t r) (.mk B1.refl' (s03 _ _ hp)) (fun i σ H' p => by cases p with | mk s => exact s) ?_ ?_
 ·rintro i x σ H' hx ⟨s4, g⟩
  rename_i p4 o3 o4
  match i, hx with
  | 0, hx =>
    cases hx
    refine ⟨t1, _, rfl, SqT.of (s4 _ _ e1), rfl, _, _, rfl, E3 ⟨_, _, rfl, E3 ⟨rfl, ?_⟩⟩⟩
    refine yz4 g ((B1.tr s03 s4).sqT hs) ?_ fun p' H'' s' g' => .mk (B1.tr s4 s') g'
    show ([r.name, r.sort] ++ S7 r).length + _ <= _
    rw [List.length_append]; show 2 + _ + _ <= _; omega
  | 1, hx =>
    cases hx
    refine ⟨t2, _, rfl, SqT.of (s4 _ _ e2), rfl, _, _, rfl, E3 ⟨_, _, rfl, E3 ⟨rfl, ?_⟩⟩⟩
    refine yz4 g ((B1.tr s03 s4).sqT ht) ?_ fun p' H'' s' g' => .mk (B1.tr s4 s') g'
    show ([r.name, r.sort] ++ S7 r ++ kwL ("shuts" : Str) r.shuts).length + _ <= _
    rw [List.length_append, List.length_append, hk1]; show 2 + _ + _ + _ <= _; omega
 ·rintro σ H' ⟨s4, g⟩
  rename_i p4 o3 o4
  have g : H' p4 = some (.lst (B2 (wi r 2))) := g
  rw [ew] at g
  lk
  refine ⟨rfl, ?_⟩
  lk
  refine ⟨_, p4, E5 r r.shuts r.bars, rfl, rfl, .inl (SqL.of g), xk9 G p1 p2, ?_⟩
  rw [qb8]
  exact q _ (B1.tr s03 s4)
abbrev wr5 (K : Fg) : TS :=
 (C6 (M8 (E4 (tOp (qy1 K) (A7 3) (tC (.str ("" : Str)))))
 (qf1 (tBM K "list" W0 (A7 6) (A6 (A7 3) B6))) G7)
 (riT K))
def U7 (K : Fg) : Sp := fun vs H Q _ => ∃ (v : V) (r : Row), vs = [v] /\ Dv K H r.da v /\ qb7 r /\ ∀ H', B1 H H' -> Q (.str (G5 r)) H'
theorem wr6 (K : Fg) : ∀ vs H Q E, U7 K vs H Q E -> vs.length = ["_law_row"].length := by rintro vs H Q E ⟨v, r, rfl, _⟩; rfl
def qe1 (K : Fg) : TS :=
 (C6 (G0 (A7 0) (xb5 K 5 (X3 (B7 1) (X3 (B7 2) (X3 (B7 3) (X3 (B7 4) (X3 (B7 5) xb4)))))))
 (C6 (G0 (O5 (A6 (A7 1) (A6 (A7 2) B6))) (B7 6))
 (wr5 K)))
theorem xa2 (h : U7 K vs H Q E) : qe1 K { nx := fun _ H' => Q .non H', rt := Q } (M2 ["_law_row", "_law_name", "_law_sort", "_law_host", "_law_shuts", "_law_bars", "_law_words_of", "_law_head", "_law_some_here"] vs) H := by
 obtain ⟨v, r, rfl, hd, U, q⟩ := h
 obtain ⟨b, s, t, rfl, hb, hs, ht⟩ := xk5 hd
 show qe1 K _ [some (.ref b), none, none, none, none, none, none, none, none] H
 unfold qe1
 lk
 refine ⟨b, _, rfl, hb, rfl, _, _, rfl, E3 ⟨_, _, rfl, E3 ⟨_, _, rfl, E3 ⟨_, _, rfl, E3 ⟨_, _, rfl, E3 ⟨rfl, ?_⟩⟩⟩⟩⟩⟩
 lk
 refine ⟨M5 (by z_go), fun p hp => ?_⟩
 have s1 := B1.new hp (.lst [.str r.name, .str r.sort])
 have e1 : (upd H p (.lst [.str r.name, .str r.sort])) p = some (.lst [.str r.name, .str r.sort]) := A8
 generalize upd H p (.lst [.str r.name, .str r.sort]) = H1 at *
 lk
 by_cases hf : r.sort = ("frame" : Str)
 ·have hne : ¬ r.host = ("" : Str) := fun z => by
   have := (qz7.mp (U.f hf)).one
   rw [z] at this; exact absurd this (by decide)
  rw [decide_eq_false hne]
  x_go
  lk
  refine ⟨.inl ⟨rfl, _, SqL.of e1⟩, ?_⟩
  lk
  refine qf8 e1 (by show 2 < _; rw [sizeLine_eq]; decide) ?_
  have s2 : B1 H (upd H1 p (.lst ([.str r.name, .str r.sort] ++ [.str r.host]))) := B1.put s1 hp _
  lk
  refine yz5 U (s2.sqT hs) (s2.sqT ht) ?_ fun H' s' => q H' (B1.tr s2 s')
  rw [A8]; unfold S7; rw [if_pos hf]; rfl
 ·rw [decide_eq_true (U.e hf)]
  k_go
  lk
  refine yz5 U (s1.sqT hs) (s1.sqT ht) ?_ fun H' s' => q H' (B1.tr s1 s')
  rw [e1]; unfold S7; rw [if_neg hf]; rfl
theorem yc5 {c : Nat} : ∀ {xs ys : List Str}, xs ≠ [] -> ys ≠ [] -> jn c (xs ++ ys) = jn c xs ++ c :: jn c ys
 | [x], y :: ys, _, _ => by show jn c (x :: y :: ys) = _; rw [jn, jn]
 | x :: x2 :: xs, ys, _, h => by
   have ih := yc5 (c := c) (xs := x2 :: xs) (ys := ys) (by simp) h
   show jn c (x :: x2 :: (xs ++ ys)) = _
   rw [jn, jn]
   show _ ++ c :: jn c ((x2 :: xs) ++ ys) = _
   rw [ih]; simp
theorem xo4 (a z : Str) : (a ++ z).cps.toList = a.cps.toList ++ z.cps.toList := by show (a.cps ++ z.cps).toList = _; rw [Array.toList_append]
theorem wm5 {ws zs : List Str} {k : Str} (h0 : ws ≠ []) (h1 : zs ≠ []) (hk : k.cps.toList = 32 :: jn 32 zs) : Str.join (" " : Str) ws ++ k = Str.join (" " : Str) (ws ++ zs) := by
 apply T5
 rw [xo4, hk]
 show (Str.join ⟨#[32]⟩ ws).cps.toList ++ _ = (Str.join ⟨#[32]⟩ (ws ++ zs)).cps.toList
 rw [R8, R8, yc5 h0 h1]
structure wm6 (x : Str) : Prop where
 l : x.length <= 10
 n : 10 ∉ x.cps.toList
 s : 32 ∉ x.cps.toList
theorem ym5 {ws : List Str} (h0 : ws ≠ []) (hl : ws.length <= 60) (hx : ∀ x ∈ ws, wm6 x) : qq4 (Str.join (" " : Str) ws) /\ rdL (Str.join (" " : Str) ws) = rdF ws := by
 have e : PySem.Txt.split (Str.join (" " : Str) ws) (" " : Str) = ws := qq2 (c := 32) h0 fun x h => (hx x h).s
 refine ⟨⟨?_, ?_, by rw [e]; exact hl, by rw [e]; exact fun y hy => by have := (hx y hy).l; omega⟩, by unfold rdL; rw [e]⟩
 ·show 10 ∉ (Str.join ⟨#[32]⟩ ws).cps.toList
  rw [R8]
  exact xo2 (by decide) fun x h => (hx x h).n
 ·have h1 := xf6 (c := 32) (m := 10) (xs := ws) fun x h => (hx x h).l
  have h2 : ws.length * (10 + 1) <= 60 * 11 := Nat.mul_le_mul_right _ hl
  show (Str.join ⟨#[32]⟩ ws).length <= _
  omega
theorem wu8 {x : Str} (h : nmX x = true) : wm6 x := by have := wa3 h; exact ⟨by omega, (qj1 h).1, (qj1 h).2⟩
theorem qu9 {r : Row} (G : qb7 r) : ∀ x ∈ E5 r r.shuts r.bars, wm6 x := fun x hx => ⟨(S8 G (List.Perm.refl _) (List.Perm.refl _)).2 x hx, (qq3 G (List.Perm.refl _) (List.Perm.refl _) x hx).1, (qq3 G (List.Perm.refl _) (List.Perm.refl _) x hx).2⟩
def ql8 (l : Str) : Prop := qq4 l /\ rdL l = none
theorem qf0 {ws : List Str} (h0 : ws ≠ []) (hl : ws.length <= 60) (hx : ∀ x ∈ ws, wm6 x) (h : rdF ws = none) : ql8 (Str.join (" " : Str) ws) := by
 obtain ⟨a, e⟩ := ym5 h0 hl hx
 exact ⟨a, by rw [e]; exact h⟩
theorem wm7 {ws : List Str} (h : ws.length < 2) : rdF ws = none := if_pos h
theorem xo5 {ws : List Str} (h : nmX (gd ws 0) = false) : rdF ws = none := by
 unfold rdF
 rw [if_pos h]; split <;> rfl
theorem xo6 {ws : List Str} (h : gd ws 1 ∉ T8) : rdF ws = none := by
 unfold rdF
 rw [if_pos h]; split
 ·rfl
 ·split <;> rfl
def lft (tl : List Str) : Prop := wfN (nbF ("shuts" : Str) tl) + wfN (nbF ("bars" : Str) (tl.drop (wfN (nbF ("shuts" : Str) tl)))) ≠ tl.length
instance (tl : List Str) : Decidable (lft tl) := by unfold lft; exact inferInstance
theorem xo7 {hd tl : List Str} {h : Str} (e : lft tl) : rdT (hd ++ tl) hd.length h = none := by
 unfold rdT
 rw [List.drop_left, <- List.drop_drop, List.drop_left, if_neg]
 rw [List.length_append]
 unfold lft at e
 omega
theorem nf2 {n x : Str} {tl : List Str} (hx : x ≠ ("frame" : Str)) (e : lft tl) : rdF (n :: x :: tl) = none := by
 have h2 : rdT (n :: x :: tl) 2 ("" : Str) = none := xo7 (hd := [n, x]) e
 unfold rdF
 rw [h2]
 have : gd (n :: x :: tl) 1 = x := rfl
 rw [this, if_neg hx]
 split
 ·rfl
 ·split
  ·rfl
  ·split <;> rfl
theorem nf3 {n h : Str} {tl : List Str} (e : lft tl) : rdF (n :: ("frame" : Str) :: h :: tl) = none := by
 have h3 : rdT (n :: ("frame" : Str) :: h :: tl) 3 (gd (n :: ("frame" : Str) :: h :: tl) 2) = none := xo7 (hd := [n, ("frame" : Str), h]) e
 unfold rdF
 rw [h3]
 have : gd (n :: ("frame" : Str) :: h :: tl) 1 = ("frame" : Str) := rfl
 rw [this, if_pos rfl]
 split
 ·rfl
 ·split
  ·rfl
  ·split
   ·rfl
   ·split
    ·rfl
    ·split <;> rfl
theorem yt7 {n : Str} : rdF [n, ("frame" : Str)] = none := by
 unfold rdF
 have : gd [n, ("frame" : Str)] 1 = ("frame" : Str) := rfl
 rw [this, if_pos rfl, if_pos (show ([n, ("frame" : Str)] : List Str).length < 3 from by show 2 < 3; decide)]
 split
 ·rfl
 ·split
  ·rfl
  ·split <;> rfl
theorem yt8 {n h : Str} {tl : List Str} (e : nmX h = false) : rdF (n :: ("frame" : Str) :: h :: tl) = none := by
 unfold rdF
 have : gd (n :: ("frame" : Str) :: h :: tl) 1 = ("frame" : Str) := rfl
 have h2 : gd (n :: ("frame" : Str) :: h :: tl) 2 = h := rfl
 rw [this, h2, if_pos rfl, if_pos e]
 split
 ·rfl
 ·split
  ·rfl
  ·split
   ·rfl
   ·split <;> rfl
theorem yt9 {sh ba xs : List Str} {x : Str} (ha : ∀ y ∈ sh, nmX y = true) (hb : ∀ y ∈ ba, nmX y = true) (hx : nmX x = false) (hxs : ∀ y, xs.head? = some y -> nmX y = false) : lft (kwL ("shuts" : Str) sh ++ (kwL ("bars" : Str) ba ++ x :: xs)) := by
 have hh : ∀ y, (kwL ("bars" : Str) ba ++ x :: xs).head? = some y -> nmX y = false := fun y hy => by
  unfold kwL at hy
  split at hy
  ·have : x = y := by simpa using hy
   rw [<- this]; exact hx
  ·have : ("bars" : Str) = y := by simpa using hy
   rw [<- this]; exact wy9
 have t0 : xs.takeWhile nmX = [] := by
  cases xs with
  | nil => rfl
  | cons y ys => rw [List.takeWhile_cons, hxs y rfl]; rfl
 have e1 : nbF ("shuts" : Str) (kwL ("shuts" : Str) sh ++ (kwL ("bars" : Str) ba ++ x :: xs)) = sh := by
  cases sh with
  | nil =>
    show nbF ("shuts" : Str) (kwL ("bars" : Str) ba ++ x :: xs) = []
    unfold nbF
    split
    ·rename_i h
     cases ba with
     | nil => show xs.takeWhile nmX = []; exact t0
     | cons y ys => exact absurd h (by rw [qu8 (by simp)]; show ¬ [("bars" : Str)] = [("shuts" : Str)]; decide +kernel)
    ·rfl
  | cons y ys =>
    rw [qu8 (by simp)]
    exact (if_pos rfl).trans (wu6 ha hh)
 have e2 : nbF ("bars" : Str) (kwL ("bars" : Str) ba ++ x :: xs) = ba := by
  cases ba with
  | nil =>
    show nbF ("bars" : Str) (x :: xs) = []
    unfold nbF
    split
    ·show xs.takeWhile nmX = []; exact t0
    ·rfl
  | cons y ys =>
    rw [qu8 (by simp)]
    exact (if_pos rfl).trans (wu6 hb fun z hz => by
     have : x = z := by simpa using hz
     rw [<- this]; exact hx)
 unfold lft
 rw [e1, <- qi8 ("shuts" : Str) sh, List.drop_left, e2, List.length_append, List.length_append, qi8 ("bars" : Str) ba, List.length_cons]
 omega
theorem yj2 {r : Row} {xs : List Str} {x : Str} (G : qb7 r) (hx : nmX x = false) (hxs : ∀ y, xs.head? = some y -> nmX y = false) : rdF (E5 r r.shuts r.bars ++ x :: xs) = none := by
 have L := yt9 G.a G.b hx hxs
 by_cases hf : r.sort = ("frame" : Str)
 ·have e : E5 r r.shuts r.bars ++ x :: xs = r.name :: ("frame" : Str) :: r.host :: (kwL ("shuts" : Str) r.shuts ++ (kwL ("bars" : Str) r.bars ++ x :: xs)) := by
   unfold E5 S7; rw [if_pos hf, hf]; simp
  rw [e]; exact nf3 L
 ·have e : E5 r r.shuts r.bars ++ x :: xs = r.name :: r.sort :: (kwL ("shuts" : Str) r.shuts ++ (kwL ("bars" : Str) r.bars ++ x :: xs)) := by
   unfold E5 S7; rw [if_neg hf]; simp
  rw [e]; exact nf2 hf L
theorem yj3 {r : Row} (G : qb7 r) : rdF (E5 r r.shuts r.bars) = some r := by
 have hs1 : Z9 r.shuts = r.shuts := qn3 (qi9 _) G.sa (qu7 _)
 have hs2 : Z9 r.bars = r.bars := qn3 (qi9 _) G.sb (qu7 _)
 have key : ∀ (hd : List Str) (h : Str), gd (hd ++ (kwL ("shuts" : Str) r.shuts ++ kwL ("bars" : Str) r.bars)) 0 = r.name -> gd (hd ++ (kwL ("shuts" : Str) r.shuts ++ kwL ("bars" : Str) r.bars)) 1 = r.sort -> h = r.host -> rdT (hd ++ (kwL ("shuts" : Str) r.shuts ++ kwL ("bars" : Str) r.bars)) hd.length h = some r := by
  intro hd h e0 e1 e2
  unfold rdT
  rw [List.drop_left, <- List.drop_drop, List.drop_left, yc1 G.a, <- qi8 ("shuts" : Str) r.shuts, List.drop_left, yi7 G.b, if_pos, e0, e1, hs1, hs2, e2]
  rw [List.length_append, List.length_append, qi8 ("bars" : Str)]; omega
 have n0 : nmX r.name = true := G.n
 unfold rdF
 have g0 : gd (E5 r r.shuts r.bars) 0 = r.name := rfl
 have g1 : gd (E5 r r.shuts r.bars) 1 = r.sort := rfl
 have hl : ¬ (E5 r r.shuts r.bars).length < 2 := by unfold E5; rw [List.length_append]; show ¬ 2 + _ < 2; omega
 rw [if_neg hl, g0, g1, if_neg (by rw [n0]; exact Bool.noConfusion), if_neg (fun z => z G.s)]
 by_cases hf : r.sort = ("frame" : Str)
 ·rw [if_pos hf]
  have e : E5 r r.shuts r.bars = [r.name, r.sort, r.host] ++ (kwL ("shuts" : Str) r.shuts ++ kwL ("bars" : Str) r.bars) := by unfold E5 S7; rw [if_pos hf]; rfl
  rw [e]
  have g2 : gd ([r.name, r.sort, r.host] ++ (kwL ("shuts" : Str) r.shuts ++ kwL ("bars" : Str) r.bars)) 2 = r.host := rfl
  rw [if_neg (by rw [List.length_append]; show ¬ 3 + _ < 3; omega), g2, if_neg (by rw [G.f hf]; exact Bool.noConfusion)]
  exact key [r.name, r.sort, r.host] r.host rfl rfl rfl
 ·rw [if_neg hf]
  have e : E5 r r.shuts r.bars = [r.name, r.sort] ++ (kwL ("shuts" : Str) r.shuts ++ kwL ("bars" : Str) r.bars) := by unfold E5 S7; rw [if_neg hf]; rfl
  rw [e]
  exact key [r.name, r.sort] ("" : Str) rfl rfl (G.e hf).symm
theorem Q8 {r : Row} (G : qb7 r) : qq4 (G5 r) /\ rdL (G5 r) = some r := by
 obtain ⟨a, e⟩ := ym5 (ws := E5 r r.shuts r.bars) (by unfold E5; simp) (by have := (S8 G (List.Perm.refl r.shuts) (List.Perm.refl r.bars)).1; omega) (qu9 G)
 exact ⟨a, by show rdL (Str.join _ _) = _; rw [e, yj3 G]⟩
theorem yu0 {n w : Str} {ws : List Str} (hn : 32 ∉ n.cps.toList) : xt5 (Str.join (" " : Str) (n :: w :: ws)) (" " : Str) ("  " : Str) = Str.join (" " : Str) (n :: ("" : Str) :: w :: ws) := by
 have hx : (Str.join (" " : Str) (n :: w :: ws)).cps.toList = n.cps.toList ++ 32 :: jn 32 (w :: ws) := by
  show (Str.join ⟨#[32]⟩ (n :: w :: ws)).cps.toList = _
  rw [R8, jn]
 generalize Str.join (" " : Str) (n :: w :: ws) = x at *
 have hlx : x.length = x.cps.toList.length := Array.length_toList.symm
 have hat : ∀ i, StrLaws.At x ⟨#[32]⟩ x.length i ↔ x.cps.toList[i]? = some 32 := fun i => StrLaws.subAt_one x 32 i
 have h0 : x.cps.toList[n.cps.toList.length]? = some 32 := by rw [hx, List.getElem?_append_right (Nat.le_refl _), Nat.sub_self]; rfl
 have hlt : ∀ k, k < n.cps.toList.length -> x.cps.toList[k]? ≠ some 32 := fun k hk e => by
  rw [hx, List.getElem?_append_left hk] at e
  exact hn (List.mem_of_getElem? e)
 have ho : Builtin.Str.occurrences x ⟨#[32]⟩ 0 x.length 1 = [n.cps.toList.length] := by
  rcases StrLaws.occ_head x ⟨#[32]⟩ 1 (Nat.le_refl _) with ⟨_, h⟩ | ⟨i, r, e, ha, hk⟩
  ·exact absurd ((hat _).mpr h0) (h _)
  ·have hl := StrLaws.occ_length_le x ⟨#[32]⟩ 0 x.length 1
   rw [e, List.length_cons] at hl
   have hr : r = [] := List.eq_nil_of_length_eq_zero (by omega)
   have hi : i = n.cps.toList.length := by
    rcases Nat.lt_trichotomy i n.cps.toList.length with h | h | h
    ·exact absurd ((hat i).mp ha) (hlt i h)
    ·exact h
    ·exact absurd ((hat _).mpr h0) (hk _ h)
   rw [e, hr, hi]
 apply T5
 show (xt5 x ⟨#[32]⟩ ("  " : Str)).cps.toList = (Str.join ⟨#[32]⟩ (n :: ("" : Str) :: w :: ws)).cps.toList
 unfold xt5
 rw [ho, if_neg (show ¬ (([n.cps.toList.length] : List Nat).isEmpty || ((⟨#[32]⟩ : Str).length == 0 && ("  " : Str).length == 0)) = true from by simp; exact fun z => by cases z), R8, jn, jn]
 show (((Builtin.Str.strSub x 0 n.cps.toList.length).cps ++ ("  " : Str).cps ++ (Builtin.Str.strSub x (n.cps.toList.length + 1) x.length).cps)).toList = _
 rw [Array.toList_append, Array.toList_append, StrLaws.strSub_toList, StrLaws.strSub_toList, hlx, hx]
 have e1 : ((n.cps.toList ++ 32 :: jn 32 (w :: ws)).drop 0).take (n.cps.toList.length - 0) = n.cps.toList := by simp
 have e2 : (n.cps.toList ++ 32 :: jn 32 (w :: ws)).drop (n.cps.toList.length + 1) = jn 32 (w :: ws) := by
  rw [<- List.drop_drop, List.drop_left]; rfl
 rw [e1, e2, List.take_of_length_le (by rw [List.length_append, List.length_cons]; omega)]
 show n.cps.toList ++ [32, 32] ++ _ = n.cps.toList ++ 32 :: (([] : List Nat) ++ 32 :: jn 32 (w :: ws))
 simp
theorem yj4 {w : Str} {ws : List Str} : (" " : Str) ++ Str.join (" " : Str) (w :: ws) = Str.join (" " : Str) (("" : Str) :: w :: ws) := by
 apply T5
 rw [xo4]
 show [32] ++ (Str.join ⟨#[32]⟩ (w :: ws)).cps.toList = (Str.join ⟨#[32]⟩ (("" : Str) :: w :: ws)).cps.toList
 rw [R8, R8, jn]; rfl
noncomputable def tlW (r : Row) : List Str := S7 r ++ (kwL ("shuts" : Str) r.shuts ++ kwL ("bars" : Str) r.bars)
theorem qv0 (r : Row) : E5 r r.shuts r.bars = r.name :: r.sort :: tlW r := rfl
theorem xo8 (r : Row) : G5 r = Str.join (" " : Str) (r.name :: r.sort :: tlW r) := rfl
section
variable {r : Row} (G : qb7 r)
include G
theorem wu9 : (tlW r).length <= 50 /\ ∀ x ∈ tlW r, wm6 x := by
 have h := (S8 G (List.Perm.refl r.shuts) (List.Perm.refl r.bars)).1
 rw [qv0] at h
 refine ⟨by rw [List.length_cons, List.length_cons] at h; omega, fun x hx => qu9 G x (by rw [qv0]; simp [hx])⟩
theorem xa3 : wm6 r.sort := qu9 G _ (by rw [qv0]; simp)
theorem ym6 {x : Str} (hx : wm6 x) (h : nmX x = false) : ql8 (Str.join (" " : Str) (x :: r.sort :: tlW r)) := by
 obtain ⟨h1, h2⟩ := wu9 G
 refine qf0 (by simp) (by rw [List.length_cons, List.length_cons]; omega) (fun y hy => ?_) (xo5 h)
 rcases List.mem_cons.mp hy with rfl | hy
 ·exact hx
 rcases List.mem_cons.mp hy with rfl | hy
 ·exact xa3 G
 ·exact h2 y hy
theorem yz6 {x : Str} (hx : wm6 x) (h : x ∉ T8) : ql8 (Str.join (" " : Str) (r.name :: x :: tlW r)) := by
 obtain ⟨h1, h2⟩ := wu9 G
 refine qf0 (by simp) (by rw [List.length_cons, List.length_cons]; omega) (fun y hy => ?_) (xo6 h)
 rcases List.mem_cons.mp hy with rfl | hy
 ·exact wu8 G.n
 rcases List.mem_cons.mp hy with rfl | hy
 ·exact hx
 ·exact h2 y hy
theorem yz7 : ql8 (Str.join (" " : Str) (r.name :: ("" : Str) :: r.sort :: tlW r)) := by
 obtain ⟨h1, h2⟩ := wu9 G
 refine qf0 (by simp) (by simp only [List.length_cons]; omega) (fun y hy => ?_) (xo6 (show ("" : Str) ∉ T8 by decide +kernel))
 rcases List.mem_cons.mp hy with rfl | hy
 ·exact wu8 G.n
 rcases List.mem_cons.mp hy with rfl | hy
 ·exact ⟨by decide +kernel, by decide +kernel, by decide +kernel⟩
 rcases List.mem_cons.mp hy with rfl | hy
 ·exact xa3 G
 ·exact h2 y hy
theorem yz8 : ql8 ((" " : Str) ++ G5 r) := by
 obtain ⟨h1, h2⟩ := wu9 G
 rw [xo8, yj4]
 refine qf0 (by simp) (by simp only [List.length_cons]; omega) (fun y hy => ?_) (xo5 (show nmX ("" : Str) = false by decide +kernel))
 rcases List.mem_cons.mp hy with rfl | hy
 ·exact ⟨by decide +kernel, by decide +kernel, by decide +kernel⟩
 rcases List.mem_cons.mp hy with rfl | hy
 ·exact wu8 G.n
 rcases List.mem_cons.mp hy with rfl | hy
 ·exact xa3 G
 ·exact h2 y hy
theorem qe2 {k x : Str} {xs : List Str} (hk : k.cps.toList = 32 :: jn 32 (x :: xs)) (hl : xs.length <= 4) (hw : ∀ y ∈ x :: xs, wm6 y) (hx : nmX x = false) (hxs : ∀ y, xs.head? = some y -> nmX y = false) : ql8 (G5 r ++ k) := by
 have h := (S8 G (List.Perm.refl r.shuts) (List.Perm.refl r.bars)).1
 have e : G5 r ++ k = Str.join (" " : Str) (E5 r r.shuts r.bars ++ x :: xs) := wm5 (ws := E5 r r.shuts r.bars) (by unfold E5; simp) (by simp) hk
 rw [e]
 refine qf0 (by simp) (by rw [List.length_append, List.length_cons]; omega) (fun y hy => ?_) (yj2 G hx hxs)
 rcases List.mem_append.mp hy with hy | hy
 ·exact qu9 G y hy
 ·exact hw y hy
theorem xo9 {k : Str} {zs : List Str} (hk : k.cps.toList = 32 :: jn 32 zs) (h0 : zs ≠ []) (hl : zs.length <= 8) (hw : ∀ y ∈ zs, wm6 y) (h : rdF (r.name :: zs) = none) : ql8 (r.name ++ k) := by
 have e : r.name ++ k = Str.join (" " : Str) ([r.name] ++ zs) := wm5 (ws := [r.name]) (by simp) h0 hk
 rw [e]
 refine qf0 (by simp) (by rw [List.length_append]; show 1 + _ <= _; omega) (fun y hy => ?_) h
 rcases List.mem_append.mp hy with hy | hy
 ·rw [List.mem_singleton.mp hy]; exact wu8 G.n
 ·exact hw y hy
theorem xf9 : ql8 r.name := qf0 (ws := [r.name]) (by simp) (by show 1 <= 60; decide) (fun y hy => by rw [List.mem_singleton.mp hy]; exact wu8 G.n) (wm7 (by show 1 < 2; decide))
theorem yu1 {x : Str} (hx : x ∈ ([("plain" : Str), ("anew" : Str), ("bare" : Str), ("room" : Str)] : List Str)) : ql8 (Str.join (" " : Str) [r.name, x, ("hosts" : Str)]) := by
 have hw : ∀ y ∈ ([("plain" : Str), ("anew" : Str), ("bare" : Str), ("room" : Str)] : List Str), y.length <= 10 /\ 10 ∉ y.cps.toList /\ 32 ∉ y.cps.toList /\ y ≠ ("frame" : Str) := by decide +kernel
 obtain ⟨w1, w2, w3, w4⟩ := hw x hx
 refine qf0 (by simp) (by show 3 <= 60; decide) (fun y hy => ?_) (nf2 w4 (by decide +kernel))
 rcases List.mem_cons.mp hy with rfl | hy
 ·exact wu8 G.n
 rcases List.mem_cons.mp hy with rfl | hy
 ·exact ⟨w1, w2, w3⟩
 ·rw [List.mem_singleton.mp hy]; exact ⟨by decide +kernel, by decide +kernel, by decide +kernel⟩
end
theorem wv0 : ql8 ("" : Str) := qf0 (ws := [("" : Str)]) (by simp) (by decide) (fun y hy => by rw [List.mem_singleton.mp hy]; exact ⟨by decide +kernel, by decide +kernel, by decide +kernel⟩) (wm7 (by decide))
theorem wv1 {xs : List Str} {i : Int} (h0 : 0 <= i) (h1 : i < xs.length) : ∃ x ∈ xs, atI (B2 xs) i = some (.str x) := by
 obtain ⟨n, rfl⟩ : ∃ n : Nat, i = (n : Int) := ⟨i.toNat, by omega⟩
 exact ⟨gd xs n, Y0 (by omega), qb4 (by omega)⟩
theorem wl (L : List Str) (h : L.all (fun y => decide (y.length <= 10) && (!decide (10 ∈ y.cps.toList) && !decide (32 ∈ y.cps.toList))) = true) : ∀ y ∈ L, wm6 y := fun y hy => by
 have := List.all_eq_true.mp h y hy
 simp only [Bool.and_eq_true, decide_eq_true_eq, Bool.not_eq_true', decide_eq_false_iff_not] at this
 exact ⟨this.1, this.2.1, this.2.2⟩
abbrev qv1 (K : Fg) : TS :=
 (M0 (tBM K "str" (qo4 K) (tC (.str (" " : Str))) (A6 (O5 (A6 (tOp (E7 K) (A7 0) (tC (.int 0))) (A6 (tOp (E7 K) (O5 (A6 (tC (.str ("plain" : Str))) (A6 (tC (.str ("anew" : Str))) (A6 (tC (.str ("bare" : Str))) (A6 (tC (.str ("room" : Str))) B6))))) (tOp (rI (fun _ j => 0 < j) fun i j => .int (i % j)) (tOp (rI qg8 fun i j => .int (i / j)) (A7 1) (tC (.int 10))) (tC (.int 4)))) (A6 (tC (.str ("hosts" : Str))) B6)))) B6)))
abbrev qv2 (K : Fg) : TS :=
 (M0 (tOp (E7 K) (O5 (A6 (tOp (L7 K) (tOp (E7 K) (A7 0) (tC (.int 0))) (tC (.str (" frame" : Str)))) (A6 (tOp (L7 K) (tOp (E7 K) (A7 0) (tC (.int 0))) (tC (.str (" frame shuts a" : Str)))) (A6 (tOp (L7 K) (tOp (E7 K) (A7 0) (tC (.int 0))) (tC (.str (" frame a b" : Str)))) (A6 (tOp (E7 K) (A7 0) (tC (.int 0))) B6))))) (tOp (rI (fun _ j => 0 < j) fun i j => .int (i % j)) (tOp (rI qg8 fun i j => .int (i / j)) (A7 1) (tC (.int 10))) (tC (.int 4)))))
abbrev qv3 (K : Fg) : TS :=
 (M0 (tOp (L7 K) (tOp (E7 K) (A7 0) (tC (.int 0))) (tC (.str (" plain bars a shuts b" : Str)))))
abbrev qv4 (K : Fg) : TS :=
 (C6 (M8 (E4 (tOp (O0 K) (A7 4) (tC (.int 8))))
 (qv2 K) G7)
 (qv3 K))
def blD (K : Fg) : TS :=
 (C6 (M8 (E4 (tOp (O0 K) (A7 4) (tC (.int 7))))
 (qv1 K) G7)
 (qv4 K))
abbrev qv5 (K : Fg) : TS :=
 (M0 (tBM K "str" (qo4 K) (tC (.str (" " : Str))) (A6 (tOp (L7 K) (O5 (A6 (tC (.str ("abcdefghi" : Str))) B6)) (tSl (wg9 K) (A7 3) (qj6 (tC (.int 1))) R6)) B6)))
abbrev qv6 (K : Fg) : TS :=
 (M0 (tBM K "str" (qo4 K) (tC (.str (" " : Str))) (A6 (tOp (L7 K) (O5 (A6 (tOp (E7 K) (O5 (wt7 [("shuts" : Str), ("bars" : Str), ("A" : Str), ("a1" : Str), ("7" : Str)])) (tOp (rI (fun _ j => 0 < j) fun i j => .int (i % j)) (tOp (rI qg8 fun i j => .int (i / j)) (A7 1) (tC (.int 10))) (tC (.int 5)))) B6)) (tSl (wg9 K) (A7 3) (qj6 (tC (.int 1))) R6)) B6)))
abbrev qv7 (K : Fg) : TS :=
 (M0 (tOp (L7 K) (A7 2) (tOp (E7 K) (O5 (wt7 [(" shuts" : Str), (" bars" : Str), (" shuts bars" : Str), (" bars shuts" : Str), (" shuts bars a" : Str)])) (tOp (rI (fun _ j => 0 < j) fun i j => .int (i % j)) (tOp (rI qg8 fun i j => .int (i / j)) (A7 1) (tC (.int 10))) (tC (.int 5))))))
abbrev qq5 (K : Fg) : TS :=
 (C6 (M8 (E4 (tOp (O0 K) (A7 4) (tC (.int 6))))
 (qv7 K) G7)
 (blD K))
abbrev qq6 (K : Fg) : TS :=
 (C6 (M8 (E4 (tOp (O0 K) (A7 4) (tC (.int 5))))
 (qv6 K) G7)
 (qq5 K))
def blC (K : Fg) : TS :=
 (C6 (M8 (E4 (tOp (O0 K) (A7 4) (tC (.int 4))))
 (qv5 K) G7)
 (qq6 K))
abbrev qv8 (K : Fg) : TS :=
 (M0 (tOp (E7 K) (O5 (A6 (tOp (L7 K) (tC (.str (" " : Str))) (A7 2)) (A6 (tOp (L7 K) (A7 2) (tC (.str (" " : Str)))) (A6 (tOp (L7 K) (A7 2) (tC (.str (" zz9" : Str)))) (A6 (tOp (L7 K) (A7 2) (tC (.str (" -" : Str)))) (A6 (tC (.str ("" : Str))) B6)))))) (tOp (rI (fun _ j => 0 < j) fun i j => .int (i % j)) (tOp (rI qg8 fun i j => .int (i / j)) (A7 1) (tC (.int 10))) (tC (.int 5)))))
abbrev qv9 (K : Fg) : TS :=
 (M0 (tBM K "str" (qo4 K) (tC (.str (" " : Str))) (A6 (tOp (L7 K) (O5 (A6 (tOp (E7 K) (A7 3) (tC (.int 0))) (A6 (tOp (E7 K) (O5 (A6 (tC (.str ("walls" : Str))) (A6 (tC (.str ("Plain" : Str))) (A6 (tC (.str ("plains" : Str))) (A6 (tC (.str ("x" : Str))) B6))))) (tOp (rI (fun _ j => 0 < j) fun i j => .int (i % j)) (tOp (rI qg8 fun i j => .int (i / j)) (A7 1) (tC (.int 10))) (tC (.int 4)))) B6))) (tSl (wg9 K) (A7 3) (qj6 (tC (.int 2))) R6)) B6)))
abbrev qq7 (K : Fg) : TS :=
 (C6 (M8 (E4 (tOp (O0 K) (A7 4) (tC (.int 3))))
 (qv9 K) G7)
 (blC K))
def blB (K : Fg) : TS :=
 (C6 (M8 (E4 (tOp (O0 K) (A7 4) (tC (.int 2))))
 (qv8 K) G7)
 (qq7 K))
theorem zb5 {D : P4} {b c s t : Addr} {r : Row} {n w : Int} (G : qb7 r) (hb : SqT K H b [.str r.name, .str r.sort, .str r.host, .ref s, .ref t]) (hc : H c = some (.lst (B2 (E5 r r.shuts r.bars)))) (q : ∀ (l : Str) H', B1 H H' -> ql8 l -> D.rt (.str l) H') : blD K D [some (.ref b), some (.int n), some (.str (G5 r)), some (.ref c), some (.int w)] H := by
 have hnl := wa3 G.n
 have hlen : (B2 (E5 r r.shuts r.bars)).length = (E5 r r.shuts r.bars).length := C1 _
 unfold blD
 lk
 by_cases h7 : w = 7
 ·rw [decide_eq_true h7]
  x_go
  have i0 := Int.emod_nonneg (n / 10) (show (4 : Int) ≠ 0 by decide)
  have i1 := Int.emod_lt_of_pos (n / 10) (show (0 : Int) < 4 by decide)
  lk
  refine ⟨rfl, ?_⟩
  lk
  refine P8 hb (v := .str r.name) (D7 (j := 0) rfl) ?_
  lk
  refine ⟨M5 (by z_go), fun p1 hp1 => ?_⟩
  have s1 := B1.new hp1 (.lst (B2 [("plain" : Str), ("anew" : Str), ("bare" : Str), ("room" : Str)]))
  have e1 : (upd H p1 (.lst (B2 [("plain" : Str), ("anew" : Str), ("bare" : Str), ("room" : Str)]))) p1 = some (.lst (B2 [("plain" : Str), ("anew" : Str), ("bare" : Str), ("room" : Str)])) := A8
  lk
  obtain ⟨x, hx, ex⟩ := wv1 (xs := [("plain" : Str), ("anew" : Str), ("bare" : Str), ("room" : Str)]) i0 i1
  refine L8 (SqL.of e1) ex ?_
  lk
  refine ⟨M5 (by z_go), fun p2 hp2 => ?_⟩
  have s2 := B1.tr s1 (B1.new hp2 (.lst (B2 [r.name, x, ("hosts" : Str)])))
  lk
  have hxl : x.length <= 10 := (wl [("plain" : Str), ("anew" : Str), ("bare" : Str), ("room" : Str)] (by decide +kernel) x hx).l
  refine ⟨_, p2, [r.name, x, ("hosts" : Str)], rfl, rfl, .inl (SqL.of A8), ?_, ?_⟩
  ·show r.name.length + (x.length + (5 + 0)) + 3 * 1 <= _
   omega
  rw [qb8]
  exact q _ _ s2 (yu1 G hx)
 rw [decide_eq_false h7]
 k_go
 lk
 by_cases h8 : w = 8
 ·rw [decide_eq_true h8]
  x_go
  have i0 := Int.emod_nonneg (n / 10) (show (4 : Int) ≠ 0 by decide)
  have i1 := Int.emod_lt_of_pos (n / 10) (show (0 : Int) < 4 by decide)
  have c1 : r.name.length + (" frame" : Str).length <= sizeLine := M5 (by show _ + 6 <= _; omega)
  have c2 : r.name.length + (" frame shuts a" : Str).length <= sizeLine := M5 (by show _ + 14 <= _; omega)
  have c3 : r.name.length + (" frame a b" : Str).length <= sizeLine := M5 (by show _ + 10 <= _; omega)
  lk
  refine P8 hb (v := .str r.name) (D7 (j := 0) rfl) ?_
  lk
  refine X9 c1 ?_
  lk
  refine P8 hb (v := .str r.name) (D7 (j := 0) rfl) ?_
  lk
  refine X9 c2 ?_
  lk
  refine P8 hb (v := .str r.name) (D7 (j := 0) rfl) ?_
  lk
  refine X9 c3 ?_
  lk
  refine P8 hb (v := .str r.name) (D7 (j := 0) rfl) ?_
  lk
  refine ⟨M5 (by z_go), fun p1 hp1 => ?_⟩
  have s1 := B1.new hp1 (.lst (B2 [r.name ++ (" frame" : Str), r.name ++ (" frame shuts a" : Str), r.name ++ (" frame a b" : Str), r.name]))
  lk
  obtain ⟨x, hx, ex⟩ := wv1 (xs := [r.name ++ (" frame" : Str), r.name ++ (" frame shuts a" : Str), r.name ++ (" frame a b" : Str), r.name]) i0 i1
  refine L8 (SqL.of A8) ex ?_
  refine q x _ s1 ?_
  rcases List.mem_cons.mp hx with rfl | hx
  ·exact xo9 G (zs := [("frame" : Str)]) (by decide +kernel) (by simp) (by decide) (wl _ (by decide +kernel)) yt7
  rcases List.mem_cons.mp hx with rfl | hx
  ·exact xo9 G (zs := [("frame" : Str), ("shuts" : Str), ("a" : Str)]) (by decide +kernel) (by simp) (by decide) (wl _ (by decide +kernel)) (yt8 (by decide +kernel))
  rcases List.mem_cons.mp hx with rfl | hx
  ·exact xo9 G (zs := [("frame" : Str), ("a" : Str), ("b" : Str)]) (by decide +kernel) (by simp) (by decide) (wl _ (by decide +kernel)) (nf3 (by decide +kernel))
  ·rw [List.mem_singleton.mp hx]; exact xf9 G
 rw [decide_eq_false h8]
 k_go
 lk
 refine P8 hb (v := .str r.name) (D7 (j := 0) rfl) ?_
 lk
 refine X9 (M5 (by show _ + 21 <= _; omega)) ?_
 exact q _ _ B1.refl' (xo9 G (zs := [("plain" : Str), ("bars" : Str), ("a" : Str), ("shuts" : Str), ("b" : Str)]) (by decide +kernel) (by simp) (by decide) (wl _ (by decide +kernel)) (nf2 (by decide +kernel) (by decide +kernel)))
theorem zb6 {D : P4} {b c s t : Addr} {r : Row} {n w : Int} (G : qb7 r) (hb : SqT K H b [.str r.name, .str r.sort, .str r.host, .ref s, .ref t]) (hc : H c = some (.lst (B2 (E5 r r.shuts r.bars)))) (q : ∀ (l : Str) H', B1 H H' -> ql8 l -> D.rt (.str l) H') : blC K D [some (.ref b), some (.int n), some (.str (G5 r)), some (.ref c), some (.int w)] H := by
 obtain ⟨hT1, hT2⟩ := wu9 G
 have hnl := wa3 G.n
 have hsl := wl6 _ G.s
 have hww := S8 G (List.Perm.refl r.shuts) (List.Perm.refl r.bars)
 have hlin := (Q8 G).1.z
 have room : ∀ {zs : List Str}, zs.length <= 60 -> (∀ x ∈ zs, x.length <= 10) -> (zs.map (·.length)).sum + zs.length * (" " : Str).length <= 16777216 := fun hl hx => by
  have h3 := wm4 hx
  have h4 : _ * 10 <= 60 * 10 := Nat.mul_le_mul_right 10 hl
  show _ + _ * 1 <= _
  omega
 have hcut1 : qg9 (B2 (E5 r r.shuts r.bars)) (some 1) none = B2 (r.sort :: tlW r) := wl0 _
 unfold blC
 lk
 by_cases h4 : w = 4
 ·rw [decide_eq_true h4]
  x_go
  lk
  refine ⟨rfl, ?_⟩
  lk
  refine ⟨M5 (by z_go), fun p1 hp1 => ?_⟩
  have s1 := B1.new hp1 (.lst (B2 [("abcdefghi" : Str)]))
  have e1 : (upd H p1 (.lst (B2 [("abcdefghi" : Str)]))) p1 = some (.lst (B2 [("abcdefghi" : Str)])) := A8
  lk
  refine qt6 (SqL.of (s1 _ _ hc)) fun p2 hp2 => ?_
  rw [hcut1]
  have s2 := B1.new hp2 (.lst (B2 (r.sort :: tlW r)))
  refine wt6 (s2 _ _ e1) A8 (M5 (by simp only [C1, List.length_cons, List.length_nil]; omega)) fun p3 hp3 => ?_
  rw [qg2]
  have s3 := B1.tr s1 (B1.tr s2 (B1.new hp3 (.lst (B2 ([("abcdefghi" : Str)] ++ (r.sort :: tlW r))))))
  lk
  have hx : ∀ x ∈ ("abcdefghi" : Str) :: r.sort :: tlW r, x.length <= 10 := fun x hx => by
   rcases List.mem_cons.mp hx with rfl | hx
   ·decide +kernel
   rcases List.mem_cons.mp hx with rfl | hx
   ·omega
   ·exact (hT2 x hx).l
  refine ⟨_, p3, ("abcdefghi" : Str) :: r.sort :: tlW r, rfl, rfl, .inl (SqL.of A8), room (by rw [List.length_cons, List.length_cons]; omega) hx, ?_⟩
  rw [qb8]
  exact q _ _ s3 (ym6 G (wl [("abcdefghi" : Str)] (by decide +kernel) _ (by simp)) (by decide +kernel))
 rw [decide_eq_false h4]
 k_go
 lk
 by_cases h5 : w = 5
 ·rw [decide_eq_true h5]
  x_go
  have i0 := Int.emod_nonneg (n / 10) (show (5 : Int) ≠ 0 by decide)
  have i1 := Int.emod_lt_of_pos (n / 10) (show (0 : Int) < 5 by decide)
  lk
  refine ⟨rfl, ?_⟩
  lk
  refine ⟨M5 (by rw [C1]; decide), fun p0 hp0 => ?_⟩
  have s0 := B1.new hp0 (.lst (B2 [("shuts" : Str), ("bars" : Str), ("A" : Str), ("a1" : Str), ("7" : Str)]))
  have e0 : (upd H p0 (.lst (B2 [("shuts" : Str), ("bars" : Str), ("A" : Str), ("a1" : Str), ("7" : Str)]))) p0 = some (.lst (B2 [("shuts" : Str), ("bars" : Str), ("A" : Str), ("a1" : Str), ("7" : Str)])) := A8
  lk
  obtain ⟨x, hx, ex⟩ := wv1 (xs := [("shuts" : Str), ("bars" : Str), ("A" : Str), ("a1" : Str), ("7" : Str)]) i0 i1
  refine L8 (SqL.of e0) ex ?_
  have hxw := wl [("shuts" : Str), ("bars" : Str), ("A" : Str), ("a1" : Str), ("7" : Str)] (by decide +kernel) x hx
  have hxn : ∀ y ∈ ([("shuts" : Str), ("bars" : Str), ("A" : Str), ("a1" : Str), ("7" : Str)] : List Str), nmX y = false := by decide +kernel
  lk
  refine ⟨M5 (by z_go), fun p1 hp1 => ?_⟩
  have s1 := B1.tr s0 (B1.new hp1 (.lst (B2 [x])))
  have e1 : (upd (upd H p0 (.lst (B2 [("shuts" : Str), ("bars" : Str), ("A" : Str), ("a1" : Str), ("7" : Str)]))) p1 (.lst (B2 [x]))) p1 = some (.lst (B2 [x])) := A8
  lk
  refine qt6 (SqL.of (s1 _ _ hc)) fun p2 hp2 => ?_
  rw [hcut1]
  have s2 := B1.new hp2 (.lst (B2 (r.sort :: tlW r)))
  refine wt6 (s2 _ _ e1) A8 (M5 (by simp only [C1, List.length_cons, List.length_nil]; omega)) fun p3 hp3 => ?_
  rw [qg2]
  have s3 := B1.tr s1 (B1.tr s2 (B1.new hp3 (.lst (B2 ([x] ++ (r.sort :: tlW r))))))
  lk
  have hxl := hxw.l
  have hx2 : ∀ y ∈ x :: r.sort :: tlW r, y.length <= 10 := fun y hy => by
   rcases List.mem_cons.mp hy with rfl | hy
   ·exact hxl
   rcases List.mem_cons.mp hy with rfl | hy
   ·omega
   ·exact (hT2 y hy).l
  refine ⟨_, p3, x :: r.sort :: tlW r, rfl, rfl, .inl (SqL.of A8), room (by rw [List.length_cons, List.length_cons]; omega) hx2, ?_⟩
  rw [qb8]
  exact q _ _ s3 (ym6 G hxw (hxn x hx))
 rw [decide_eq_false h5]
 k_go
 lk
 by_cases h6 : w = 6
 ·rw [decide_eq_true h6]
  x_go
  have i0 := Int.emod_nonneg (n / 10) (show (5 : Int) ≠ 0 by decide)
  have i1 := Int.emod_lt_of_pos (n / 10) (show (0 : Int) < 5 by decide)
  lk
  refine ⟨M5 (by rw [C1]; decide), fun p0 hp0 => ?_⟩
  have s0 := B1.new hp0 (.lst (B2 [(" shuts" : Str), (" bars" : Str), (" shuts bars" : Str), (" bars shuts" : Str), (" shuts bars a" : Str)]))
  have e0 : (upd H p0 (.lst (B2 [(" shuts" : Str), (" bars" : Str), (" shuts bars" : Str), (" bars shuts" : Str), (" shuts bars a" : Str)]))) p0 = some (.lst (B2 [(" shuts" : Str), (" bars" : Str), (" shuts bars" : Str), (" bars shuts" : Str), (" shuts bars a" : Str)])) := A8
  lk
  obtain ⟨x, hx, ex⟩ := wv1 (xs := [(" shuts" : Str), (" bars" : Str), (" shuts bars" : Str), (" bars shuts" : Str), (" shuts bars a" : Str)]) i0 i1
  refine L8 (SqL.of e0) ex ?_
  have hxl : ∀ y ∈ ([(" shuts" : Str), (" bars" : Str), (" shuts bars" : Str), (" bars shuts" : Str), (" shuts bars a" : Str)] : List Str), y.length <= 20 := by decide +kernel
  have hx20 := hxl x hx
  refine X9 (M5 (by omega)) ?_
  refine q _ _ s0 ?_
  rcases List.mem_cons.mp hx with rfl | hx
  ·exact qe2 G (x := ("shuts" : Str)) (xs := []) (by decide +kernel) (by decide) (wl _ (by decide +kernel)) (by decide +kernel) (fun y hy => by cases hy)
  rcases List.mem_cons.mp hx with rfl | hx
  ·exact qe2 G (x := ("bars" : Str)) (xs := []) (by decide +kernel) (by decide) (wl _ (by decide +kernel)) (by decide +kernel) (fun y hy => by cases hy)
  rcases List.mem_cons.mp hx with rfl | hx
  ·exact qe2 G (x := ("shuts" : Str)) (xs := [("bars" : Str)]) (by decide +kernel) (by decide) (wl _ (by decide +kernel)) (by decide +kernel) (fun y hy => by cases hy; exact wy9)
  rcases List.mem_cons.mp hx with rfl | hx
  ·exact qe2 G (x := ("bars" : Str)) (xs := [("shuts" : Str)]) (by decide +kernel) (by decide) (wl _ (by decide +kernel)) (by decide +kernel) (fun y hy => by cases hy; exact yt5)
  ·rw [List.mem_singleton.mp hx]
   exact qe2 G (x := ("shuts" : Str)) (xs := [("bars" : Str), ("a" : Str)]) (by decide +kernel) (by decide) (wl _ (by decide +kernel)) (by decide +kernel) (fun y hy => by cases hy; exact wy9)
 rw [decide_eq_false h6]
 k_go
 lk
 exact zb5 G hb hc q
theorem zb7 {D : P4} {b c s t : Addr} {r : Row} {n w : Int} (G : qb7 r) (hb : SqT K H b [.str r.name, .str r.sort, .str r.host, .ref s, .ref t]) (hc : H c = some (.lst (B2 (E5 r r.shuts r.bars)))) (q : ∀ (l : Str) H', B1 H H' -> ql8 l -> D.rt (.str l) H') : blB K D [some (.ref b), some (.int n), some (.str (G5 r)), some (.ref c), some (.int w)] H := by
 obtain ⟨hT1, hT2⟩ := wu9 G
 have hnl := wa3 G.n
 have hsl := wl6 _ G.s
 have hww := S8 G (List.Perm.refl r.shuts) (List.Perm.refl r.bars)
 have hlin := (Q8 G).1.z
 have room : ∀ {zs : List Str}, zs.length <= 60 -> (∀ x ∈ zs, x.length <= 10) -> (zs.map (·.length)).sum + zs.length * (" " : Str).length <= 16777216 := fun hl hx => by
  have h3 := wm4 hx
  have h4 : _ * 10 <= 60 * 10 := Nat.mul_le_mul_right 10 hl
  show _ + _ * 1 <= _
  omega
 have hwl2 : 2 <= (E5 r r.shuts r.bars).length := by rw [qv0, List.length_cons, List.length_cons]; omega
 have hcut2 : qg9 (B2 (E5 r r.shuts r.bars)) (some 2) none = B2 (tlW r) := wa8 (i := 2) hwl2
 unfold blB
 lk
 by_cases h2 : w = 2
 ·rw [decide_eq_true h2]
  x_go
  have i0 := Int.emod_nonneg (n / 10) (show (5 : Int) ≠ 0 by decide)
  have i1 := Int.emod_lt_of_pos (n / 10) (show (0 : Int) < 5 by decide)
  lk
  refine X9 (M5 (by show 1 + _ <= _; omega)) ?_
  lk
  refine X9 (M5 (by show _ + 1 <= _; omega)) ?_
  lk
  refine X9 (M5 (by show _ + 4 <= _; omega)) ?_
  lk
  refine X9 (M5 (by show _ + 2 <= _; omega)) ?_
  lk
  refine ⟨M5 (by z_go), fun p1 hp1 => ?_⟩
  have s1 := B1.new hp1 (.lst (B2 [(" " : Str) ++ G5 r, G5 r ++ (" " : Str), G5 r ++ (" zz9" : Str), G5 r ++ (" -" : Str), ("" : Str)]))
  lk
  obtain ⟨x, hx, ex⟩ := wv1 (xs := [(" " : Str) ++ G5 r, G5 r ++ (" " : Str), G5 r ++ (" zz9" : Str), G5 r ++ (" -" : Str), ("" : Str)]) i0 i1
  refine L8 (SqL.of A8) ex ?_
  refine q x _ s1 ?_
  rcases List.mem_cons.mp hx with rfl | hx
  ·exact yz8 G
  rcases List.mem_cons.mp hx with rfl | hx
  ·exact qe2 G (x := ("" : Str)) (xs := []) (by decide +kernel) (by decide) (wl _ (by decide +kernel)) (by decide +kernel) (fun y hy => by cases hy)
  rcases List.mem_cons.mp hx with rfl | hx
  ·exact qe2 G (x := ("zz9" : Str)) (xs := []) (by decide +kernel) (by decide) (wl _ (by decide +kernel)) (by decide +kernel) (fun y hy => by cases hy)
  rcases List.mem_cons.mp hx with rfl | hx
  ·exact qe2 G (x := ("-" : Str)) (xs := []) (by decide +kernel) (by decide) (wl _ (by decide +kernel)) (by decide +kernel) (fun y hy => by cases hy)
  ·rw [List.mem_singleton.mp hx]; exact wv0
 rw [decide_eq_false h2]
 k_go
 lk
 by_cases h3 : w = 3
 ·rw [decide_eq_true h3]
  x_go
  have i0 := Int.emod_nonneg (n / 10) (show (4 : Int) ≠ 0 by decide)
  have i1 := Int.emod_lt_of_pos (n / 10) (show (0 : Int) < 4 by decide)
  lk
  refine ⟨rfl, ?_⟩
  lk
  refine L8 (SqL.of hc) (v := .str r.name) (D7 (j := 0) rfl) ?_
  lk
  refine ⟨M5 (by z_go), fun p0 hp0 => ?_⟩
  have s0 := B1.new hp0 (.lst (B2 [("walls" : Str), ("Plain" : Str), ("plains" : Str), ("x" : Str)]))
  have e0 : (upd H p0 (.lst (B2 [("walls" : Str), ("Plain" : Str), ("plains" : Str), ("x" : Str)]))) p0 = some (.lst (B2 [("walls" : Str), ("Plain" : Str), ("plains" : Str), ("x" : Str)])) := A8
  lk
  obtain ⟨x, hx, ex⟩ := wv1 (xs := [("walls" : Str), ("Plain" : Str), ("plains" : Str), ("x" : Str)]) i0 i1
  refine L8 (SqL.of e0) ex ?_
  have hxw := wl [("walls" : Str), ("Plain" : Str), ("plains" : Str), ("x" : Str)] (by decide +kernel) x hx
  have hxn : ∀ y ∈ ([("walls" : Str), ("Plain" : Str), ("plains" : Str), ("x" : Str)] : List Str), y ∉ T8 := by decide +kernel
  lk
  refine ⟨M5 (by z_go), fun p1 hp1 => ?_⟩
  have s1 := B1.tr s0 (B1.new hp1 (.lst (B2 [r.name, x])))
  have e1 : (upd (upd H p0 (.lst (B2 [("walls" : Str), ("Plain" : Str), ("plains" : Str), ("x" : Str)]))) p1 (.lst (B2 [r.name, x]))) p1 = some (.lst (B2 [r.name, x])) := A8
  lk
  refine qt6 (SqL.of (s1 _ _ hc)) fun p2 hp2 => ?_
  rw [hcut2]
  have s2 := B1.new hp2 (.lst (B2 (tlW r)))
  refine wt6 (s2 _ _ e1) A8 (M5 (by rw [C1, C1]; show 2 + _ <= _; omega)) fun p3 hp3 => ?_
  rw [qg2]
  have s3 := B1.tr s1 (B1.tr s2 (B1.new hp3 (.lst (B2 ([r.name, x] ++ tlW r)))))
  lk
  have hxl := hxw.l
  have hx2 : ∀ y ∈ r.name :: x :: tlW r, y.length <= 10 := fun y hy => by
   rcases List.mem_cons.mp hy with rfl | hy
   ·omega
   rcases List.mem_cons.mp hy with rfl | hy
   ·exact hxl
   ·exact (hT2 y hy).l
  refine ⟨_, p3, r.name :: x :: tlW r, rfl, rfl, .inl (SqL.of A8), room (by rw [List.length_cons, List.length_cons]; omega) hx2, ?_⟩
  rw [qb8]
  exact q _ _ s3 (yz6 G hxw (hxn x hx))
 rw [decide_eq_false h3]
 k_go
 lk
 exact zb6 G hb hc q
abbrev qq8 (K : Fg) : TS :=
 (C6 (M8 (E4 (tOp (O0 K) (A7 4) (tC (.int 1))))
 (M0 (xj8 (A7 2) (" " : Str) ("  " : Str))) G7)
 (blB K))
abbrev qq9 (K : Fg) : TS :=
 (C6 (M8 (E4 (tOp (O0 K) (A7 4) (tC (.int 0))))
 (M0 (tOp (E7 K) (A7 3) (tC (.int 0)))) G7)
 (qq8 K))
abbrev qr0 (K : Fg) : TS :=
 (C6 (G0 (tOp (rI (fun _ j => 0 < j) fun i j => .int (i % j)) (A7 1) (tC (.int 10))) (B7 4))
 (qq9 K))
abbrev qr1 (K : Fg) : TS :=
 (C6 (G0 (tBM K "str" qy8 (A7 2) (A6 (tC (.str (" " : Str))) B6)) (B7 3))
 (qr0 K))
def P3 (K : Fg) : Sp := fun vs H Q _ => ∃ (v : V) (r : Row) (n : Int), vs = [v, .int n] /\ Dv K H r.da v /\ qb7 r /\ ∀ (l : Str) H', B1 H H' -> ql8 l -> Q (.str l) H'
theorem qw0 (K : Fg) : ∀ vs H Q E, P3 K vs H Q E -> vs.length = ["_law_row", "_law_number"].length := by rintro vs H Q E ⟨v, r, n, rfl, _⟩; rfl
def R9 (K : Fg) : TS :=
 (C6 (G0 (C8 (U7 K) [] E0 (A6 (A7 0) B6)) (B7 2))
 (qr1 K))
theorem wa9 (h : P3 K vs H Q E) : R9 K { nx := fun _ H' => Q .non H', rt := Q } (M2 ["_law_row", "_law_number", "_law_line_here", "_law_words_of", "_law_way"] vs) H := by
 obtain ⟨v, r, n, rfl, hd, G, q⟩ := h
 obtain ⟨b, s, t, rfl, hb, hs, ht⟩ := xk5 hd
 show R9 K _ [some (.ref b), some (.int n), none, none, none] H
 unfold R9
 have hlin := (Q8 G).1.z
 lk
 refine ⟨.ref b, r, rfl, hd, G, fun H1 s1 => ?_⟩
 lk
 refine ⟨rfl, ?_⟩
 lk
 refine ⟨_, _, rfl, rfl, by decide +kernel, by omega, fun c hc => ?_⟩
 have esp : PySem.Txt.split (G5 r) (" " : Str) = E5 r r.shuts r.bars := xk8 G (List.Perm.refl _) (List.Perm.refl _)
 rw [esp]
 have s2 := B1.new hc (.lst (B2 (E5 r r.shuts r.bars)))
 have e2 : (upd H1 c (.lst (B2 (E5 r r.shuts r.bars)))) c = some (.lst (B2 (E5 r r.shuts r.bars))) := A8
 generalize upd H1 c (.lst (B2 (E5 r r.shuts r.bars))) = H2 at *
 have s12 := B1.tr s1 s2
 have hb2 := s12.sqT hb
 lk
 generalize hw : n % 10 = w
 by_cases h0 : w = 0
 ·rw [decide_eq_true h0]
  x_go
  lk
  refine L8 (SqL.of e2) (v := .str r.name) (D7 (j := 0) rfl) ?_
  exact q _ _ s12 (xf9 G)
 rw [decide_eq_false h0]
 k_go
 lk
 by_cases h1 : w = 1
 ·rw [decide_eq_true h1]
  x_go
  unfold xj8
  lk
  refine ⟨G5 r, rfl, by omega, ?_⟩
  rw [xo8, yu0 (qj1 G.n).2]
  exact q _ _ s12 (yz7 G)
 rw [decide_eq_false h1]
 k_go
 lk
 exact zb7 G hb2 e2 fun l H' s' => q l H' (B1.tr s12 s')
structure Ers (K : Fg) (k_Ended : Addr) (k_NoBook : Addr) (k_NoFit : Addr) (k_NoPlace : Addr) (k_NoSpot : Addr) (k_NoText : Addr) (k_NotEnded : Addr) (k_TagError : Addr) : Prop where
 ga_NoText : PySem.W.findIn K (.ref k_NoText) "__getattribute__" = some (some (.builtin "BaseException.__getattribute__"))
 gn_NoText : PySem.W.findIn K (.ref k_NoText) "__getattr__" = some none
 cl_NoText : PySem.W.findIn K (.ref k_NoText) "__class__" = some (some (.builtin "object.__class__"))
 bx_NoText : PySem.W.subIn K (.ref k_NoText) (.type "BaseException") = some true
 ob_NoText : PySem.W.subIn K (.ref k_NoText) (.type "object") = some true
 ve_NoText : PySem.W.subIn K (.ref k_NoText) (.type "ValueError") = some true
 s_NoText_Ended : PySem.W.subIn K (.ref k_NoText) (.ref k_Ended) = some false
 s_NoText_NoBook : PySem.W.subIn K (.ref k_NoText) (.ref k_NoBook) = some false
 s_NoText_NoFit : PySem.W.subIn K (.ref k_NoText) (.ref k_NoFit) = some false
 s_NoText_NoPlace : PySem.W.subIn K (.ref k_NoText) (.ref k_NoPlace) = some false
 s_NoText_NoSpot : PySem.W.subIn K (.ref k_NoText) (.ref k_NoSpot) = some false
 s_NoText_NoText : PySem.W.subIn K (.ref k_NoText) (.ref k_NoText) = some true
 s_NoText_NotEnded : PySem.W.subIn K (.ref k_NoText) (.ref k_NotEnded) = some false
 ic_Ended : PySem.W.isClsIn K k_Ended = true
 it_Ended : PySem.W.typeIn K (.ref k_Ended) = some (.type "type")
 ic_NoBook : PySem.W.isClsIn K k_NoBook = true
 it_NoBook : PySem.W.typeIn K (.ref k_NoBook) = some (.type "type")
 ic_NoFit : PySem.W.isClsIn K k_NoFit = true
 it_NoFit : PySem.W.typeIn K (.ref k_NoFit) = some (.type "type")
 ic_NoPlace : PySem.W.isClsIn K k_NoPlace = true
 it_NoPlace : PySem.W.typeIn K (.ref k_NoPlace) = some (.type "type")
 ic_NoSpot : PySem.W.isClsIn K k_NoSpot = true
 it_NoSpot : PySem.W.typeIn K (.ref k_NoSpot) = some (.type "type")
 ic_NoText : PySem.W.isClsIn K k_NoText = true
 it_NoText : PySem.W.typeIn K (.ref k_NoText) = some (.type "type")
 ic_NotEnded : PySem.W.isClsIn K k_NotEnded = true
 it_NotEnded : PySem.W.typeIn K (.ref k_NotEnded) = some (.type "type")
theorem Ers.l_Ended {K : Fg} {k_Ended : Addr} {k_NoBook : Addr} {k_NoFit : Addr} {k_NoPlace : Addr} {k_NoSpot : Addr} {k_NoText : Addr} {k_NotEnded : Addr} {k_TagError : Addr} (e : Ers K k_Ended k_NoBook k_NoFit k_NoPlace k_NoSpot k_NoText k_NotEnded k_TagError) : qp7 K k_Ended := ⟨e.ic_Ended, e.it_Ended⟩
theorem Ers.l_NoBook {K : Fg} {k_Ended : Addr} {k_NoBook : Addr} {k_NoFit : Addr} {k_NoPlace : Addr} {k_NoSpot : Addr} {k_NoText : Addr} {k_NotEnded : Addr} {k_TagError : Addr} (e : Ers K k_Ended k_NoBook k_NoFit k_NoPlace k_NoSpot k_NoText k_NotEnded k_TagError) : qp7 K k_NoBook := ⟨e.ic_NoBook, e.it_NoBook⟩
theorem Ers.l_NoFit {K : Fg} {k_Ended : Addr} {k_NoBook : Addr} {k_NoFit : Addr} {k_NoPlace : Addr} {k_NoSpot : Addr} {k_NoText : Addr} {k_NotEnded : Addr} {k_TagError : Addr} (e : Ers K k_Ended k_NoBook k_NoFit k_NoPlace k_NoSpot k_NoText k_NotEnded k_TagError) : qp7 K k_NoFit := ⟨e.ic_NoFit, e.it_NoFit⟩
theorem Ers.l_NoPlace {K : Fg} {k_Ended : Addr} {k_NoBook : Addr} {k_NoFit : Addr} {k_NoPlace : Addr} {k_NoSpot : Addr} {k_NoText : Addr} {k_NotEnded : Addr} {k_TagError : Addr} (e : Ers K k_Ended k_NoBook k_NoFit k_NoPlace k_NoSpot k_NoText k_NotEnded k_TagError) : qp7 K k_NoPlace := ⟨e.ic_NoPlace, e.it_NoPlace⟩
theorem Ers.l_NoSpot {K : Fg} {k_Ended : Addr} {k_NoBook : Addr} {k_NoFit : Addr} {k_NoPlace : Addr} {k_NoSpot : Addr} {k_NoText : Addr} {k_NotEnded : Addr} {k_TagError : Addr} (e : Ers K k_Ended k_NoBook k_NoFit k_NoPlace k_NoSpot k_NoText k_NotEnded k_TagError) : qp7 K k_NoSpot := ⟨e.ic_NoSpot, e.it_NoSpot⟩
theorem Ers.l_NoText {K : Fg} {k_Ended : Addr} {k_NoBook : Addr} {k_NoFit : Addr} {k_NoPlace : Addr} {k_NoSpot : Addr} {k_NoText : Addr} {k_NotEnded : Addr} {k_TagError : Addr} (e : Ers K k_Ended k_NoBook k_NoFit k_NoPlace k_NoSpot k_NoText k_NotEnded k_TagError) : qp7 K k_NoText := ⟨e.ic_NoText, e.it_NoText⟩
theorem Ers.l_NotEnded {K : Fg} {k_Ended : Addr} {k_NoBook : Addr} {k_NoFit : Addr} {k_NoPlace : Addr} {k_NoSpot : Addr} {k_NoText : Addr} {k_NotEnded : Addr} {k_TagError : Addr} (e : Ers K k_Ended k_NoBook k_NoFit k_NoPlace k_NoSpot k_NoText k_NotEnded k_TagError) : qp7 K k_NotEnded := ⟨e.ic_NotEnded, e.it_NotEnded⟩
theorem Ers.e_NoText {K : Fg} {k_Ended : Addr} {k_NoBook : Addr} {k_NoFit : Addr} {k_NoPlace : Addr} {k_NoSpot : Addr} {k_NoText : Addr} {k_NotEnded : Addr} {k_TagError : Addr} (e : Ers K k_Ended k_NoBook k_NoFit k_NoPlace k_NoSpot k_NoText k_NotEnded k_TagError) : yh0 K k_NoText := ⟨⟨e.ga_NoText, e.gn_NoText, e.cl_NoText, e.bx_NoText, e.ob_NoText⟩, e.l_NoText, e.s_NoText_NoText⟩
abbrev wr7 (K : Fg) : TS :=
 (C6 (M8 (tOr (tB (tCB (qc9 K) (A6 (ya2 K (A7 1) "row") (A6 (tC (.ty "bool")) B6)))) (wf0 (tB (tCB (qc9 K) (A6 (ya2 K (A7 1) "row") (A6 (tC (.ty "int")) B6))))))
 (M0 (tUn (rU fun i => .int (-i)) (tC (.int 1)))) G7)
 (M0 (ya2 K (A7 1) "row")))
abbrev wr8 (K : Fg) (k_Ended : Addr) (k_NotEnded : Addr) (k_NoFit : Addr) : TS :=
 (C6 (M8 (tOr (tB (tCB (qc9 K) (A6 (A7 1) (A6 (tC (.ref k_Ended)) B6)))) (tOr (tB (tCB (qc9 K) (A6 (A7 1) (A6 (tC (.ref k_NotEnded)) B6)))) (tB (tCB (qc9 K) (A6 (A7 1) (A6 (tC (.ref k_NoFit)) B6))))))
 (M0 (tUn (rU fun i => .int (-i)) (tC (.int 1)))) G7)
 (wr7 K))
abbrev wr9 (K : Fg) (k_NoBook : Addr) (k_NoPlace : Addr) (k_NoSpot : Addr) (k_Ended : Addr) (k_NotEnded : Addr) (k_NoFit : Addr) : TS :=
 (C6 (M8 (tOr (tB (tCB (qc9 K) (A6 (A7 1) (A6 (tC (.ref k_NoBook)) B6)))) (tOr (tB (tCB (qc9 K) (A6 (A7 1) (A6 (tC (.ref k_NoPlace)) B6)))) (tB (tCB (qc9 K) (A6 (A7 1) (A6 (tC (.ref k_NoSpot)) B6))))))
 (M0 (tUn (rU fun i => .int (-i)) (tC (.int 1)))) G7)
 (wr8 K k_Ended k_NotEnded k_NoFit))
def tdT (K : Fg) (k_NoText : Addr) (k_NoBook : Addr) (k_NoPlace : Addr) (k_NoSpot : Addr) (k_Ended : Addr) (k_NotEnded : Addr) (k_NoFit : Addr) : TS :=
 (C6 (M8 (tOr (wf0 (tB (tCB (qc9 K) (A6 (A7 1) (A6 (tC (.ref k_NoText)) B6))))) (wf0 (tB (tCB (qc9 K) (A6 (A7 1) (A6 (tC (.ty "ValueError")) B6))))))
 (M0 (tUn (rU fun i => .int (-i)) (tC (.int 1)))) G7)
 (wr9 K k_NoBook k_NoPlace k_NoSpot k_Ended k_NotEnded k_NoFit))
theorem zb8 {D : P4} {v0 : Option V} {a dx : Addr} {m : Nat} {k_Ended : Addr} {k_NoBook : Addr} {k_NoFit : Addr} {k_NoPlace : Addr} {k_NoSpot : Addr} {k_NoText : Addr} {k_NotEnded : Addr} {k_TagError : Addr} (ei : ExI K k_NoText "row") (er : Ers K k_Ended k_NoBook k_NoFit k_NoPlace k_NoSpot k_NoText k_NotEnded k_TagError) (e1 : H a = some (qy9 a k_NoText (some dx))) (e2 : H dx = some (.xd [("row", .int m)])) (q : D.rt (.int m) H) : tdT K k_NoText k_NoBook k_NoPlace k_NoSpot k_Ended k_NotEnded k_NoFit D [v0, some (.ref a), none] H := by
 unfold tdT
 lk
 refine qp8 e1 er.e_NoText er.l_NoText er.s_NoText_NoText ?_
 refine ⟨_, rfl, ?_⟩
 k_go
 lk
 refine yh6 e1 er.e_NoText rfl er.ve_NoText ?_
 refine ⟨_, rfl, ?_⟩
 k_go
 lk
 refine qp8 e1 er.e_NoText er.l_NoBook er.s_NoText_NoBook ?_
 refine ⟨_, rfl, ?_⟩
 k_go
 lk
 refine qp8 e1 er.e_NoText er.l_NoPlace er.s_NoText_NoPlace ?_
 refine ⟨_, rfl, ?_⟩
 k_go
 lk
 refine qp8 e1 er.e_NoText er.l_NoSpot er.s_NoText_NoSpot ?_
 refine ⟨_, rfl, ?_⟩
 k_go
 lk
 refine qp8 e1 er.e_NoText er.l_Ended er.s_NoText_Ended ?_
 refine ⟨_, rfl, ?_⟩
 k_go
 lk
 refine qp8 e1 er.e_NoText er.l_NotEnded er.s_NoText_NotEnded ?_
 refine ⟨_, rfl, ?_⟩
 k_go
 lk
 refine qp8 e1 er.e_NoText er.l_NoFit er.s_NoText_NoFit ?_
 refine ⟨_, rfl, ?_⟩
 k_go
 lk
 refine xj5 ?_
 lk
 refine ⟨a, k_NoText, dx, _, _, rfl, e1, e2, ei, rfl, ?_⟩
 lk
 refine xn2 (xd0 (.int _) (b := false) rfl ?_)
 refine ⟨_, rfl, ?_⟩
 k_go
 lk
 refine xj5 ?_
 lk
 refine ⟨a, k_NoText, dx, _, _, rfl, e1, e2, ei, rfl, ?_⟩
 lk
 refine xn2 (xd0 (.int _) (b := true) rfl ?_)
 refine ⟨_, rfl, ?_⟩
 k_go
 lk
 refine xj5 ?_
 lk
 exact ⟨a, k_NoText, dx, _, _, rfl, e1, e2, ei, rfl, q⟩
abbrev ws0 (K : Fg) (k_NoText : Addr) (k_NoBook : Addr) (k_NoPlace : Addr) (k_NoSpot : Addr) (k_Ended : Addr) (k_NotEnded : Addr) (k_NoFit : Addr) : TS :=
 (C6 (wu0 k_NoText 2 (fun E => C8 (X2 K k_NoText) [] E (A6 (A7 0) B6)) (G0 (A7 2) (B7 1)))
 (tdT K k_NoText k_NoBook k_NoPlace k_NoSpot k_Ended k_NotEnded k_NoFit))
def P6 (K : Fg) : Sp := fun vs H Q _ => (∃ (z : Str) (ls : List Str) (m : Nat), vs = [.str z] /\ ls ≠ [("" : Str)] /\ ls.length <= 20 /\ (∀ l ∈ ls, qq4 l) /\ z = Str.join ("\n" : Str) ls /\ yi8 ls m /\ ∀ H', B1 H H' -> Q (.int m) H') \/
 ∃ (v : V) (t : Value), vs = [v] /\ qk7 K H v t /\ PySem.W.kitOne K t (.type "str") = some false /\ ∀ H', B1 H H' -> Q (.int 0) H'
theorem ws1 (K : Fg) : ∀ vs H Q E, P6 K vs H Q E -> vs.length = ["_law_text"].length := by rintro vs H Q E (⟨z, ls, m, rfl, _⟩ | ⟨v, t, rfl, _⟩) <;> rfl
def T0 (K : Fg) (k_NoText : Addr) (k_NoSpot : Addr) (k_NoPlace : Addr) (k_NoBook : Addr) (k_NoFit : Addr) (k_NotEnded : Addr) (k_Ended : Addr) : TS :=
 (C6 (G0 (tC .non) (B7 1))
 (ws0 K k_NoText k_NoBook k_NoPlace k_NoSpot k_Ended k_NotEnded k_NoFit))
theorem xa4 {k_Ended : Addr} {k_NoBook : Addr} {k_NoFit : Addr} {k_NoPlace : Addr} {k_NoSpot : Addr} {k_NoText : Addr} {k_NotEnded : Addr} {k_TagError : Addr} (ei : ExI K k_NoText "row") (er : Ers K k_Ended k_NoBook k_NoFit k_NoPlace k_NoSpot k_NoText k_NotEnded k_TagError) (h : P6 K vs H Q E) : T0 K k_NoText k_NoSpot k_NoPlace k_NoBook k_NoFit k_NotEnded k_Ended { nx := fun _ H' => Q .non H', rt := Q } (M2 ["_law_text", "_law_error", "e"] vs) H := by
 have fin : ∀ {v0 : Option V} {m : Nat} {dx a : Addr} {H1 : Hp}, B1 H H1 -> H1 dx = some (.xd [("row", .int m)]) -> H1 a = none -> (∀ H', B1 H H' -> Q (.int m) H') -> tdT K k_NoText k_NoBook k_NoPlace k_NoSpot k_Ended k_NotEnded k_NoFit { nx := fun _ H' => Q .non H', rt := Q } [v0, some (.ref a), none] (upd H1 a (qy9 a k_NoText (some dx))) := by
  intro v0 m dx a H1 s1 h1 ha q
  have e1 : (upd H1 a (qy9 a k_NoText (some dx))) a = some (qy9 a k_NoText (some dx)) := A8
  have e2 : (upd H1 a (qy9 a k_NoText (some dx))) dx = some (.xd [("row", .int m)]) := by rw [B8 (fun z => by rw [z, ha] at h1; cases h1)]; exact h1
  exact zb8 ei er e1 e2 (q _ (B1.tr s1 (B1.new ha _)))
 rcases h with ⟨z, ls, m, rfl, h1, hz, hL, ez, F, q⟩ | ⟨v, t, rfl, ty, kt, q⟩
 ·show T0 K _ _ _ _ _ _ _ _ [some (.str z), none, none] H
  unfold T0
  lk
  show wu0 k_NoText 2 _ _ _ _ _
  unfold wu0
  lk
  refine .inl ⟨z, ls, m, rfl, h1, hz, hL, ez, F, fun dx H1 s1 e1 => ⟨rfl, fun a ha => ?_⟩⟩
  lk
  exact fin s1 e1 ha q
 ·show T0 K _ _ _ _ _ _ _ _ [some v, none, none] H
  unfold T0
  lk
  show wu0 k_NoText 2 _ _ _ _ _
  unfold wu0
  lk
  refine .inr ⟨v, t, rfl, ty, kt, fun dx H1 s1 e1 => ⟨rfl, fun a ha => ?_⟩⟩
  lk
  exact fin (m := 0) s1 e1 ha q
theorem ym7 {i j : Int} (c : xv0 i j) (h : Q (.int (i ^ j.toNat)) H) : rI xv0 (fun i j => .int (i ^ j.toNat)) (.int i) (.int j) H Q := ⟨i, j, rfl, rfl, c, h⟩
theorem yu2 {names : List Str} {rs : List Row} (h : wd3 names rs) (hn : names.Nodup) (hk : ∀ x ∈ names, ql4 x) (h12 : names.length <= 12) : ∀ r ∈ rs, qb7 r := by
 intro r hr
 have F := xn9.mp ((wu4 h hn hk h12).2.1 r hr)
 obtain ⟨S, Hs, g, ra⟩ := h.at
 obtain ⟨i, hi, R⟩ := ra r hr
 have hal : (qb3 names S).length <= 12 := by
  unfold qb3
  have := List.length_filter_le (fun k => decide (gd S k = ("plain" : Str) \/ gd S k = ("anew" : Str))) (List.range names.length)
  rw [List.length_range] at this
  rw [List.length_map]; omega
 have ha : ∀ x ∈ qb3 names S, nmX x = true := fun x hx => by
  unfold qb3 at hx
  obtain ⟨k, hk', rfl⟩ := List.mem_map.mp hx
  rw [List.mem_filter, List.mem_range] at hk'
  exact qz7.mpr (hk _ (Y0 hk'.1))
 have hsome : ∀ {ys xs : List Str}, qi1 ys xs -> ys.length <= xs.length := fun h => by
  obtain ⟨zs, s, p⟩ := h.sub
  rw [p.length_eq]; exact s.length_le
 have hb : (∀ x ∈ r.shuts, nmX x = true) /\ PyProof.Rows.sortedS r.shuts = true /\ r.shuts.length <= 12 := by
  rcases R.shuts with ⟨_, h2⟩ | ⟨_, h2⟩
  ·rw [h2]; exact ⟨fun x hx => (by cases hx), rfl, Nat.zero_le _⟩
  ·refine ⟨fun x hx => ha x (List.mem_filter.mp (h2.mem hx)).1, h2.rise, ?_⟩
   have := hsome h2
   have := List.length_filter_le (fun x => decide (x ∉ Hs)) (qb3 names S)
   omega
 exact ⟨F.1, F.2.1, F.2.2.1, F.2.2.2, hb.1, fun x hx => ha x (R.bars.mem hx), hb.2.1, R.bars.rise, by have := hb.2.2; omega, by have := hsome R.bars; omega⟩
theorem yc6 {names : List Str} {rs : List Row} (h : wd3 names rs) (hn : names.Nodup) (hk : ∀ x ∈ names, ql4 x) (h12 : names.length <= 12) : wy3 rs := (wu4 h hn hk h12).2.2
structure Lns (ls : List Str) (m : Nat) : Prop where
 o : ∀ l ∈ ls, qq4 l
 z : ls.length <= 20
 f : yi8 ls m
structure Bok (K : Fg) (H : Hp) (a : Addr) (us : List V) (rs : List Row) : Prop where
 a : H a = some (.lst us)
 l : us.length = rs.length
 n : 1 <= rs.length
 z : rs.length <= 12
 G : ∀ r ∈ rs, qb7 r
 S : ∀ r ∈ rs, Sml r
 M : wy3 rs
theorem Bok.same {H' : Hp} {a : Addr} {us : List V} {rs : List Row} (b : Bok K H a us rs) (s : B1 H H') : Bok K H' a us rs := ⟨s _ _ b.a, b.l, b.n, b.z, b.G, b.S, b.M⟩
noncomputable def txt (rs : List Row) : Str := Str.join ("\n" : Str) (rs.map G5)
theorem wm8 {rs : List Row} (G : ∀ r ∈ rs, qb7 r) : ∀ l ∈ rs.map G5, qq4 l := fun l hl => by
 obtain ⟨r, hr, rfl⟩ := List.mem_map.mp hl
 exact (Q8 (G r hr)).1
theorem xg0 {rs : List Row} (G : ∀ r ∈ rs, qb7 r) : (rs.map G5).map rdL = rs.map some := by
 rw [List.map_map]
 exact List.map_congr_left fun r hr => (Q8 (G r hr)).2
theorem xp0 {ls : List Str} (h : ∀ l ∈ ls, qq4 l) (hz : ls.length <= 20) : (ls.map (·.length)).sum + ls.length * ("\n" : Str).length <= 16777216 := by
 have h1 := wm4 fun x hx => (h x hx).z
 have h2 : ls.length * 1000 <= 20 * 1000 := Nat.mul_le_mul_right _ hz
 show _ + _ * 1 <= _
 omega
abbrev yj5 (K : Fg) : TS :=
 (M0 (qo0 (tOp (O0 K) (C8 (P6 K) [] E0 (A6 (A7 10) B6)) (tC (.int 0))) (tOp (O0 K) (tCB (N4 K) (A6 (C8 (U6 K) [] E0 (A6 (A7 4) B6)) B6)) (tCB (N4 K) (A6 (A7 2) B6)))))
def lwT (K : Fg) : TS :=
 (C6 (G0 (tOp (E7 K) (O5 (A6 (tC .non) (A6 (A7 5) (A6 (tC (.bl true)) (A6 (qp3 (A6 (tC (.str ("p plain" : Str))) B6)) (A6 (O5 (A6 (tC (.str ("p plain" : Str))) B6)) (A6 (xw5 [((tC (.str ("p" : Str))), (tC (.str ("plain" : Str))))]) B6))))))) (tOp (rI (fun _ j => 0 < j) fun i j => .int (i % j)) (tOp (rI qg8 fun i j => .int (i / j)) (A7 5) (tC (.int 7))) (tC (.int 6)))) (B7 10))
 (yj5 K))
theorem zb9 {D : P4} {sc nm a : Addr} {us : List V} {rs : List Row} {n : Int} {o6 o7 o8 : Option V} (B : Bok K H a us rs) (hn0 : 0 <= n) (hn1 : n < 10 ^ 9) {c : Addr} {due : Int} (q : ∀ H', D.rt (.bl true) H') : lwT K D [some (.ref sc), some (.ref nm), some (.ref a), some (.ref c), some (.str (txt rs)), some (.int n), o6, o7, o8, some (.int due), none] H := by
 have i0 := Int.emod_nonneg (n / 7) (show (6 : Int) ≠ 0 by decide)
 have i1 := Int.emod_lt_of_pos (n / 7) (show (0 : Int) < 6 by decide)
 have hne : rs.map G5 ≠ [] := fun z => by have h := B.n; have h2 := congrArg List.length z; rw [List.length_map, List.length_nil] at h2; omega
 have hne2 : rs.map G5 ≠ [("" : Str)] := fun z => by
  have hr : (rs.map G5).map rdL = rs.map some := xg0 B.G
  rw [z] at hr
  have : rdL ("" : Str) = none := wv0.2
  rw [List.map_singleton, this] at hr
  cases rs with
  | nil => cases hr
  | cons r rs => cases hr
 unfold lwT
 lk
 refine ⟨M5 (by z_go), fun t ht => ?_⟩
 have s1 := B1.new ht (.tup [.str ("p plain" : Str)])
 have e1 : (upd H t (.tup [.str ("p plain" : Str)])) t = some (.tup [.str ("p plain" : Str)]) := A8
 generalize upd H t (.tup [.str ("p plain" : Str)]) = H1 at *
 lk
 refine ⟨M5 (by z_go), fun l hl => ?_⟩
 have s2 := B1.new hl (.lst [.str ("p plain" : Str)])
 have e2 : (upd H1 l (.lst [.str ("p plain" : Str)])) l = some (.lst [.str ("p plain" : Str)]) := A8
 generalize upd H1 l (.lst [.str ("p plain" : Str)]) = H2 at *
 lk
 unfold xw5
 intro d hd
 unfold wf7
 lk
 unfold wf7
 refine ⟨A8, [(.inr ("p" : Str), .str ("plain" : Str))], rfl, by decide, ?_⟩
 have s3 : B1 H2 (upd (upd H2 d (.dK [])) d (.dK (qh1 [] [(.inr ("p" : Str), .str ("plain" : Str))]))) := B1.put (B1.new hd (.dK [])) hd _
 have e3 : (upd (upd H2 d (.dK [])) d (.dK (qh1 [] [(.inr ("p" : Str), .str ("plain" : Str))]))) d = some (.dK (qh1 [] [(.inr ("p" : Str), .str ("plain" : Str))])) := A8
 generalize upd (upd H2 d (.dK [])) d (.dK (qh1 [] [(.inr ("p" : Str), .str ("plain" : Str))])) = H3 at *
 lk
 refine ⟨M5 (by z_go), fun p hp => ?_⟩
 have s4 := B1.new hp (.lst [.non, .int n, .bl true, .ref t, .ref l, .ref d])
 have e4 : (upd H3 p (.lst [.non, .int n, .bl true, .ref t, .ref l, .ref d])) p = some (.lst [.non, .int n, .bl true, .ref t, .ref l, .ref d]) := A8
 have et := s4 _ _ (s3 _ _ (s2 _ _ e1))
 have el := s4 _ _ (s3 _ _ e2)
 have ed := s4 _ _ e3
 generalize upd H3 p (.lst [.non, .int n, .bl true, .ref t, .ref l, .ref d]) = H4 at *
 have s04 := B1.tr s1 (B1.tr s2 (B1.tr s3 s4))
 have B4 := B.same s04
 lk
 have fin : ∀ {v : V} {ty : Value}, qk7 K H4 v ty -> PySem.W.kitOne K ty (.type "str") = some false -> (M0 (qo0 (tOp (O0 K) (C8 (P6 K) [] E0 (A6 (A7 10) B6)) (tC (.int 0))) (tOp (O0 K) (tCB (N4 K) (A6 (C8 (U6 K) [] E0 (A6 (A7 4) B6)) B6)) (tCB (N4 K) (A6 (A7 2) B6))))) D [some (.ref sc), some (.ref nm), some (.ref a), some (.ref c), some (.str (txt rs)), some (.int n), o6, o7, o8, some (.int due), some v] H4 := by
  intro v ty hty hk
  lk
  refine .inr ⟨v, ty, rfl, hty, hk, fun H5 s5 => ?_⟩
  lk
  rw [decide_eq_true rfl]
  refine ⟨_, rfl, ?_⟩
  lk
  refine ⟨txt rs, rs.map G5, rs, rfl, hne, hne2, by rw [List.length_map]; exact B.z, wm8 B.G, rfl, xg0 B.G, B.S, B.M, fun t5 us5 H6 s6 h6 hl6 => ?_⟩
  lk
  refine O8 (.inr (SqT.of h6)) ?_
  lk
  refine O8 (.inl (SqL.of (s6 _ _ (s5 _ _ B4.a)))) ?_
  lk
  rw [hl6, B.l, decide_eq_true rfl]
  exact q _
 obtain ⟨k, hk⟩ : ∃ k : Nat, n / 7 % 6 = (k : Int) := ⟨(n / 7 % 6).toNat, by omega⟩
 rw [hk]
 have hk6 : k < 6 := by omega
 have cs : k = 0 \/ k = 1 \/ k = 2 \/ k = 3 \/ k = 4 \/ k = 5 := by omega
 rcases cs with rfl | rfl | rfl | rfl | rfl | rfl
 ·refine L8 (SqL.of e4) (v := .non) (D7 (j := 0) rfl) (E3 ?_)
  exact fin .non rfl
 ·refine L8 (SqL.of e4) (v := .int n) (D7 (j := 1) rfl) (E3 ?_)
  exact fin (.int _) rfl
 ·refine L8 (SqL.of e4) (v := .bl true) (D7 (j := 2) rfl) (E3 ?_)
  exact fin (.bl _) rfl
 ·refine L8 (SqL.of e4) (v := .ref t) (D7 (j := 3) rfl) (E3 ?_)
  exact fin (.tup et) rfl
 ·refine L8 (SqL.of e4) (v := .ref l) (D7 (j := 4) rfl) (E3 ?_)
  exact fin (.lst el) rfl
 ·refine L8 (SqL.of e4) (v := .ref d) (D7 (j := 5) rfl) (E3 ?_)
  exact fin (.dK ed) rfl
abbrev yj6 (K : Fg) : TS :=
 (C6 (M8 (E4 (tOp (qy1 K) (C8 (P6 K) [] E0 (A6 (tBM K "str" (qo4 K) (tC (.str ("\n" : Str))) (A6 (A7 3) B6)) B6)) (A7 9)))
 (M0 (tC (.bl false))) G7)
 (lwT K))
def lwA (K : Fg) : TS :=
 (C6 (M8 (E4 (tOp (O0 K) (A7 3) (O5 (A6 (tC (.str ("" : Str))) B6))))
 (G0 (O5 (A6 (tC (.str ("-" : Str))) B6)) (B7 3)) G7)
 (yj6 K))
theorem yc7 (xs : List Str) : PyData.eqv (.list (sDa xs)) (.list (sDa [("" : Str)])) = decide (xs = [("" : Str)]) := xf4 _ _
theorem xg1 : ql8 ("-" : Str) := qf0 (ws := [("-" : Str)]) (by simp) (by decide) (wl _ (by decide +kernel)) (wm7 (by decide))
theorem yu3 {D : P4} {sc nm a : Addr} {us : List V} {rs : List Row} {n : Int} {o6 o7 o8 : Option V} (B : Bok K H a us rs) (hn0 : 0 <= n) (hn1 : n < 10 ^ 9) {c : Addr} {ls : List Str} {m : Nat} (hc : H c = some (.lst (B2 ls))) (L : Lns ls m) (q : ∀ H', D.rt (.bl true) H') : lwA K D [some (.ref sc), some (.ref nm), some (.ref a), some (.ref c), some (.str (txt rs)), some (.int n), o6, o7, o8, some (.int m), none] H := by
 have hlz := L.z
 have rest : ∀ {c : Addr} {ls : List Str} {H1 : Hp}, B1 H H1 -> H1 c = some (.lst (B2 ls)) -> Lns ls m -> ls ≠ [("" : Str)] -> (C6 (M8 (E4 (tOp (qy1 K) (C8 (P6 K) [] E0 (A6 (tBM K "str" (qo4 K) (tC (.str ("\n" : Str))) (A6 (A7 3) B6)) B6)) (A7 9))) (M0 (tC (.bl false))) G7) (lwT K)) D [some (.ref sc), some (.ref nm), some (.ref a), some (.ref c), some (.str (txt rs)), some (.int n), o6, o7, o8, some (.int m), none] H1 := by
  intro c ls H1 s1 hc L hne
  lk
  refine ⟨rfl, ?_⟩
  lk
  refine ⟨_, c, ls, rfl, rfl, .inl (SqL.of hc), xp0 L.o L.z, ?_⟩
  rw [qb8]
  lk
  refine .inl ⟨_, ls, m, rfl, hne, L.z, L.o, rfl, L.f, fun H2 s2 => ?_⟩
  lk
  rw [decide_eq_true rfl]
  k_go
  exact zb9 (B.same (B1.tr s1 s2)) hn0 hn1 q
 unfold lwA
 lk
 refine ⟨M5 (by z_go), fun p hp => ?_⟩
 have s1 := B1.new hp (.lst [.str ("" : Str)])
 have e1 : (upd H p (.lst [.str ("" : Str)])) p = some (.lst (B2 [("" : Str)])) := A8
 generalize upd H p (.lst [.str ("" : Str)]) = H1 at *
 refine yl8 (d := .list (sDa ls)) (e := .list (sDa [("" : Str)])) (W5.mpr ⟨c, _, rfl, SqL.of (s1 _ _ hc), R7.mpr rfl⟩) (W5.mpr ⟨p, _, rfl, SqL.of e1, R7.mpr rfl⟩) (Nat.le_trans (Nat.min_le_right _ _) (by decide)) ?_
 rw [yc7]
 refine ⟨_, rfl, ?_⟩
 by_cases he : ls = [("" : Str)]
 ·rw [decide_eq_true he]
  x_go
  lk
  refine ⟨M5 (by z_go), fun p2 hp2 => ?_⟩
  have s2 := B1.new hp2 (.lst (B2 [("-" : Str)]))
  subst he
  have hm : m = 0 := by have := L.f.lt; simp at this; omega
  subst hm
  refine E3 ?_
  exact rest (ls := [("-" : Str)]) (B1.tr s1 s2) A8 ⟨fun l hl => by rw [List.mem_singleton.mp hl]; exact xg1.1, by decide, ⟨by decide, fun l hl => by cases hl; exact .inl xg1.2, fun j l hj => absurd hj (Nat.not_lt_zero _)⟩⟩ (by decide +kernel)
 ·rw [decide_eq_false he]
  k_go
  exact rest s1 (s1 _ _ hc) L he
noncomputable def yc8 (j : Nat) : Row := ⟨("n" : Str) ++ (⟨#[97 + j]⟩ : Str), ("bare" : Str), ("" : Str), [], []⟩
theorem yu4 : ∀ j, j < 14 -> nmX (("n" : Str) ++ (⟨#[97 + j]⟩ : Str)) = true := by decide +kernel
theorem xl0 {j : Nat} (h : j < 14) : qb7 (yc8 j) :=
 ⟨yu4 j h, by show ("bare" : Str) ∈ T8; decide +kernel, fun z => absurd z (by show ¬ ("bare" : Str) = ("frame" : Str); decide +kernel), fun _ => rfl, fun x hx => (by cases hx), fun x hx => (by cases hx), rfl, rfl, Nat.zero_le _, Nat.zero_le _⟩
theorem xu5 (j : Nat) : (("n" : Str) ++ (⟨#[97 + j]⟩ : Str)) ++ (" bare" : Str) = G5 (yc8 j) := wm5 (ws := [("n" : Str) ++ (⟨#[97 + j]⟩ : Str)]) (zs := [("bare" : Str)]) (by simp) (by simp) (by decide +kernel)
theorem n_g : qb7 ⟨("n" : Str), ("bare" : Str), ("" : Str), [], []⟩ :=
 ⟨by decide +kernel, by decide +kernel, fun z => absurd z (by decide +kernel), fun _ => rfl, fun x hx => (by cases hx), fun x hx => (by cases hx), rfl, rfl, Nat.zero_le _, Nat.zero_le _⟩
noncomputable def nls (k : Nat) : List Str := (List.range k).map fun j => G5 (yc8 j)
theorem xp1 {k j : Nat} (h : j < k) : (nls k)[j]? = some (G5 (yc8 j)) := by
 unfold nls
 rw [List.getElem?_map, List.getElem?_range h]; rfl
theorem qn4 (k : Nat) : (nls k).length = k := by unfold nls; simp
theorem yc9 {k : Nat} (h : k <= 14) : ∀ l ∈ nls k, qq4 l := fun l hl => by
 obtain ⟨j, hj, rfl⟩ := List.mem_map.mp hl
 have := List.mem_range.mp hj
 exact (Q8 (xl0 (by omega))).1
theorem yj7 {k : Nat} (h13 : 13 <= k) (h : k <= 14) : Lns (nls k) 12 := by
 refine ⟨yc9 h, by rw [qn4]; omega, by rw [qn4]; omega, fun l _ => .inr (Nat.le_refl _), fun j l hj hl => ⟨?_, hj⟩⟩
 rw [xp1 (by omega)] at hl
 cases hl
 rw [(Q8 (xl0 (by omega))).2]; exact fun z => by cases z
theorem yj8 {k m : Nat} {l : Str} (h13 : 13 <= k) (h : k <= 14) (hm : m <= 12) (hb : ql8 l) : Lns ((nls k).set m l) m := by
 have hlen : ((nls k).set m l).length = k := by rw [List.length_set, qn4]
 refine ⟨fun x hx => ?_, by omega, by omega, fun x hx => .inl ?_, fun j x hj hx => ⟨?_, by omega⟩⟩
 ·rcases List.mem_or_eq_of_mem_set hx with hx | rfl
  ·exact yc9 h x hx
  ·exact hb.1
 ·rw [List.getElem?_set_self (by rw [qn4]; omega)] at hx
  cases hx; exact hb.2
 ·rw [List.getElem?_set_ne (by omega), xp1 (by omega)] at hx
  cases hx
  rw [(Q8 (xl0 (by omega))).2]; exact fun z => by cases z
theorem yu5 {j : Nat} (h : j < 14) : ("abcdefghijklmn" : Str).cps.toList[j]? = some (97 + j) := by
 have : ∀ j, j < 14 -> ("abcdefghijklmn" : Str).cps.toList[j]? = some (97 + j) := by decide +kernel
 exact this j h
abbrev yj9 (K : Fg) : TS :=
 (G0 (C8 (P3 K) [] E0 (A6 (qp3 (A6 (tC (.str ("n" : Str))) (A6 (tC (.str ("bare" : Str))) (A6 (tC (.str ("" : Str))) (A6 (qp3 B6) (A6 (qp3 B6) B6)))))) (A6 (tOp (rI qg8 fun i j => .int (i / j)) (A7 5) (tC (.int 64))) B6))) (wf2 (A7 3) (A7 9) qo6))
abbrev yk0 (K : Fg) : TS :=
 (C6 (G0 (tOp (rI (fun _ j => 0 < j) fun i j => .int (i % j)) (tOp (rI qg8 fun i j => .int (i / j)) (A7 5) (tC (.int 4))) (tC (.int 13))) (B7 9))
 (yj9 K))
abbrev yk1 (K : Fg) : TS :=
 (M8 (E4 (tOp (O0 K) (tOp (rI (fun _ j => 0 < j) fun i j => .int (i % j)) (tOp (rI qg8 fun i j => .int (i / j)) (A7 5) (tC (.int 2))) (tC (.int 2))) (tC (.int 1))))
 (yk0 K) G7)
abbrev yk2 (K : Fg) : TS :=
 (C6 (G0 (P7 [none] (qf2 (A6 (tOp (L7 K) (tC (.int 13)) (tOp (rI (fun _ j => 0 < j) fun i j => .int (i % j)) (A7 5) (tC (.int 2)))) B6)) (B7 0) tTT (tOp (L7 K) (tOp (L7 K) (tC (.str ("n" : Str))) (tOp (E7 K) (tC (.str ("abcdefghijklmn" : Str))) (A7 0))) (tC (.str (" bare" : Str))))) (B7 3))
 (C6 (G0 (tC (.int 12)) (B7 9))
 (yk1 K)))
def lwD (K : Fg) : TS :=
 (C6 (M8 (E4 (tOp (O0 K) (tOp (rI (fun _ j => 0 < j) fun i j => .int (i % j)) (C8 (E9 K) [] E0 (A6 (A7 0) (A6 (tC (.int 7)) B6))) (tC (.int 5))) (tC (.int 1))))
 (yk2 K) G7)
 (lwA K))
theorem zc0 {D : P4} {sc nm a : Addr} {us : List V} {rs : List Row} {n : Int} {o6 o7 o8 : Option V} (B : Bok K H a us rs) (hn0 : 0 <= n) (hn1 : n < 10 ^ 9) {c : Addr} {ns : List Int} {ls : List Str} {m : Nat} (hsc : SqL K H sc (ns.map V.int)) (hc : H c = some (.lst (B2 ls))) (L : Lns ls m) (q : ∀ H', D.rt (.bl true) H') : lwD K D [some (.ref sc), some (.ref nm), some (.ref a), some (.ref c), some (.str (txt rs)), some (.int n), o6, o7, o8, some (.int m), none] H := by
 unfold lwD
 lk
 refine ⟨sc, ns, 7, rfl, hsc, by decide, fun c7 => ?_⟩
 lk
 by_cases h7 : c7 % 5 = 1
 ·rw [decide_eq_true h7]
  x_go
  have m0 := Int.emod_nonneg n (show (2 : Int) ≠ 0 by decide)
  have m1 := Int.emod_lt_of_pos n (show (0 : Int) < 2 by decide)
  obtain ⟨k, hk⟩ : ∃ k : Nat, 13 + n % 2 = (k : Int) := ⟨(13 + n % 2).toNat, by omega⟩
  have hk13 : 13 <= k := by omega
  have hk14 : k <= 14 := by omega
  lk
  rw [hk]
  refine qf7 (n := (k : Int)) (by omega) (by omega) (fun i ys H' => H' = H /\ ys = B2 (nls i)) ⟨rfl, rfl⟩ ?_ ?_ ?_
  ·rintro i ys H' hi ⟨_, rfl⟩
   rw [C1, qn4]; exact M5 (by omega)
  ·rintro i ys H' hi ⟨rfl, rfl⟩
   lk
   refine xm7 (M5 (by decide +kernel)) (D7 (yu5 (by omega))) ?_
   refine X9 (M5 (by show 1 + 1 <= _; decide)) ?_
   lk
   refine X9 (M5 (by rw [strLen_append]; show 1 + 1 + 5 <= _; decide)) ?_
   refine ⟨rfl, ?_⟩
   rw [xu5]
   show _ = B2 ((List.range (i + 1)).map fun j => G5 (yc8 j))
   rw [List.range_succ, List.map_append]
   unfold B2 nls
   rw [List.map_append]; rfl
  ·rintro ys H' ⟨rfl, rfl⟩ c2 hc2
   have ek : (k : Int).toNat = k := by omega
   rw [ek]
   have s1 := B1.new hc2 (.lst (B2 (nls k)))
   have e1 : (upd H' c2 (.lst (B2 (nls k)))) c2 = some (.lst (B2 (nls k))) := A8
   generalize upd H' c2 (.lst (B2 (nls k))) = H1 at *
   lk
   by_cases h2 : n / 2 % 2 = 1
   ·rw [decide_eq_true h2]
    x_go
    have d0 := Int.emod_nonneg (n / 4) (show (13 : Int) ≠ 0 by decide)
    have d1 := Int.emod_lt_of_pos (n / 4) (show (0 : Int) < 13 by decide)
    obtain ⟨e, he⟩ : ∃ e : Nat, n / 4 % 13 = (e : Int) := ⟨(n / 4 % 13).toNat, by omega⟩
    lk
    rw [he]
    refine ⟨M5 (by z_go), fun t1 ht1 => ?_⟩
    have s2 := B1.new ht1 (.tup [])
    have e2 : (upd H1 t1 (.tup [])) t1 = some (.tup (B2 [])) := A8
    generalize upd H1 t1 (.tup []) = H2 at *
    lk
    refine ⟨M5 (by z_go), fun t2 ht2 => ?_⟩
    have s3 := B1.new ht2 (.tup [])
    have e3 : (upd H2 t2 (.tup [])) t2 = some (.tup (B2 [])) := A8
    generalize upd H2 t2 (.tup []) = H3 at *
    lk
    refine ⟨M5 (by z_go), fun t3 ht3 => ?_⟩
    have s4 := B1.new ht3 (.tup [.str ("n" : Str), .str ("bare" : Str), .str ("" : Str), .ref t1, .ref t2])
    have e4 : (upd H3 t3 (.tup [.str ("n" : Str), .str ("bare" : Str), .str ("" : Str), .ref t1, .ref t2])) t3 = some (.tup [.str ("n" : Str), .str ("bare" : Str), .str ("" : Str), .ref t1, .ref t2]) := A8
    generalize upd H3 t3 (.tup [.str ("n" : Str), .str ("bare" : Str), .str ("" : Str), .ref t1, .ref t2]) = H4 at *
    have s14 := B1.tr s2 (B1.tr s3 s4)
    lk
    refine ⟨.ref t3, ⟨("n" : Str), ("bare" : Str), ("" : Str), [], []⟩, n / 64, rfl, ym3 (sh := []) (ba := []) e4 (SqT.of (s4 _ _ (s3 _ _ e2))) (SqT.of (s4 _ _ e3)), n_g, fun l H5 s5 hb => ?_⟩
    have s15 := B1.tr s14 s5
    have hc5 := s15 _ _ e1
    lk
    refine .inl (qy3 hc5 (j := e) (by rw [C1, qn4]; exact we1 (by omega)) ?_)
    rw [qu2]
    have sN : B1 H' (upd H5 c2 (.lst (B2 ((nls k).set e l)))) := B1.put (B1.tr s1 s15) hc2 _
    exact yu3 (B.same sN) hn0 hn1 A8 (yj8 hk13 hk14 (by omega) hb) q
   ·rw [decide_eq_false h2]
    k_go
    lk
    have := yu3 (m := 12) (K := K) (D := D) (sc := sc) (nm := nm) (n := n) (o6 := o6) (o7 := o7) (o8 := o8) (B.same s1) hn0 hn1 e1 (yj7 hk13 hk14) q
    exact this
 ·rw [decide_eq_false h7]
  k_go
  exact yu3 B hn0 hn1 hc L q
theorem yu6 {d : Addr} {kvs kvs' : List (Key × V)} (h : H d = some (.dK kvs)) : qn8 H (upd H d (.dK kvs')) :=
 ⟨fun b xs e => by rw [B8 (fun z => by rw [z, h] at e; cases e)]; exact e, fun b o xs e => by rw [B8 (fun z => by rw [z, h] at e; cases e)]; exact e⟩
theorem yk3 {kvs : List (Key × V)} {k : Key} {v : V} {y : Key × V} (h : y ∈ qf5 kvs k v) : (∃ x ∈ kvs, x.1 = y.1) \/ y.1 = k := by
 unfold qf5 at h
 split at h
 ·obtain ⟨x, hx, e⟩ := List.mem_map.mp h
  by_cases hk : x.1 = k
  ·rw [if_pos hk] at e; rw [<- e]; exact .inr hk
  ·rw [if_neg hk] at e; rw [<- e]; exact .inl ⟨x, hx, rfl⟩
 ·rcases List.mem_append.mp h with h | h
  ·exact .inl ⟨y, h, rfl⟩
  ·rw [List.mem_singleton.mp h]; exact .inr rfl
theorem xa5 {kvs : List (Key × V)} {k x : Key} {v : V} (h : (∃ y ∈ kvs, y.1 = x) \/ x = k) : ∃ y ∈ qf5 kvs k v, y.1 = x := by
 unfold qf5
 split
 ·rename_i ha
  have keep : ∀ z ∈ kvs, ∃ y ∈ kvs.map (fun kv => if kv.1 = k then (kv.1, v) else kv), y.1 = z.1 := fun z hz => ⟨_, List.mem_map_of_mem hz, by split <;> rfl⟩
  rcases h with ⟨y, hy, rfl⟩ | rfl
  ·exact keep y hy
  ·obtain ⟨z, hz, e⟩ := List.any_eq_true.mp ha
   obtain ⟨y, hy, e2⟩ := keep z hz
   exact ⟨y, hy, e2.trans (of_decide_eq_true e)⟩
 ·rcases h with ⟨y, hy, rfl⟩ | rfl
  ·exact ⟨y, List.mem_append.mpr (.inl hy), rfl⟩
  ·exact ⟨(x, v), List.mem_append.mpr (.inr (by simp)), rfl⟩
structure Bds (kvs : List (Key × V)) (ls : List Str) (R : Nat) : Prop where
 k : ∀ y ∈ kvs, ∃ j : Nat, y.1 = .inl (j : Int) /\ j < R /\ ∃ l, ls[j]? = some l /\ rdL l = none
 g : ∀ (i : Nat) (l : Str), ls[i]? = some l -> (∃ y ∈ kvs, y.1 = .inl (i : Int)) \/ rdL l ≠ none
 o : ∀ l ∈ ls, qq4 l
theorem Bds.put {kvs : List (Key × V)} {ls : List Str} {R j : Nat} {l : Str} {v : V} (b : Bds kvs ls R) (hj : j < R) (hR : R <= ls.length) (h : ql8 l) : Bds (qf5 kvs (.inl (j : Int)) v) (ls.set j l) R := by
 refine ⟨fun y hy => ?_, fun i x hx => ?_, fun x hx => ?_⟩
 ·rcases yk3 hy with ⟨z, hz, e⟩ | e
  ·obtain ⟨i, e1, e2, x, e3, e4⟩ := b.k z hz
   by_cases hi : i = j
   ·subst hi
    exact ⟨i, by rw [<- e]; exact e1, hj, l, List.getElem?_set_self (by omega), h.2⟩
   ·exact ⟨i, by rw [<- e]; exact e1, e2, x, by rw [List.getElem?_set_ne (Ne.symm hi)]; exact e3, e4⟩
  ·exact ⟨j, e, hj, l, List.getElem?_set_self (by omega), h.2⟩
 ·by_cases hi : i = j
  ·subst hi; exact .inl (xa5 (.inr rfl))
  ·rw [List.getElem?_set_ne (Ne.symm hi)] at hx
   exact (b.g i x hx).imp (fun z => xa5 (.inl z)) id
 ·rcases List.mem_or_eq_of_mem_set hx with hx | rfl
  ·exact b.o x hx
  ·exact h.1
noncomputable def kI : Key -> Int
 | .inl i => i
 | .inr _ => 0
theorem Bds.ints {kvs : List (Key × V)} {ls : List Str} {R : Nat} (b : Bds kvs ls R) : (kvs.map fun y => kV y.1) = (kvs.map fun y => kI y.1).map V.int := by
 rw [List.map_map]
 refine List.map_congr_left fun y hy => ?_
 obtain ⟨j, e, _⟩ := b.k y hy
 show kV y.1 = V.int (kI y.1)
 rw [e]; rfl
theorem Bds.fst {kvs : List (Key × V)} {ls : List Str} {R : Nat} (b : Bds kvs ls R) (h20 : ls.length <= 20) (hR : R <= 12) (hRl : R <= ls.length) {m : Int} (hm : m ∈ kvs.map fun y => kI y.1) (hl : ∀ i ∈ kvs.map (fun y => kI y.1), m <= i) : ∃ k : Nat, m = (k : Int) /\ Lns ls k := by
 obtain ⟨y, hy, e⟩ := List.mem_map.mp hm
 obtain ⟨j, e1, e2, l, e3, e4⟩ := b.k y hy
 rw [e1] at e
 have e : (j : Int) = m := e
 refine ⟨j, e.symm, b.o, h20, by omega, fun x hx => .inl ?_, fun i x hi hx => ⟨?_, by omega⟩⟩
 ·rw [e3] at hx; cases hx; exact e4
 ·rcases b.g i x hx with ⟨z, hz, ez⟩ | h
  ·have := hl (kI z.1) (List.mem_map_of_mem hz)
   rw [ez] at this
   have : m <= (i : Int) := this
   omega
  ·exact h
def lwM (K : Fg) : TS :=
 (C6 (G0 (tCB (xj6 K) (A6 (tCB xz8 (A6 (A7 6) B6)) B6)) (B7 9))
 (lwD K))
theorem zc1 {D : P4} {sc nm a : Addr} {us : List V} {rs : List Row} {n : Int} {o7 o8 : Option V} (B : Bok K H a us rs) (hn0 : 0 <= n) (hn1 : n < 10 ^ 9) {c d : Addr} {ns : List Int} {ls : List Str} {kvs : List (Key × V)} (hsc : SqL K H sc (ns.map V.int)) (hc : H c = some (.lst (B2 ls))) (hd : H d = some (.dK kvs)) (hk : kvs ≠ []) (h20 : ls.length <= 20) (hRl : rs.length <= ls.length) (b : Bds kvs ls rs.length) (q : ∀ H', D.rt (.bl true) H') : lwM K D [some (.ref sc), some (.ref nm), some (.ref a), some (.ref c), some (.str (txt rs)), some (.int n), some (.ref d), o7, o8, none, none] H := by
 unfold lwM
 lk
 refine ⟨d, kvs, rfl, .inl hd, fun p hp => ?_⟩
 rw [b.ints]
 have s1 := B1.new hp (.lst ((kvs.map fun y => kI y.1).map V.int))
 have e1 : (upd H p (.lst ((kvs.map fun y => kI y.1).map V.int))) p = some (.lst ((kvs.map fun y => kI y.1).map V.int)) := A8
 generalize upd H p (.lst ((kvs.map fun y => kI y.1).map V.int)) = H1 at *
 lk
 refine ys5 (SqL.of e1) (by simpa using hk) fun m hm hl => ?_
 obtain ⟨k, rfl, L⟩ := b.fst h20 B.z hRl hm hl
 lk
 exact zc0 (B.same s1) hn0 hn1 (s1.sqL hsc) (s1 _ _ hc) L q
abbrev yk4 (K : Fg) : TS :=
 (C6 (G0 (C8 (P3 K) [] E0 (A6 (tOp (E7 K) (A7 2) (A7 8)) (A6 (tOp (rI (fun _ j => 0 < j) fun i j => .int (i % j)) (tOp (rI qg8 fun i j => .int (i / j)) (A7 7) (tC (.int 12))) (tOp (rI xv0 fun i j => .int (i ^ j.toNat)) (tC (.int 10)) (tC (.int 9)))) B6))) (wf2 (A7 3) (A7 8) qo6))
 (G0 (tC (.bl true)) (wf2 (A7 6) (A7 8) qo6)))
def lwB (K : Fg) : TS :=
 (C6 (G0 (tOp (rI (fun _ j => 0 < j) fun i j => .int (i % j)) (A7 7) (tCB (N4 K) (A6 (A7 2) B6))) (B7 8))
 (yk4 K))
theorem zc2 {D : P4} {sc nm a c d : Addr} {us : List V} {rs : List Row} {n x : Int} {o8 : Option V} {ls : List Str} {kvs : List (Key × V)} (B : Bok K H a us rs) (hus : Dvs K H (rs.map Row.da) us) (hc : H c = some (.lst (B2 ls))) (hd : H d = some (.dK kvs)) (ncd : c ≠ d) (h20 : ls.length <= 20) (hRl : rs.length <= ls.length) (b : Bds kvs ls rs.length) (hkl : kvs.length <= 100)
 (q : ∀ (ls' : List Str) (kvs' : List (Key × V)) (o8' : Option V) (H' : Hp), (∀ y u, H y = some u -> y ≠ c -> y ≠ d -> H' y = some u) -> qn8 H H' -> H' c = some (.lst (B2 ls')) -> H' d = some (.dK kvs') -> ls'.length = ls.length -> kvs'.length <= kvs.length + 1 -> kvs' ≠ [] -> Bds kvs' ls' rs.length -> D.nx [some (.ref sc), some (.ref nm), some (.ref a), some (.ref c), some (.str (txt rs)), some (.int n), some (.ref d), some (.int x), o8', none, none] H') : lwB K D [some (.ref sc), some (.ref nm), some (.ref a), some (.ref c), some (.str (txt rs)), some (.int n), some (.ref d), some (.int x), o8, none, none] H := by
 have hR := B.n
 have lus := B.l
 unfold lwB
 lk
 refine O8 (.inl (SqL.of B.a)) ?_
 have u0 : 0 < us.length := by omega
 lk
 have m0 := Int.emod_nonneg x (show ((us.length : Nat) : Int) ≠ 0 by omega)
 have m1 := Int.emod_lt_of_pos x (show (0 : Int) < (us.length : Nat) by omega)
 obtain ⟨j, hj⟩ : ∃ j : Nat, x % (us.length : Nat) = (j : Int) := ⟨(x % (us.length : Nat)).toNat, by omega⟩
 have hju : j < us.length := by omega
 obtain ⟨dd, hd1, hd2⟩ := hus.get' (List.getElem?_eq_getElem hju)
 rw [List.getElem?_map] at hd1
 obtain ⟨r, hr, rfl⟩ := Option.map_eq_some_iff.mp hd1
 rw [hj]
 refine L8 (SqL.of B.a) (v := us[j]) (D7 (List.getElem?_eq_getElem hju)) ?_
 lk
 refine ym7 ⟨by decide, by decide, by decide⟩ ?_
 lk
 refine ⟨us[j], r, _, rfl, hd2, B.G r (List.mem_of_getElem? hr), fun l H1 s1 hb => ?_⟩
 have hc1 := s1 _ _ hc
 have hd1 := s1 _ _ hd
 lk
 refine .inl (qy3 hc1 (j := j) (by rw [C1]; exact we1 (by omega)) ?_)
 rw [qu2]
 have tk := xe7 (ys := B2 (ls.set j l)) hc1
 have e2 : (upd H1 c (.lst (B2 (ls.set j l)))) c = some (.lst (B2 (ls.set j l))) := A8
 have k2 : ∀ y u, H y = some u -> y ≠ c -> (upd H1 c (.lst (B2 (ls.set j l)))) y = some u := fun y u e n1 => by rw [B8 n1]; exact s1 _ _ e
 have hd2' : (upd H1 c (.lst (B2 (ls.set j l)))) d = some (.dK kvs) := k2 _ _ hd (Ne.symm ncd)
 generalize upd H1 c (.lst (B2 (ls.set j l))) = H2 at *
 lk
 refine .inr ⟨d, _, rfl, xw1.k (k := .inl (j : Int)) hd2' (by rw [sizeLine_eq]; omega), ?_⟩
 have hpl := qc5 kvs (Sum.inl (j : Int) : Key) (V.bl true)
 refine q _ _ _ _ (fun y u e n1 n2 => by rw [B8 n2]; exact k2 y u e n1) ?_ (by rw [B8 ncd]; exact e2) A8 (List.length_set ..) hpl (fun z => ?_) (b.put (by omega) hRl hb)
 ·exact qn8.trans (qn8.trans s1.tupK tk) (yu6 hd2')
 ·obtain ⟨y, hy, _⟩ := xa5 (kvs := kvs) (k := (Sum.inl (j : Int) : Key)) (v := V.bl true) (.inr rfl)
  rw [z] at hy; cases hy
inductive Lwl (K : Fg) (H0 H1 : Hp) (sc nm a c d : Addr) (rs : List Row) (n : Int) (L i : Nat) : St -> Hp -> Prop
 | mk {H' : Hp} {ls : List Str} {kvs : List (Key × V)} {o7 o8 : Option V} (s : B1 H0 H') (k : ∀ y u, H1 y = some u -> y ≠ c -> y ≠ d -> H' y = some u) (hc : H' c = some (.lst (B2 ls))) (hd : H' d = some (.dK kvs)) (l : ls.length = L) (kl : kvs.length <= i) (ne : i = 0 \/ kvs ≠ []) (b : Bds kvs ls rs.length) :
  Lwl K H0 H1 sc nm a c d rs n L i [some (.ref sc), some (.ref nm), some (.ref a), some (.ref c), some (.str (txt rs)), some (.int n), some (.ref d), o7, o8, none, none] H'
def lwL (K : Fg) : TS :=
 (C6 (qn6 (qh6 K (tSl (wg9 K) (O5 (A6 (C8 (E9 K) [] E0 (A6 (A7 0) (A6 (tC (.int 4)) B6))) (A6 (C8 (E9 K) [] E0 (A6 (A7 0) (A6 (tC (.int 5)) B6))) B6))) R6 (qj6 (tOp (L7 K) (tC (.int 1)) (tOp (rI (fun _ j => 0 < j) fun i j => .int (i % j)) (C8 (E9 K) [] E0 (A6 (A7 0) (A6 (tC (.int 6)) B6))) (tC (.int 2))))))) (B7 7)
 (lwB K))
 (lwM K))
theorem zc3 {D : P4} {H0 : Hp} {sc nm a c d : Addr} {us : List V} {rs : List Row} {n : Int} {ns : List Int} {ls : List Str} (s0 : B1 H0 H) (fc : H0 c = none) (fd : H0 d = none) (ncd : c ≠ d) (B : Bok K H0 a us rs) (hus : Dvs K H0 (rs.map Row.da) us) (hn0 : 0 <= n) (hn1 : n < 10 ^ 9) (hsc : SqL K H0 sc (ns.map V.int)) (hc : H c = some (.lst (B2 ls))) (hd : H d = some (.dK [])) (h20 : ls.length <= 20) (hRl : rs.length <= ls.length) (b : Bds [] ls rs.length) (q : ∀ H', D.rt (.bl true) H') : lwL K D [some (.ref sc), some (.ref nm), some (.ref a), some (.ref c), some (.str (txt rs)), some (.int n), some (.ref d), none, none, none, none] H := by
 unfold lwL
 lk
 refine ⟨sc, ns, 4, rfl, s0.sqL hsc, by decide, fun x4 => ?_⟩
 lk
 refine ⟨sc, ns, 5, rfl, s0.sqL hsc, by decide, fun x5 => ?_⟩
 lk
 refine ⟨M5 (by z_go), fun p1 hp1 => ?_⟩
 have s1 := B1.new hp1 (.lst [.int x4, .int x5])
 have e1 : (upd H p1 (.lst [.int x4, .int x5])) p1 = some (.lst [.int x4, .int x5]) := A8
 generalize upd H p1 (.lst [.int x4, .int x5]) = H1 at *
 lk
 refine ⟨sc, ns, 6, rfl, (B1.tr s0 s1).sqL hsc, by decide, fun x6 => ?_⟩
 lk
 have m0 := Int.emod_nonneg x6 (show (2 : Int) ≠ 0 by decide)
 have m1 := Int.emod_lt_of_pos x6 (show (0 : Int) < 2 by decide)
 obtain ⟨k, hk⟩ : ∃ k : Nat, 1 + x6 % 2 = (k : Int) := ⟨(1 + x6 % 2).toNat, by omega⟩
 have hk1 : 1 <= k := by omega
 have hk2 : k <= 2 := by omega
 rw [hk]
 refine qt6 (SqL.of e1) fun p2 hp2 => ?_
 rw [yb5 (show k <= ([.int x4, .int x5] : List V).length from hk2)]
 have hxs : ∀ (i : Nat) (v : V), (([.int x4, .int x5] : List V).take k)[i]? = some v -> ∃ x : Int, v = .int x := fun i v hv => by
  have hm := List.mem_of_mem_take (List.mem_of_getElem? hv)
  rcases List.mem_cons.mp hm with rfl | hm
  ·exact ⟨_, rfl⟩
  ·rw [List.mem_singleton.mp hm]; exact ⟨_, rfl⟩
 have hlen : (([.int x4, .int x5] : List V).take k).length = k := by rw [List.length_take]; show min k 2 = k; omega
 generalize ([.int x4, .int x5] : List V).take k = xs at *
 have s2 := B1.new hp2 (.lst xs)
 have e2 : (upd H1 p2 (.lst xs)) p2 = some (.lst xs) := A8
 have npc : p2 ≠ c := fun z => by rw [z, s1 _ _ hc] at hp2; cases hp2
 have npd : p2 ≠ d := fun z => by rw [z, s1 _ _ hd] at hp2; cases hp2
 have s12 := B1.tr s1 s2
 have hc2 := s12 _ _ hc
 have hd2 := s12 _ _ hd
 generalize upd H1 p2 (.lst xs) = H2 at *
 have s02 := B1.tr s0 s12
 refine ⟨p2, rfl, .inl ⟨⟨_, SqL.of e2⟩, qk6 (xs := xs) (Lwl K H0 H2 sc nm a c d rs n ls.length) (.mk s02 (fun y u e _ _ => e) hc2 hd2 rfl (Nat.le_refl _) (.inl rfl) b) (fun i σ H' _ p => by cases p with | mk s k => exact SqL.of (k _ _ e2 npc npd)) ?_ ?_⟩⟩
 ·rintro i v σ H' hv ⟨s3, k3, hc3, hd3, l3, kl3, ne3, b3⟩
  rename_i ls3 kvs3 o7 o8
  obtain ⟨x, rfl⟩ := hxs i v hv
  have hi : i < xs.length := (List.getElem?_eq_some_iff.mp hv).1
  refine E3 ?_
  refine zc2 (B.same s3) (Dvs.same s3 _ _ hus) hc3 hd3 ncd (by omega) (by omega) b3 (by omega) fun ls' kvs' o8' H4 k4 tk4 hc4 hd4 l4 kl4 ne4 b4 => ?_
  exact .mk (fun y u e => k4 y u (s3 y u e) (qi2 e fc) (qi2 e fd)) (fun y u e n1 n2 => k4 y u (k3 y u e n1 n2) n1 n2) hc4 hd4 (by omega) (by omega) (.inr ne4) b4
 ·rintro σ H' ⟨s3, k3, hc3, hd3, l3, kl3, ne3, b3⟩
  rename_i ls3 kvs3 o7 o8
  refine zc1 (B.same s3) hn0 hn1 (s3.sqL hsc) hc3 hd3 ?_ (by omega) (by omega) b3 q
  rcases ne3 with h | h
  ·omega
  ·exact h
abbrev yk5 (K : Fg) : TS :=
 (G0 (tOp (L7 K) (A7 3) (tOp qo3 (O5 (A6 (tOp (E7 K) (A7 3) (tC (.int 0))) B6)) (tOp (rI (fun _ j => 0 < j) fun i j => .int (i % j)) (tOp (rI qg8 fun i j => .int (i / j)) (A7 5) (tC (.int 4))) (tC (.int 3))))) (B7 3))
def lwN (K : Fg) : TS :=
 (C6 (M8 (E4 (tOp (O0 K) (tOp (rI (fun _ j => 0 < j) fun i j => .int (i % j)) (A7 5) (tC (.int 4))) (tC (.int 3))))
 (yk5 K) G7)
 (C6 (G0 xh4 (B7 6))
 (lwL K)))
theorem yz9 {r : Row} (h : qb7 r) : Sml r := by
 have nl : ∀ {z : Str}, nmX z = true -> z.length <= 100 := fun h => by have := wa3 h; omega
 have h1 := h.la
 have h2 := h.lb
 refine ⟨nl h.n, ?_, ⟨by omega, fun x hx => nl (h.a x hx)⟩, ⟨by omega, fun x hx => nl (h.b x hx)⟩⟩
 by_cases hf : r.sort = ("frame" : Str)
 ·exact nl (h.f hf)
 ·rw [h.e hf]; decide +kernel
theorem yd0 (k : Nat) (x : Str) : (List.replicate k (B2 [x])).flatten = B2 (List.replicate k x) := by
 induction k with
 | zero => rfl
 | succ k ih => rw [List.replicate_succ, List.flatten_cons, ih, List.replicate_succ]; rfl
theorem yd1 {rs : List Row} {zs : List Str} (G : ∀ r ∈ rs, qb7 r) (hz : ∀ z ∈ zs, z ∈ rs.map G5) : Bds [] (rs.map G5 ++ zs) rs.length := by
 have hm : ∀ l ∈ rs.map G5 ++ zs, l ∈ rs.map G5 := fun l hl => (List.mem_append.mp hl).elim id (hz l)
 refine ⟨fun y hy => (by cases hy), fun i l hl => .inr ?_, fun l hl => wm8 G l (hm l hl)⟩
 obtain ⟨r, hr, rfl⟩ := List.mem_map.mp (hm l (List.mem_of_getElem? hl))
 rw [(Q8 (G r hr)).2]; exact fun z => by cases z
theorem zc4 {D : P4} {H0 : Hp} {sc nm a c : Addr} {us : List V} {rs : List Row} {n : Int} {ns : List Int} (s0 : B1 H0 H) (fc : H0 c = none) (B : Bok K H0 a us rs) (hus : Dvs K H0 (rs.map Row.da) us) (hn0 : 0 <= n) (hn1 : n < 10 ^ 9) (hsc : SqL K H0 sc (ns.map V.int)) (hc : H c = some (.lst (B2 (rs.map G5)))) (q : ∀ H', D.rt (.bl true) H') : lwN K D [some (.ref sc), some (.ref nm), some (.ref a), some (.ref c), some (.str (txt rs)), some (.int n), none, none, none, none, none] H := by
 have hz := B.z
 have hN := B.n
 have go : ∀ {c : Addr} {zs : List Str} {H1 : Hp}, B1 H0 H1 -> H0 c = none -> H1 c = some (.lst (B2 (rs.map G5 ++ zs))) -> (∀ z ∈ zs, z ∈ rs.map G5) -> zs.length <= 2 -> (C6 (G0 xh4 (B7 6)) (lwL K)) D [some (.ref sc), some (.ref nm), some (.ref a), some (.ref c), some (.str (txt rs)), some (.int n), none, none, none, none, none] H1 := by
  intro c zs H1 s1 fc1 hc1 hzs hzl
  lk
  intro d hdn
  have s2 := B1.tr s1 (B1.new hdn (.dK []))
  have ncd : c ≠ d := qi2 hc1 hdn
  refine E3 ?_
  refine zc3 s2 fc1 (wy1 s1 hdn) ncd B hus hn0 hn1 hsc (by rw [B8 ncd]; exact hc1) A8 ?_ ?_ (yd1 B.G hzs) q
  ·rw [List.length_append, List.length_map]; omega
  ·rw [List.length_append, List.length_map]; omega
 unfold lwN
 lk
 by_cases h3 : n % 4 = 3
 ·rw [decide_eq_true h3]
  x_go
  obtain ⟨r0, hr0⟩ : ∃ r0, rs[0]? = some r0 := ⟨_, List.getElem?_eq_getElem (by omega)⟩
  have i0 := Int.emod_nonneg (n / 4) (show (3 : Int) ≠ 0 by decide)
  have i1 := Int.emod_lt_of_pos (n / 4) (show (0 : Int) < 3 by decide)
  lk
  refine L8 (SqL.of hc) (v := .str (G5 r0)) (D7 (j := 0) (by unfold B2; rw [List.getElem?_map, List.getElem?_map, hr0]; rfl)) ?_
  lk
  refine ⟨M5 (by z_go), fun p1 hp1 => ?_⟩
  have s1 := B1.new hp1 (.lst [.str (G5 r0)])
  have e1 : (upd H p1 (.lst [.str (G5 r0)])) p1 = some (.lst (B2 [G5 r0])) := A8
  generalize upd H p1 (.lst [.str (G5 r0)]) = H1 at *
  lk
  refine .inr (.inr ⟨p1, _, _, rfl, rfl, e1, by omega, by omega, ?_, fun p2 hp2 => ?_⟩)
  ·show 1 * _ <= _
   rw [Nat.one_mul, sizeLine_eq]; omega
  rw [yd0]
  have hzl : (List.replicate (n / 4 % 3).toNat (G5 r0)).length <= 2 := by rw [List.length_replicate]; omega
  have hzs : ∀ z ∈ List.replicate (n / 4 % 3).toNat (G5 r0), z ∈ rs.map G5 := fun z hz => by
   rw [List.eq_of_mem_replicate hz]; exact List.mem_map_of_mem (List.mem_of_getElem? hr0)
  generalize List.replicate (n / 4 % 3).toNat (G5 r0) = zs at *
  have s2 := B1.new hp2 (.lst (B2 zs))
  have s12 := B1.tr s1 s2
  refine wt6 (s12 _ _ hc) A8 (M5 (by rw [C1, C1, List.length_map]; omega)) fun p3 hp3 => ?_
  rw [qg2]
  have s3 := B1.tr s12 (B1.new hp3 (.lst (B2 (rs.map G5 ++ zs))))
  refine E3 ?_
  exact go (B1.tr s0 s3) (wy1 (B1.tr s0 s12) hp3) A8 hzs hzl
 ·rw [decide_eq_false h3]
  k_go
  exact go (zs := []) s0 fc (by rw [List.append_nil]; exact hc) (fun z hz => by cases hz) (Nat.zero_le _)
abbrev yd2 (K : Fg) : TS :=
 (C6 (G0 (tOp (rI (fun _ j => 0 < j) fun i j => .int (i % j)) (C8 (E9 K) [] E0 (A6 (A7 0) (A6 (tC (.int 3)) B6))) (tOp (rI xv0 fun i j => .int (i ^ j.toNat)) (tC (.int 10)) (tC (.int 9)))) (B7 5))
 (lwN K))
abbrev yd3 (K : Fg) : TS :=
 (C6 (G0 (tBM K "str" (qo4 K) (tC (.str ("\n" : Str))) (A6 (A7 3) B6)) (B7 4))
 (yd2 K))
abbrev yd4 (K : Fg) : TS :=
 (C6 (G0 (P7 [none] (qh6 K (A7 2)) (B7 0) tTT (C8 (U7 K) [] E0 (A6 (A7 0) B6))) (B7 3))
 (yd3 K))
abbrev yd5 (K : Fg) : TS :=
 (C6 (G0 (C8 (Y5 K) [] E0 (A6 (A7 0) (A6 (tC (.int 8)) (A6 (A7 1) B6)))) (B7 2))
 (yd4 K))
def wb0 (K : Fg) : Sp := fun vs H Q _ => ∃ (a : Addr) (ns : List Int), vs = [.ref a] /\ SqL K H a (ns.map V.int) /\ ns.length <= 63 /\ ∀ H', Q (.bl true) H'
theorem yk6 (K : Fg) : ∀ vs H Q E, wb0 K vs H Q E -> vs.length = ["_law_script"].length := by rintro vs H Q E ⟨a, ns, rfl, _⟩; rfl
def xp2 (K : Fg) : TS :=
 (C6 (G0 (C8 (W7 K) [] E0 (A6 (C8 (E9 K) [] E0 (A6 (A7 0) (A6 (tC (.int 0)) B6))) (A6 (C8 (E9 K) [] E0 (A6 (A7 0) (A6 (tC (.int 1)) B6))) (A6 (tOp (L7 K) (tC (.int 1)) (tOp (rI (fun _ j => 0 < j) fun i j => .int (i % j)) (C8 (E9 K) [] E0 (A6 (A7 0) (A6 (tC (.int 2)) B6))) (tC (.int 12)))) B6)))) (B7 1))
 (yd5 K))
theorem yu7 (h : wb0 K vs H Q E) : xp2 K { nx := fun _ H' => Q .non H', rt := Q } (M2 ["_law_script", "_law_names_here", "_law_rows_here", "_law_lines", "_law_text", "_law_number", "_law_bad", "_law_cell", "_law_k", "_law_due", "_law_some_here"] vs) H := by
 obtain ⟨sc, ns, rfl, hsc, _, q⟩ := h
 show xp2 K _ [some (.ref sc), none, none, none, none, none, none, none, none, none, none] H
 unfold xp2
 lk
 refine ⟨sc, ns, 0, rfl, hsc, by decide, fun c0 => ?_⟩
 lk
 refine ⟨sc, ns, 1, rfl, hsc, by decide, fun c1 => ?_⟩
 lk
 refine ⟨sc, ns, 2, rfl, hsc, by decide, fun c2 => ?_⟩
 lk
 have m0 := Int.emod_nonneg c2 (show (12 : Int) ≠ 0 by decide)
 have m1 := Int.emod_lt_of_pos c2 (show (0 : Int) < 12 by decide)
 refine ⟨c0, c1, 1 + c2 % 12, rfl, by omega, by omega, fun nm names H1 s1 _ hnm hl nd hk => ?_⟩
 have hnl : names.length <= 12 := by omega
 lk
 refine ⟨sc, nm, ns, 8, names, rfl, s1.sqL hsc, by decide, hnm, by omega, nd, hk, fun a us rs H2 s2 _ ha hd M => ?_⟩
 have hrl : rs.length = names.length := by have := M.names.length_eq; rwa [List.length_map] at this
 have lus : us.length = rs.length := by have := hd.length; simpa using this
 have G := yu2 M nd hk hnl
 have s12 := B1.tr s1 s2
 have B : Bok K H2 a us rs := ⟨ha, lus, by omega, by omega, G, fun r hr => yz9 (G r hr), yc6 M nd hk hnl⟩
 lk
 refine qz6 (.inl (SqL.of ha)) B1.refl' (fun i ys H' => B1 H2 H' /\ ys = B2 ((rs.take i).map G5)) ⟨B1.refl', rfl⟩ ?_ (fun i ys H' p => p.1) ?_ ?_
 ·rintro i ys H' hi ⟨_, rfl⟩
  rw [C1, List.length_map, List.length_take]
  exact M5 (by omega)
 ·rintro i x ys H' hx ⟨s3, rfl⟩
  obtain ⟨dd, hd3, hd4⟩ := (Dvs.same s3 _ _ hd).get' hx
  rw [List.getElem?_map] at hd3
  obtain ⟨r2, hr2, rfl⟩ := Option.map_eq_some_iff.mp hd3
  lk
  refine ⟨x, r2, rfl, hd4, G r2 (List.mem_of_getElem? hr2), fun H4 s4 => ?_⟩
  refine ⟨B1.tr s3 s4, ?_⟩
  rw [List.take_add_one, hr2, List.map_append]
  unfold B2
  rw [List.map_append]; rfl
 ·rintro ys H3 ⟨s3, rfl⟩ c hc
  rw [lus, List.take_length]
  have s4 := B1.new hc (.lst (B2 (rs.map G5)))
  have e4 : (upd H3 c (.lst (B2 (rs.map G5)))) c = some (.lst (B2 (rs.map G5))) := A8
  generalize upd H3 c (.lst (B2 (rs.map G5))) = H4 at *
  have s04 := B1.tr s3 s4
  lk
  refine ⟨rfl, ?_⟩
  lk
  refine ⟨_, c, rs.map G5, rfl, rfl, .inl (SqL.of e4), xp0 (wm8 G) (by rw [List.length_map]; omega), ?_⟩
  rw [qb8]
  lk
  refine ⟨sc, ns, 3, rfl, (B1.tr s12 s04).sqL hsc, by decide, fun c3 => ?_⟩
  lk
  refine ym7 ⟨by decide, by decide, by decide⟩ ?_
  have p0 : (0 : Int) < 10 ^ (9 : Int).toNat := by decide
  lk
  have n0 := Int.emod_nonneg c3 (show (10 : Int) ^ (9 : Int).toNat ≠ 0 by decide)
  have n1 := Int.emod_lt_of_pos c3 p0
  exact zc4 s04 (wy1 s3 hc) B hd n0 n1 (s12.sqL hsc) e4 q
end My
namespace My
open PySem L2 PyProof.Rows
set_option maxHeartbeats 0
noncomputable def top (i : Nat) : Stmt := PySem.Challenge.pw_tagmend_k04_texts_without_the_form.main.body.getD i (.Pass ⟨0, 0, 0, 0⟩)
def za0 (s : Stmt) (j : Nat) : Stmt := match s with
 | .ClassDef _ _ _ b _ _ _ _ _ _ _ => b.getD j (.Pass ⟨0, 0, 0, 0⟩)
 | _ => .Pass ⟨0, 0, 0, 0⟩
abbrev wb1 : Stmt := top 12
abbrev N9 : Stmt := top 13
abbrev qe3 : Stmt := top 14
abbrev wm9 : Stmt := top 15
abbrev wb2 : Stmt := top 16
abbrev wb3 : Stmt := top 17
abbrev qr2 : Stmt := top 18
abbrev qb9 : Stmt := top 19
abbrev qj3 : Stmt := top 20
abbrev xl1 : Stmt := top 21
abbrev ql9 : Stmt := top 22
abbrev qj4 : Stmt := top 23
abbrev qe4 : Stmt := top 24
abbrev qr3 : Stmt := top 25
abbrev U8 : Stmt := top 26
abbrev qm0 : Stmt := top 37
abbrev qm1 : Stmt := top 38
abbrev qr4 : Stmt := top 39
abbrev qc0 : Stmt := top 40
abbrev qm2 : Stmt := top 41
abbrev qc1 : Stmt := top 43
abbrev qr5 : Stmt := top 44
abbrev qm3 : Stmt := top 45
abbrev U9 : Stmt := top 46
abbrev qe5 : Stmt := top 47
abbrev N5 : Stmt := top 48
abbrev qm4 : Stmt := top 49
abbrev Y1 : Stmt := top 50
abbrev qm5 : Stmt := top 51
abbrev wb7 : Stmt := top 52
abbrev qr6 : Stmt := za0 (top 29) 0
set_option genInjectivity false in
structure Fa where
 a : Addr
 d : FuncData
structure Fok (K : Fg) (mg : Str -> Option Value) (x : Str) (st : Stmt) (ps : List Str) (f : Fa) : Prop where
 F : Fun K x x st f.a f.d
 b : qs1 K f.d ps []
 m : mg x = some (.ref f.a)
set_option genInjectivity false in
structure Adr where
 f_is_name : Fa
 f_has_letters_of_name : Fa
 f_is_rising : Fa
 f_row_of : Fa
 f_sort_of : Fa
 f_host_of : Fa
 f_frame_of : Fa
 f_first_misfit : Fa
 f_first_rows : Fa
 f_fits : Fa
 f_host_fits : Fa
 f_comes_back : Fa
 f_shuts_fit : Fa
 f_bars_fit : Fa
 f_may_be_named : Fa
 f_read_book : Fa
 f_read_rows : Fa
 f_read_row : Fa
 f_names_behind : Fa
 f_words_for : Fa
 f__law_cell_at : Fa
 f__law_pot : Fa
 f__law_take : Fa
 f__law_names : Fa
 f__law_some : Fa
 f__law_rows : Fa
 f__law_line : Fa
 f__law_bad_line : Fa
 f__law_told : Fa
 f_law : Fa
 a_i_NoText : Addr
 d_i_NoText : FuncData
 c_SORTS : Addr
 c_HOST_SORTS : Addr
 c_SHUT_OR_BARRED_SORTS : Addr
 c_KEYWORDS : Addr
 v_LONGEST_NAME : Value
 v_MOST_ROWS : Value
 v_NAME : Value
 v_SORT : Value
 v_HOST : Value
 v_SHUTS : Value
 v_BARS : Value
 k_Ended : Addr
 k_NoBook : Addr
 k_NoFit : Addr
 k_NoPlace : Addr
 k_NoSpot : Addr
 k_NoText : Addr
 k_NotEnded : Addr
 k_TagError : Addr
structure Txt (K : Fg) (mg : Str -> Option Value) (t : Adr) : Prop where
 f_is_name : Fok K mg "is_name" wb1 ["word"] t.f_is_name
 f_has_letters_of_name : Fok K mg "has_letters_of_name" N9 ["word"] t.f_has_letters_of_name
 f_is_rising : Fok K mg "is_rising" qe3 ["names"] t.f_is_rising
 f_row_of : Fok K mg "row_of" wm9 ["rows", "name"] t.f_row_of
 f_sort_of : Fok K mg "sort_of" wb2 ["book", "name"] t.f_sort_of
 f_host_of : Fok K mg "host_of" wb3 ["book", "name"] t.f_host_of
 f_frame_of : Fok K mg "frame_of" qr2 ["book", "name"] t.f_frame_of
 f_first_misfit : Fok K mg "first_misfit" qb9 ["rows"] t.f_first_misfit
 f_first_rows : Fok K mg "first_rows" qj3 ["rows"] t.f_first_rows
 f_fits : Fok K mg "fits" xl1 ["rows", "row"] t.f_fits
 f_host_fits : Fok K mg "host_fits" ql9 ["rows", "row"] t.f_host_fits
 f_comes_back : Fok K mg "comes_back" qj4 ["rows", "name"] t.f_comes_back
 f_shuts_fit : Fok K mg "shuts_fit" qe4 ["rows", "row"] t.f_shuts_fit
 f_bars_fit : Fok K mg "bars_fit" qr3 ["rows", "row"] t.f_bars_fit
 f_may_be_named : Fok K mg "may_be_named" U8 ["rows", "names"] t.f_may_be_named
 f_read_book : Fok K mg "read_book" qm0 ["text"] t.f_read_book
 f_read_rows : Fok K mg "read_rows" qm1 ["text"] t.f_read_rows
 f_read_row : Fok K mg "read_row" qr4 ["words"] t.f_read_row
 f_names_behind : Fok K mg "names_behind" qc0 ["keyword", "words"] t.f_names_behind
 f_words_for : Fok K mg "words_for" qm2 ["names"] t.f_words_for
 f__law_cell_at : Fok K mg "_law_cell_at" qc1 ["_law_script", "_law_k"] t.f__law_cell_at
 f__law_pot : Fok K mg "_law_pot" qr5 ["_law_cell"] t.f__law_pot
 f__law_take : Fok K mg "_law_take" qm3 ["_law_pot_here", "_law_most"] t.f__law_take
 f__law_names : Fok K mg "_law_names" U9 ["_law_cell", "_law_where", "_law_lots"] t.f__law_names
 f__law_some : Fok K mg "_law_some" qe5 ["_law_pot_here", "_law_names_here"] t.f__law_some
 f__law_rows : Fok K mg "_law_rows" N5 ["_law_script", "_law_at", "_law_names_here"] t.f__law_rows
 f__law_line : Fok K mg "_law_line" qm4 ["_law_row"] t.f__law_line
 f__law_bad_line : Fok K mg "_law_bad_line" Y1 ["_law_row", "_law_number"] t.f__law_bad_line
 f__law_told : Fok K mg "_law_told" qm5 ["_law_text"] t.f__law_told
 f_law : Fok K mg "law" wb7 ["_law_script"] t.f_law
 F_i_NoText : Fun K "__init__" "NoText.__init__" qr6 t.a_i_NoText t.d_i_NoText
 b_i_NoText : qs1 K t.d_i_NoText ["self", "row"] []
 m_i_NoText : InI K mg "NoText" t.k_NoText t.a_i_NoText
 g_SORTS : mg "SORTS" = some (.ref t.c_SORTS)
 q_SORTS : ∀ H : Hp, SqT K H t.c_SORTS [.str ("bare" : Str), .str ("plain" : Str), .str ("anew" : Str), .str ("room" : Str), .str ("frame" : Str)]
 g_HOST_SORTS : mg "HOST_SORTS" = some (.ref t.c_HOST_SORTS)
 q_HOST_SORTS : ∀ H : Hp, SqT K H t.c_HOST_SORTS [.str ("plain" : Str), .str ("frame" : Str)]
 g_SHUT_OR_BARRED_SORTS : mg "SHUT_OR_BARRED_SORTS" = some (.ref t.c_SHUT_OR_BARRED_SORTS)
 q_SHUT_OR_BARRED_SORTS : ∀ H : Hp, SqT K H t.c_SHUT_OR_BARRED_SORTS [.str ("plain" : Str), .str ("anew" : Str)]
 g_KEYWORDS : mg "KEYWORDS" = some (.ref t.c_KEYWORDS)
 q_KEYWORDS : ∀ H : Hp, SqT K H t.c_KEYWORDS [.str ("shuts" : Str), .str ("bars" : Str)]
 g_LONGEST_NAME : mg "LONGEST_NAME" = some t.v_LONGEST_NAME /\ G8 (.int 8) t.v_LONGEST_NAME
 g_MOST_ROWS : mg "MOST_ROWS" = some t.v_MOST_ROWS /\ G8 (.int 12) t.v_MOST_ROWS
 g_NAME : mg "NAME" = some t.v_NAME /\ G8 (.int 0) t.v_NAME
 g_SORT : mg "SORT" = some t.v_SORT /\ G8 (.int 1) t.v_SORT
 g_HOST : mg "HOST" = some t.v_HOST /\ G8 (.int 2) t.v_HOST
 g_SHUTS : mg "SHUTS" = some t.v_SHUTS /\ G8 (.int 3) t.v_SHUTS
 g_BARS : mg "BARS" = some t.v_BARS /\ G8 (.int 4) t.v_BARS
 z_ValueError : mg "ValueError" = none
 z_all : mg "all" = none
 z_bool : mg "bool" = none
 z_enumerate : mg "enumerate" = none
 z_int : mg "int" = none
 z_isinstance : mg "isinstance" = none
 z_len : mg "len" = none
 z_list : mg "list" = none
 z_min : mg "min" = none
 z_range : mg "range" = none
 z_reversed : mg "reversed" = none
 z_sorted : mg "sorted" = none
 z_str : mg "str" = none
 z_tuple : mg "tuple" = none
 z_zip : mg "zip" = none
 n_Ended : mg "Ended" = some (.ref t.k_Ended)
 n_NoBook : mg "NoBook" = some (.ref t.k_NoBook)
 n_NoFit : mg "NoFit" = some (.ref t.k_NoFit)
 n_NoPlace : mg "NoPlace" = some (.ref t.k_NoPlace)
 n_NoSpot : mg "NoSpot" = some (.ref t.k_NoSpot)
 n_NoText : mg "NoText" = some (.ref t.k_NoText)
 n_NotEnded : mg "NotEnded" = some (.ref t.k_NotEnded)
 n_TagError : mg "TagError" = some (.ref t.k_TagError)
 er : Ers K t.k_Ended t.k_NoBook t.k_NoFit t.k_NoPlace t.k_NoSpot t.k_NoText t.k_NotEnded t.k_TagError
 y_NoText_TagError : PySem.W.exmOne K (.ref t.k_NoText) (.ref t.k_TagError) = some true
 se_NoText : SeI K t.k_NoText "row"
 ei_NoText : ExI K t.k_NoText "row"
 ba_TagError : BaI K mg "TagError" t.k_TagError
section
variable {P : Program} {w : World} {K : Fg} {mg : Str -> Option Value} {base : Heap} {t : Adr}
theorem wn0 : G1 ["word"] ["word"] (B9 wb1) := ⟨rfl, rfl, rfl, by decide +kernel, rfl, by decide +kernel, by decide +kernel⟩
theorem V0 : G1 ["word"] ["word"] (B9 N9) := ⟨rfl, rfl, rfl, by decide +kernel, rfl, by decide +kernel, by decide +kernel⟩
theorem qw1 : G1 ["names"] ["names"] (B9 qe3) := ⟨rfl, rfl, rfl, by decide +kernel, rfl, by decide +kernel, by decide +kernel⟩
theorem wv2 : G1 ["rows", "name", "row"] ["rows", "name"] (B9 wm9) := ⟨rfl, rfl, rfl, by decide +kernel, rfl, by decide +kernel, by decide +kernel⟩
theorem wn1 : G1 ["book", "name", "row"] ["book", "name"] (B9 wb2) := ⟨rfl, rfl, rfl, by decide +kernel, rfl, by decide +kernel, by decide +kernel⟩
theorem wn2 : G1 ["book", "name", "row"] ["book", "name"] (B9 wb3) := ⟨rfl, rfl, rfl, by decide +kernel, rfl, by decide +kernel, by decide +kernel⟩
theorem wb8 : G1 ["book", "name", "row"] ["book", "name"] (B9 qr2) := ⟨rfl, rfl, rfl, by decide +kernel, rfl, by decide +kernel, by decide +kernel⟩
theorem qj8 : G1 ["rows", "counted", "number", "row", "told_before"] ["rows"] (B9 qb9) := ⟨rfl, rfl, rfl, by decide +kernel, rfl, by decide +kernel, by decide +kernel⟩
theorem qo8 : G1 ["rows", "counted", "row"] ["rows"] (B9 qj3) := ⟨rfl, rfl, rfl, by decide +kernel, rfl, by decide +kernel, by decide +kernel⟩
theorem xp3 : G1 ["rows", "row"] ["rows", "row"] (B9 xl1) := ⟨rfl, rfl, rfl, by decide +kernel, rfl, by decide +kernel, by decide +kernel⟩
theorem qw2 : G1 ["rows", "row"] ["rows", "row"] (B9 ql9) := ⟨rfl, rfl, rfl, by decide +kernel, rfl, by decide +kernel, by decide +kernel⟩
theorem qo9 : G1 ["rows", "name", "host", "step"] ["rows", "name"] (B9 qj4) := ⟨rfl, rfl, rfl, by decide +kernel, rfl, by decide +kernel, by decide +kernel⟩
theorem qw3 : G1 ["rows", "row", "hosts"] ["rows", "row"] (B9 qe4) := ⟨rfl, rfl, rfl, by decide +kernel, rfl, by decide +kernel, by decide +kernel⟩
theorem wb9 : G1 ["rows", "row"] ["rows", "row"] (B9 qr3) := ⟨rfl, rfl, rfl, by decide +kernel, rfl, by decide +kernel, by decide +kernel⟩
theorem qj9 : G1 ["rows", "names"] ["rows", "names"] (B9 U8) := ⟨rfl, rfl, rfl, by decide +kernel, rfl, by decide +kernel, by decide +kernel⟩
theorem qa2 : G1 ["text", "rows", "misfit"] ["text"] (B9 qm0) := ⟨rfl, rfl, rfl, by decide +kernel, rfl, by decide +kernel, by decide +kernel⟩
theorem qa3 : G1 ["text", "rows", "number", "line", "row"] ["text"] (B9 qm1) := ⟨rfl, rfl, rfl, by decide +kernel, rfl, by decide +kernel, by decide +kernel⟩
theorem wc0 : G1 ["words", "host", "start", "shuts", "bars"] ["words"] (B9 qr4) := ⟨rfl, rfl, rfl, by decide +kernel, rfl, by decide +kernel, by decide +kernel⟩
theorem qk0 : G1 ["keyword", "words", "names", "word"] ["keyword", "words"] (B9 qc0) := ⟨rfl, rfl, rfl, by decide +kernel, rfl, by decide +kernel, by decide +kernel⟩
theorem qw4 : G1 ["names"] ["names"] (B9 qm2) := ⟨rfl, rfl, rfl, by decide +kernel, rfl, by decide +kernel, by decide +kernel⟩
theorem qk1 : G1 ["_law_script", "_law_k"] ["_law_script", "_law_k"] (B9 qc1) := ⟨rfl, rfl, rfl, by decide +kernel, rfl, by decide +kernel, by decide +kernel⟩
theorem wc1 : G1 ["_law_cell", "_law_number", "_law_j", "_law_more"] ["_law_cell"] (B9 qr5) := ⟨rfl, rfl, rfl, by decide +kernel, rfl, by decide +kernel, by decide +kernel⟩
theorem qw5 : G1 ["_law_pot_here", "_law_most", "_law_number"] ["_law_pot_here", "_law_most"] (B9 qm3) := ⟨rfl, rfl, rfl, by decide +kernel, rfl, by decide +kernel, by decide +kernel⟩
theorem qp0 : G1 ["_law_cell", "_law_where", "_law_lots", "_law_letters", "_law_pot_here", "_law_first", "_law_base", "_law_there", "_law_at_first", "_law_names_here", "_law_k", "_law_name"] ["_law_cell", "_law_where", "_law_lots"] (B9 U9) := ⟨rfl, rfl, rfl, by decide +kernel, rfl, by decide +kernel, by decide +kernel⟩
theorem qw6 : G1 ["_law_pot_here", "_law_names_here"] ["_law_pot_here", "_law_names_here"] (B9 qe5) := ⟨rfl, rfl, rfl, by decide +kernel, rfl, by decide +kernel, by decide +kernel⟩
theorem qw7 : G1 ["_law_script", "_law_at", "_law_names_here", "_law_pots", "_law_sorts", "_law_hosts", "_law_k", "_law_free", "_law_able", "_law_rows_here", "_law_shuts", "_law_row"] ["_law_script", "_law_at", "_law_names_here"] (B9 N5) := ⟨rfl, rfl, rfl, by decide +kernel, rfl, by decide +kernel, by decide +kernel⟩
theorem qw8 : G1 ["_law_row", "_law_name", "_law_sort", "_law_host", "_law_shuts", "_law_bars", "_law_words_of", "_law_head", "_law_some_here"] ["_law_row"] (B9 qm4) := ⟨rfl, rfl, rfl, by decide +kernel, rfl, by decide +kernel, by decide +kernel⟩
theorem qg3 : G1 ["_law_row", "_law_number", "_law_line_here", "_law_words_of", "_law_way"] ["_law_row", "_law_number"] (B9 Y1) := ⟨rfl, rfl, rfl, by decide +kernel, rfl, by decide +kernel, by decide +kernel⟩
theorem qw9 : G1 ["_law_text", "_law_error", "e"] ["_law_text"] (B9 qm5) := ⟨rfl, rfl, rfl, by decide +kernel, rfl, by decide +kernel, by decide +kernel⟩
theorem yd6 : G1 ["_law_script", "_law_names_here", "_law_rows_here", "_law_lines", "_law_text", "_law_number", "_law_bad", "_law_cell", "_law_k", "_law_due", "_law_some_here"] ["_law_script"] (B9 wb7) := ⟨rfl, rfl, rfl, by decide +kernel, rfl, by decide +kernel, by decide +kernel⟩
theorem wc2 : G1 ["self", "row"] ["self", "row"] (B9 qr6) := ⟨rfl, rfl, rfl, by decide +kernel, rfl, by decide +kernel, by decide +kernel⟩
theorem qj5 (T : Txt K mg t) : O2 P w K mg base CX0 1 t.f_has_letters_of_name.a t.f_has_letters_of_name.d ["word"] (N2 K) := by
 refine T.f_has_letters_of_name.F.ok V0 (qg1 K) (fun cdv A outer s H vs Q E hr h => ⟨N8 K, ?_, qi3 h⟩)
 have S := V0
 refine B5 ?_
 refine D0 ?_
 exact (qp1 (xb8 ww7 ww7 B3 (C9 G9 rfl T.z_len boot_len (A0 (pv 0) A9)) (G3 rfl T.g_LONGEST_NAME.1 T.g_LONGEST_NAME.2)) (qx4 (C9 (qy4 rfl) rfl T.z_all boot_all (A0 (qc6 rfl (L6 (osc := B9 N9) (ON := ["word"]) (N := ["sign"]) (fr := [none]) (by decide +kernel) rfl rfl) (yg0 (pv 0)) (fun _ _ _ _ _ _ => (E1 (i := 0) (show List.Nodup (["sign"] : List Str) by decide +kernel) rfl (Or.inl rfl))) P5 (fun _ _ _ _ _ _ => W4) (fun _ _ _ _ _ _ => (xb8 ww7 ww7 C3 (pv 0) C3))) A9))))
theorem xa6 (T : Txt K mg t) : O2 P w K mg base CX0 1 t.f_is_rising.a t.f_is_rising.d ["names"] (Y8 K) := by
 refine T.f_is_rising.F.ok qw1 (wp6 K) (fun cdv A outer s H vs Q E hr h => ⟨qd4 K, ?_, wy2 h⟩)
 have S := qw1
 refine B5 ?_
 refine D0 ?_
 exact (C9 (qy4 rfl) rfl T.z_all boot_all (A0 (qc6 rfl (L6 (osc := B9 qe3) (ON := ["names"]) (N := ["left", "right"]) (fr := [none, none]) (by decide +kernel) rfl rfl) (yr3 rfl T.z_zip (A0 (pv 0) (A0 (R4 xm8 (pv 0) (V9 B3) V8) A9))) (fun _ _ _ _ _ _ => (qx5 rfl (N6 (E1 (i := 0) (show List.Nodup (["left", "right"] : List Str) by decide +kernel) rfl (Or.inl rfl)) (N6 (E1 (i := 1) (show List.Nodup (["left", "right"] : List Str) by decide +kernel) rfl (Or.inl rfl)) qm8)))) (yp1 (xm1 rfl (xm1 rfl yp0))) (fun _ _ _ _ _ _ => W4) (fun _ _ _ _ _ _ => (Y3 ww6 (pv 0) (pv 1) (D6 _)))) A9))
theorem qn5 (T : Txt K mg t) : O2 P w K mg base CX0 1 t.f_row_of.a t.f_row_of.d ["rows", "name"] (S4 K) := by
 refine T.f_row_of.F.ok wv2 (xj9 K) (fun cdv A outer s H vs Q E hr h => ⟨qu1 K, ?_, xt7 h⟩)
 have S := wv2
 refine B0 ?_ ?_
 ·refine T1 PassesOwn.never rfl ?_ ?_ ?_
  ·exact (T2 (pv 0))
  ·exact (E1 (i := 2) S.nd rfl (Or.inl rfl))
  ·refine B5 ?_
   refine J0 ?_ ?_ ?_
   ·exact (C4 (M3 (Q4 hr)) (D9 (C0 (C7 hr)) (pv 2) (G3 rfl T.g_NAME.1 T.g_NAME.2) (fun _ _ => rfl)) (pv 1) (D6 _))
   ·refine B5 ?_
    exact (D0 (pv 2))
   ·exact D5
 refine B5 ?_
 exact (D0 O7)
theorem qm6 (T : Txt K mg t) : O2 P w K mg base CX0 1 t.f_frame_of.a t.f_frame_of.d ["book", "name"] (S5 K) := by
 refine T.f_frame_of.F.ok wb8 (wx3 K) (fun cdv A outer s H vs Q E hr h => ⟨qp9 K, ?_, xe2 h⟩)
 have S := wb8
 refine B0 ?_ ?_
 ·refine T1 PassesOwn.never rfl ?_ ?_ ?_
  ·exact (T2 (pv 0))
  ·exact (E1 (i := 2) S.nd rfl (Or.inl rfl))
  ·refine B5 ?_
   refine J0 ?_ ?_ ?_
   ·exact (PW.pt (xu7 (C4 (M3 (Q4 hr)) (D9 (C0 (C7 hr)) (pv 2) (G3 rfl T.g_SORT.1 T.g_SORT.2) (fun _ _ => rfl)) C3 (D6 _)) (xl2 (C4 (M3 (Q4 hr)) (D9 (C0 (C7 hr)) (pv 2) (G3 rfl T.g_HOST.1 T.g_HOST.2) (fun _ _ => rfl)) (pv 1) (D6 _)))))
   ·refine B5 ?_
    exact (D0 (D9 (C0 (C7 hr)) (pv 2) (G3 rfl T.g_NAME.1 T.g_NAME.2) (fun _ _ => rfl)))
   ·exact D5
 refine B5 ?_
 exact (D0 O7)
theorem qx0 (T : Txt K mg t) : O2 P w K mg base CX0 1 t.f_words_for.a t.f_words_for.d ["names"] (U4 K) := by
 refine T.f_words_for.F.ok qw4 (wq4 K) (fun cdv A outer s H vs Q E hr h => ⟨qd8 K, ?_, wz0 h⟩)
 have S := qw4
 refine B5 ?_
 exact (D0 (qr9 (C4 (M3 (Q4 hr)) (C9 G9 rfl T.z_len boot_len (A0 (pv 0) A9)) B3 (D6 _)) B3 (C5 E8 B3 (C9 G9 rfl T.z_len boot_len (A0 (pv 0) A9)))))
theorem M1 (T : Txt K mg t) : O2 P w K mg base CX0 1 t.f__law_cell_at.a t.f__law_cell_at.d ["_law_script", "_law_k"] (E9 K) := by
 refine T.f__law_cell_at.F.ok qk1 (qz2 K) (fun cdv A outer s H vs Q E hr h => ⟨T3 K, ?_, wd2 h⟩)
 have S := qk1
 refine B0 ?_ ?_
 ·refine J0 ?_ ?_ ?_
  ·exact (C4 ww6 (pv 1) (C9 G9 rfl T.z_len boot_len (A0 (pv 0) A9)) (D6 _))
  ·refine B5 ?_
   exact (D0 (D9 (C0 (C7 hr)) (pv 0) (pv 1) (fun _ _ => rfl)))
  ·exact D5
 refine B5 ?_
 exact (D0 B3)
theorem wc3 (T : Txt K mg t) : O2 P w K mg base CX0 1 t.f__law_pot.a t.f__law_pot.d ["_law_cell"] (S6 K) := by
 refine T.f__law_pot.F.ok wc1 (wx4 K) (fun cdv A outer s H vs Q E hr h => ⟨qi0 K, ?_, xe3 h⟩)
 have S := wc1
 refine B0 ?_ ?_
 ·refine J0 ?_ ?_ ?_
  ·exact (C4 (M3 (Q4 hr)) (C5 M6 (pv 0) B3) B3 (D6 _))
  ·refine B5 ?_
   exact (D0 (I9 (A0 (C5 O6 (pv 0) B3) A9)))
  ·exact D5
 refine B0 ?_ ?_
 ·refine D4 (i := 1) S.nd rfl (Or.inl rfl) ?_ rfl ?_
  ·exact B3
  ·walk_at "or"
 refine B0 ?_ ?_
 ·refine T1 PassesOwn.never rfl ?_ ?_ ?_
  ·exact (Q6 rfl T.z_range (A0 B3 A9))
  ·exact (E1 (i := 2) S.nd rfl (Or.inl rfl))
  ·refine B0 ?_ ?_
   ·refine D4 (i := 3) S.nd rfl (Or.inl rfl) ?_ rfl ?_
    ·exact (C5 M6 (C5 qh3 (C5 E8 (C5 E8 (C5 M6 (C5 O6 (pv 0) B3) B3) (C5 qh3 B3 (pv 2))) B3) B3) B3)
    ·walk_at "or"
   refine B0 ?_ ?_
   ·refine D4 (i := 3) S.nd rfl (Or.inl rfl) ?_ rfl ?_
    ·exact (C5 M6 (C5 E8 (C5 E8 (C5 qh3 (pv 3) (pv 3)) (C5 qh3 B3 (pv 2))) B3) B3)
    ·walk_at "or"
   refine B5 ?_
   refine D4 (i := 1) S.nd rfl (Or.inl rfl) ?_ rfl ?_
   ·exact (C5 E8 (C5 qh3 (pv 1) B3) (pv 3))
   ·walk_at "or"
 refine B5 ?_
 exact (D0 (I9 (A0 (pv 1) A9)))
theorem O4 (T : Txt K mg t) : O2 P w K mg base CX0 1 t.f__law_take.a t.f__law_take.d ["_law_pot_here", "_law_most"] (G6 K) := by
 refine T.f__law_take.F.ok qw5 (wo0 K) (fun cdv A outer s H vs Q E hr h => ⟨qd0 K, ?_, wx5 h⟩)
 have S := qw5
 refine B0 ?_ ?_
 ·refine D4 (i := 2) S.nd rfl (Or.inl rfl) ?_ rfl ?_
  ·exact (C5 M6 (D9 (C0 (C7 hr)) (pv 0) B3 (fun _ _ => rfl)) (pv 1))
  ·walk_at "or"
 refine B0 ?_ ?_
 ·exact (qk5 (C5 O6 (D9 (C0 (C7 hr)) (pv 0) B3 (fun _ _ => rfl)) (pv 1)) (qp2 (pv 0) B3 (qa8 (C7 hr))))
 refine B5 ?_
 exact (D0 (pv 2))
theorem qx1 (T : Txt K mg t) : O2 P w K mg base CX0 1 t.f__law_line.a t.f__law_line.d ["_law_row"] (U7 K) := by
 refine T.f__law_line.F.ok qw8 (wr6 K) (fun cdv A outer s H vs Q E hr h => ⟨qe1 K, ?_, xa2 h⟩)
 have S := qw8
 refine B0 ?_ ?_
 ·exact (qk5 (pv 0) (qx5 rfl (N6 (E1 (i := 1) S.nd rfl (Or.inl rfl)) (N6 (E1 (i := 2) S.nd rfl (Or.inl rfl)) (N6 (E1 (i := 3) S.nd rfl (Or.inl rfl)) (N6 (E1 (i := 4) S.nd rfl (Or.inl rfl)) (N6 (E1 (i := 5) S.nd rfl (Or.inl rfl)) qm8)))))))
 refine B0 ?_ ?_
 ·refine D4 (i := 6) S.nd rfl (Or.inl rfl) ?_ rfl ?_
  ·exact (I9 (A0 (pv 1) (A0 (pv 2) A9)))
  ·walk_at "or"
 refine B0 ?_ ?_
 ·refine J0 ?_ ?_ ?_
  ·exact (C4 (qy2 (Q4 hr)) (pv 3) C3 (D6 _))
  ·refine B5 ?_
   exact (qc3 (R5 PySem.F.plainAttrs_list PySem.F.slot_list_append PySem.F.type_list_append qa4 (pv 6) (A0 (pv 3) A9)))
  ·exact D5
 refine B0 ?_ ?_
 ·refine T1 PassesOwn.never rfl ?_ ?_ ?_
  ·exact (T2 (I9 (A0 (qe6 (A0 C3 (A0 (pv 4) A9))) (A0 (qe6 (A0 C3 (A0 (pv 5) A9))) A9))))
  ·exact (qx5 rfl (N6 (E1 (i := 7) S.nd rfl (Or.inl rfl)) (N6 (E1 (i := 8) S.nd rfl (Or.inl rfl)) qm8)))
  ·refine B5 ?_
   refine J0 ?_ ?_ ?_
   ·exact (C4 (qy2 (Q4 hr)) (pv 8) (qe6 A9) (D6 _))
   ·refine B5 ?_
    refine D4 (i := 6) S.nd rfl (Or.inl rfl) ?_ rfl ?_
    ·exact (C5 E8 (C5 E8 (pv 6) (I9 (A0 (pv 7) A9))) (S3 xh8 rfl T.z_list boot_list (A0 (pv 8) A9)))
    ·walk_at "or"
   ·exact D5
 refine B5 ?_
 exact (D0 (R5 PySem.F.plainAttrs_str PySem.F.slot_str_join PySem.F.type_str_join qc8 C3 (A0 (pv 6) A9)))
theorem wc4 (T : Txt K mg t) : O2 P w K mg base CX0 1 t.a_i_NoText t.d_i_NoText ["self", "row"] (S9 K) := by
 refine T.F_i_NoText.ok wc2 (xa0 K) (fun cdv A outer s H vs Q E hr h => ⟨qj2 K, ?_, xf8 h⟩)
 have S := wc2
 refine B0 ?_ ?_
 ·exact (qc3 (yr9 T.ba_TagError rfl (A0 (pv 0) (A0 (yr6 (pv 1)) A9))))
 refine B5 ?_
 exact (ys0 (pv 0) (pv 1) rfl)
theorem qr7 (T : Txt K mg t) : O2 P w K mg base CX0 2 t.f_is_name.a t.f_is_name.d ["word"] (V7 K) := by
 refine T.f_is_name.F.ok wn0 (xe8 K) (fun cdv A outer s H vs Q E hr h => ⟨qn2 K t.c_KEYWORDS, ?_, xk6 T.q_KEYWORDS h⟩)
 have S := wn0
 refine B5 ?_
 exact (D0 (qp1 (C2 (qj5 T) (hr.mono (by walk_at "le")) rfl T.f_has_letters_of_name.m T.f_has_letters_of_name.F.kp T.f_has_letters_of_name.b .nil E6 (A0 (pv 0) A9)) (qx4 (Y3 (qf9 (C7 hr)) (pv 0) (G3 rfl T.g_KEYWORDS rfl) (by with_unfolding_all rfl)))))
theorem wn3 (T : Txt K mg t) : O2 P w K mg base CX0 2 t.f_sort_of.a t.f_sort_of.d ["book", "name"] (qb1 K) := by
 refine T.f_sort_of.F.ok wn1 (xe0 K) (fun cdv A outer s H vs Q E hr h => ⟨qz0 K, ?_, xk0 h⟩)
 have S := wn1
 refine B0 ?_ ?_
 ·refine D4 (i := 2) S.nd rfl (Or.inl rfl) ?_ rfl ?_
  ·exact (C2 (qn5 T) (hr.mono (by walk_at "le")) rfl T.f_row_of.m T.f_row_of.F.kp T.f_row_of.b .nil E6 (A0 (pv 0) (A0 (pv 1) A9)))
  ·walk_at "or"
 refine B5 ?_
 exact (D0 (qr9 (C4 wg3 (pv 2) O7 (D6 _)) O7 (D9 (C0 (C7 hr)) (pv 2) (G3 rfl T.g_SORT.1 T.g_SORT.2) (fun _ _ => rfl))))
theorem wn4 (T : Txt K mg t) : O2 P w K mg base CX0 2 t.f_host_of.a t.f_host_of.d ["book", "name"] (qb2 K) := by
 refine T.f_host_of.F.ok wn2 (xe1 K) (fun cdv A outer s H vs Q E hr h => ⟨qz1 K, ?_, xk1 h⟩)
 have S := wn2
 refine B0 ?_ ?_
 ·refine D4 (i := 2) S.nd rfl (Or.inl rfl) ?_ rfl ?_
  ·exact (C2 (qn5 T) (hr.mono (by walk_at "le")) rfl T.f_row_of.m T.f_row_of.F.kp T.f_row_of.b .nil E6 (A0 (pv 0) (A0 (pv 1) A9)))
  ·walk_at "or"
 refine B0 ?_ ?_
 ·refine J0 ?_ ?_ ?_
  ·exact (PW.pt (qc2 (C4 wg3 (pv 2) O7 (D6 _)) (qa6 (C4 (qy2 (Q4 hr)) (D9 (C0 (C7 hr)) (pv 2) (G3 rfl T.g_SORT.1 T.g_SORT.2) (fun _ _ => rfl)) C3 (D6 _)))))
  ·refine B5 ?_
   exact (D0 O7)
  ·exact D5
 refine B5 ?_
 exact (D0 (D9 (C0 (C7 hr)) (pv 2) (G3 rfl T.g_HOST.1 T.g_HOST.2) (fun _ _ => rfl)))
theorem ws2 (T : Txt K mg t) : O2 P w K mg base CX0 2 t.f_first_rows.a t.f_first_rows.d ["rows"] (W9 K) := by
 refine T.f_first_rows.F.ok qo8 (wk9 K) (fun cdv A outer s H vs Q E hr h => ⟨Y7 K, ?_, wp5 h⟩)
 have S := qo8
 refine B0 ?_ ?_
 ·refine D4 (i := 1) S.nd rfl (Or.inl rfl) ?_ rfl ?_
  ·exact (I9 A9)
  ·walk_at "or"
 refine B0 ?_ ?_
 ·refine T1 PassesOwn.never rfl ?_ ?_ ?_
  ·exact (T2 (pv 0))
  ·exact (E1 (i := 2) S.nd rfl (Or.inl rfl))
  ·refine B5 ?_
   refine J0 ?_ ?_ ?_
   ·exact (C4 wg3 (C2 (qn5 T) (hr.mono (by walk_at "le")) rfl T.f_row_of.m T.f_row_of.F.kp T.f_row_of.b .nil E6 (A0 (pv 1) (A0 (D9 (C0 (C7 hr)) (pv 2) (G3 rfl T.g_NAME.1 T.g_NAME.2) (fun _ _ => rfl)) A9))) O7 (D6 _))
   ·refine B5 ?_
    exact (qc3 (R5 PySem.F.plainAttrs_list PySem.F.slot_list_append PySem.F.type_list_append qa4 (pv 1) (A0 (pv 2) A9)))
   ·exact D5
 refine B5 ?_
 exact (D0 (pv 1))
theorem ws3 (T : Txt K mg t) : O2 P w K mg base CX0 2 t.f__law_names.a t.f__law_names.d ["_law_cell", "_law_where", "_law_lots"] (W7 K) := by
 refine T.f__law_names.F.ok qp0 (wi9 K) (fun cdv A outer s H vs Q E hr h => ⟨Y4 K, ?_, wo2 h⟩)
 have S := qp0
 refine B0 ?_ ?_
 ·refine D4 (i := 3) S.nd rfl (Or.inr rfl) ?_ rfl ?_
  ·exact C3
  ·walk_at "or"
 refine B0 ?_ ?_
 ·refine D4 (i := 4) S.nd rfl (Or.inr rfl) ?_ rfl ?_
  ·exact (C2 (wc3 T) (hr.mono (by walk_at "le")) rfl T.f__law_pot.m T.f__law_pot.F.kp T.f__law_pot.b .nil E6 (A0 (pv 0) A9))
  ·walk_at "or"
 refine B0 ?_ ?_
 ·refine J0 ?_ ?_ ?_
  ·exact (C4 (M3 (Q4 hr)) (C2 (O4 T) (hr.mono (by walk_at "le")) rfl T.f__law_take.m T.f__law_take.F.kp T.f__law_take.b .nil E6 (A0 (pv 4) (A0 B3 A9))) B3 (D6 _))
  ·refine B0 ?_ ?_
   ·refine D4 (i := 5) S.nd rfl (Or.inr rfl) ?_ rfl ?_
    ·exact (C2 (O4 T) (hr.mono (by walk_at "le")) rfl T.f__law_take.m T.f__law_take.F.kp T.f__law_take.b .nil E6 (A0 (pv 4) (A0 B3 A9)))
    ·walk_at "or"
   refine B5 ?_
   refine D0 ?_
   exact (qc6 rfl (L6 (osc := B9 U9) (ON := ["_law_cell", "_law_where", "_law_lots", "_law_letters", "_law_pot_here", "_law_first", "_law_base", "_law_there", "_law_at_first", "_law_names_here", "_law_k", "_law_name"]) (N := ["_law_letters", "_law_first", "_law_k"]) (fr := [some 3, some 5, none]) (by decide +kernel) rfl rfl) (Q6 rfl T.z_range (A0 (pv 2) A9)) (fun _ _ _ _ _ _ => (E1 (i := 2) (show List.Nodup (["_law_letters", "_law_first", "_law_k"] : List Str) by decide +kernel) rfl (Or.inl rfl))) P5 (fun _ _ _ _ _ _ => W4) (fun _ _ _ _ _ _ => (C5 qh3 (D9 (C0 (C7 hr)) (pv 0) (C5 M6 (C5 E8 (pv 1) (C5 O6 (pv 2) B3)) B3) (fun _ _ => rfl)) (C5 E8 B3 (C5 M6 (pv 2) B3)))))
  ·exact D5
 refine B0 ?_ ?_
 ·exact (qc7 (i := 6) S.nd rfl rfl rfl (L6 (osc := B9 U9) (ON := ["_law_cell", "_law_where", "_law_lots", "_law_letters", "_law_pot_here", "_law_first", "_law_base", "_law_there", "_law_at_first", "_law_names_here", "_law_k", "_law_name"]) (N := ["_law_letters", "_law_pot_here", "_law_k"]) (fr := [some 3, some 4, none]) (by decide +kernel) rfl rfl) (Q6 rfl T.z_range (A0 (C5 E8 B3 (C2 (O4 T) (hr.mono (by walk_at "le")) rfl T.f__law_take.m T.f__law_take.F.kp T.f__law_take.b .nil E6 (A0 (pv 4) (A0 B3 A9)))) A9)) (fun _ _ _ _ _ _ => (E1 (i := 2) (show List.Nodup (["_law_letters", "_law_pot_here", "_law_k"] : List Str) by decide +kernel) rfl (Or.inl rfl))) P5 (fun _ _ _ _ _ _ => W4) (fun _ _ _ _ _ _ => (D9 (C0 (C7 hr)) (pv 0) (C2 (O4 T) (hr.mono (by walk_at "le")) rfl T.f__law_take.m T.f__law_take.F.kp T.f__law_take.b .nil E6 (A0 (pv 1) (A0 B3 A9))) (fun _ _ => rfl))))
 refine B0 ?_ ?_
 ·refine D4 (i := 7) S.nd rfl (Or.inl rfl) ?_ rfl ?_
  ·exact (C5 M6 (pv 1) (C9 G9 rfl T.z_len boot_len (A0 (pv 6) A9)))
  ·walk_at "or"
 refine B0 ?_ ?_
 ·refine D4 (i := 8) S.nd rfl (Or.inl rfl) ?_ rfl ?_
  ·exact (R5 PySem.F.plainAttrs_str PySem.F.slot_str_index PySem.F.type_str_index ww8 (pv 3) (A0 (D9 (C0 (C7 hr)) (pv 6) (pv 7) (fun _ _ => rfl)) A9))
  ·walk_at "or"
 refine B0 ?_ ?_
 ·refine D4 (i := 9) S.nd rfl (Or.inl rfl) ?_ rfl ?_
  ·exact (I9 A9)
  ·walk_at "or"
 refine B0 ?_ ?_
 ·refine T1 PassesOwn.never rfl ?_ ?_ ?_
  ·exact (Q6 rfl T.z_range (A0 (pv 2) A9))
  ·exact (E1 (i := 10) S.nd rfl (Or.inl rfl))
  ·refine B0 ?_ ?_
   ·exact (qk5 (D9 (C0 (C7 hr)) (pv 3) (C5 M6 (C5 E8 (pv 8) (pv 10)) B3) (fun _ _ => rfl)) (qp2 (pv 6) (pv 7) (qa8 (C7 hr))))
   refine B0 ?_ ?_
   ·refine D4 (i := 11) S.nd rfl (Or.inl rfl) ?_ rfl ?_
    ·exact (R5 PySem.F.plainAttrs_str PySem.F.slot_str_join PySem.F.type_str_join qc8 C3 (A0 (pv 6) A9))
    ·walk_at "or"
   refine B5 ?_
   exact (qc3 (R5 PySem.F.plainAttrs_list PySem.F.slot_list_append PySem.F.type_list_append qa4 (pv 9) (A0 (D9 (C0 (C7 hr)) (I9 (A0 (pv 11) (A0 (C5 E8 (pv 11) C3) A9))) (S3 xr6 rfl T.z_int boot_int (A0 (Y3 (wg8 (C7 hr)) (pv 11) (I9 (A0 C3 (A0 C3 A9))) (by with_unfolding_all rfl)) A9)) (fun _ _ => rfl)) A9)))
 refine B5 ?_
 exact (D0 (pv 9))
theorem qx2 (T : Txt K mg t) : O2 P w K mg base CX0 2 t.f__law_some.a t.f__law_some.d ["_law_pot_here", "_law_names_here"] (O3 K) := by
 refine T.f__law_some.F.ok qw6 (wo1 K) (fun cdv A outer s H vs Q E hr h => ⟨qd1 K, ?_, wx6 h⟩)
 have S := qw6
 refine B5 ?_
 refine D0 ?_
 exact (S3 X4 rfl T.z_tuple boot_tuple (A0 (C9 qh5 rfl T.z_sorted boot_sorted (A0 (qc6 rfl (L6 (osc := B9 qe5) (ON := ["_law_pot_here", "_law_names_here"]) (N := ["_law_pot_here", "_law_name"]) (fr := [some 0, none]) (by decide +kernel) rfl rfl) (T2 (pv 1)) (fun _ _ _ _ _ _ => (E1 (i := 1) (show List.Nodup (["_law_pot_here", "_law_name"] : List Str) by decide +kernel) rfl (Or.inl rfl))) P5 (fun _ _ _ _ _ _ => (qm9 (C4 (M3 (Q4 hr)) (C2 (O4 T) (hr.mono (by walk_at "le")) rfl T.f__law_take.m T.f__law_take.F.kp T.f__law_take.b .nil E6 (A0 (pv 0) (A0 B3 A9))) B3 (D6 _)))) (fun _ _ _ _ _ _ => (pv 1))) A9)) A9))
theorem qg4 (T : Txt K mg t) : O2 P w K mg base CX0 2 t.f__law_bad_line.a t.f__law_bad_line.d ["_law_row", "_law_number"] (P3 K) := by
 refine T.f__law_bad_line.F.ok qg3 (qw0 K) (fun cdv A outer s H vs Q E hr h => ⟨R9 K, ?_, wa9 h⟩)
 have S := qg3
 refine B0 ?_ ?_
 ·refine D4 (i := 2) S.nd rfl (Or.inl rfl) ?_ rfl ?_
  ·exact (C2 (qx1 T) (hr.mono (by walk_at "le")) rfl T.f__law_line.m T.f__law_line.F.kp T.f__law_line.b .nil E6 (A0 (pv 0) A9))
  ·walk_at "or"
 refine B0 ?_ ?_
 ·refine D4 (i := 3) S.nd rfl (Or.inl rfl) ?_ rfl ?_
  ·exact (R5 PySem.F.plainAttrs_str PySem.F.slot_str_split PySem.F.type_str_split ql3 (pv 2) (A0 C3 A9))
  ·walk_at "or"
 refine B0 ?_ ?_
 ·refine D4 (i := 4) S.nd rfl (Or.inl rfl) ?_ rfl ?_
  ·exact (C5 M6 (pv 1) B3)
  ·walk_at "or"
 refine B0 ?_ ?_
 ·refine J0 ?_ ?_ ?_
  ·exact (C4 (M3 (Q4 hr)) (pv 4) B3 (D6 _))
  ·refine B5 ?_
   exact (D0 (D9 (C0 (C7 hr)) (pv 3) B3 (fun _ _ => rfl)))
  ·exact D5
 refine B0 ?_ ?_
 ·refine J0 ?_ ?_ ?_
  ·exact (C4 (M3 (Q4 hr)) (pv 4) B3 (D6 _))
  ·refine B5 ?_
   exact (D0 (ya3 (pv 2)))
  ·exact D5
 refine B0 ?_ ?_
 ·refine J0 ?_ ?_ ?_
  ·exact (C4 (M3 (Q4 hr)) (pv 4) B3 (D6 _))
  ·refine B5 ?_
   exact (D0 (D9 (C0 (C7 hr)) (I9 (A0 (C5 E8 C3 (pv 2)) (A0 (C5 E8 (pv 2) C3) (A0 (C5 E8 (pv 2) C3) (A0 (C5 E8 (pv 2) C3) (A0 C3 A9)))))) (C5 M6 (C5 O6 (pv 1) B3) B3) (fun _ _ => rfl)))
  ·exact D5
 refine B0 ?_ ?_
 ·refine J0 ?_ ?_ ?_
  ·exact (C4 (M3 (Q4 hr)) (pv 4) B3 (D6 _))
  ·refine B5 ?_
   refine D0 ?_
   exact (R5 PySem.F.plainAttrs_str PySem.F.slot_str_join PySem.F.type_str_join qc8 C3 (A0 (C5 E8 (I9 (A0 (D9 (C0 (C7 hr)) (pv 3) B3 (fun _ _ => rfl)) (A0 (D9 (C0 (C7 hr)) (I9 (A0 C3 (A0 C3 (A0 C3 (A0 C3 A9))))) (C5 M6 (C5 O6 (pv 1) B3) B3) (fun _ _ => rfl)) A9))) (R4 qh7 (pv 3) (V9 B3) V8)) A9))
  ·exact D5
 refine B0 ?_ ?_
 ·refine J0 ?_ ?_ ?_
  ·exact (C4 (M3 (Q4 hr)) (pv 4) B3 (D6 _))
  ·refine B5 ?_
   exact (D0 (R5 PySem.F.plainAttrs_str PySem.F.slot_str_join PySem.F.type_str_join qc8 C3 (A0 (C5 E8 (I9 (A0 C3 A9)) (R4 qh7 (pv 3) (V9 B3) V8)) A9)))
  ·exact D5
 refine B0 ?_ ?_
 ·refine J0 ?_ ?_ ?_
  ·exact (C4 (M3 (Q4 hr)) (pv 4) B3 (D6 _))
  ·refine B5 ?_
   exact (D0 (R5 PySem.F.plainAttrs_str PySem.F.slot_str_join PySem.F.type_str_join qc8 C3 (A0 (C5 E8 (I9 (A0 (D9 (C0 (C7 hr)) (I9 (by repeat (first | with_reducible refine ym1 ?_ | with_reducible exact ym0))) (C5 M6 (C5 O6 (pv 1) B3) B3) (fun _ _ => rfl)) A9)) (R4 qh7 (pv 3) (V9 B3) V8)) A9)))
  ·exact D5
 refine B0 ?_ ?_
 ·refine J0 ?_ ?_ ?_
  ·exact (C4 (M3 (Q4 hr)) (pv 4) B3 (D6 _))
  ·refine B5 ?_
   exact (D0 (C5 E8 (pv 2) (D9 (C0 (C7 hr)) (I9 (by repeat (first | with_reducible refine ym1 ?_ | with_reducible exact ym0))) (C5 M6 (C5 O6 (pv 1) B3) B3) (fun _ _ => rfl))))
  ·exact D5
 refine B0 ?_ ?_
 ·refine J0 ?_ ?_ ?_
  ·exact (C4 (M3 (Q4 hr)) (pv 4) B3 (D6 _))
  ·refine B5 ?_
   refine D0 ?_
   exact (R5 PySem.F.plainAttrs_str PySem.F.slot_str_join PySem.F.type_str_join qc8 C3 (A0 (I9 (A0 (D9 (C0 (C7 hr)) (pv 0) B3 (fun _ _ => rfl)) (A0 (D9 (C0 (C7 hr)) (I9 (A0 C3 (A0 C3 (A0 C3 (A0 C3 A9))))) (C5 M6 (C5 O6 (pv 1) B3) B3) (fun _ _ => rfl)) (A0 C3 A9)))) A9))
  ·exact D5
 refine B0 ?_ ?_
 ·refine J0 ?_ ?_ ?_
  ·exact (C4 (M3 (Q4 hr)) (pv 4) B3 (D6 _))
  ·refine B5 ?_
   refine D0 ?_
   refine D9 ?_ ?_ ?_ ?_
   ·exact C0 (C7 hr)
   ·refine I9 ?_
    refine A0 ?_ ?_
    ·exact (C5 E8 (D9 (C0 (C7 hr)) (pv 0) B3 (fun _ _ => rfl)) C3)
    refine A0 ?_ ?_
    ·exact (C5 E8 (D9 (C0 (C7 hr)) (pv 0) B3 (fun _ _ => rfl)) C3)
    refine A0 ?_ ?_
    ·exact (C5 E8 (D9 (C0 (C7 hr)) (pv 0) B3 (fun _ _ => rfl)) C3)
    refine A0 ?_ ?_
    ·exact (D9 (C0 (C7 hr)) (pv 0) B3 (fun _ _ => rfl))
    exact A9
   ·exact (C5 M6 (C5 O6 (pv 1) B3) B3)
   ·exact fun _ _ => rfl
  ·exact D5
 refine B5 ?_
 exact (D0 (C5 E8 (D9 (C0 (C7 hr)) (pv 0) B3 (fun _ _ => rfl)) C3))
theorem ws4 (T : Txt K mg t) : O2 P w K mg base CX0 3 t.f_comes_back.a t.f_comes_back.d ["rows", "name"] (W8 K) := by
 refine T.f_comes_back.F.ok qo9 (wk8 K) (fun cdv A outer s H vs Q E hr h => ⟨Y6 K, ?_, wp4 h⟩)
 have S := qo9
 refine B0 ?_ ?_
 ·refine D4 (i := 2) S.nd rfl (Or.inl rfl) ?_ rfl ?_
  ·exact (C2 (wn4 T) (hr.mono (by walk_at "le")) rfl T.f_host_of.m T.f_host_of.F.kp T.f_host_of.b .nil E6 (A0 (pv 0) (A0 (pv 1) A9)))
  ·walk_at "or"
 refine B0 ?_ ?_
 ·refine T1 PassesOwn.never rfl ?_ ?_ ?_
  ·exact (Q6 rfl T.z_range (A0 (C9 G9 rfl T.z_len boot_len (A0 (pv 0) A9)) A9))
  ·exact (E1 (i := 3) S.nd rfl (Or.inl rfl))
  ·refine B0 ?_ ?_
   ·refine J0 ?_ ?_ ?_
    ·exact (C4 (M3 (Q4 hr)) (pv 2) (pv 1) (D6 _))
    ·refine B5 ?_
     exact (D0 wb4)
    ·exact D5
   refine B5 ?_
   refine D4 (i := 2) S.nd rfl (Or.inl rfl) ?_ rfl ?_
   ·exact (C2 (wn4 T) (hr.mono (by walk_at "le")) rfl T.f_host_of.m T.f_host_of.F.kp T.f_host_of.b .nil E6 (A0 (pv 0) (A0 (pv 2) A9)))
   ·walk_at "or"
 refine B5 ?_
 exact (D0 wb4)
theorem qk2 (T : Txt K mg t) : O2 P w K mg base CX0 3 t.f_may_be_named.a t.f_may_be_named.d ["rows", "names"] (P9 K) := by
 refine T.f_may_be_named.F.ok qj9 (qz8 K) (fun cdv A outer s H vs Q E hr h => ⟨T9 K t.c_SHUT_OR_BARRED_SORTS, ?_, wd4 T.q_SHUT_OR_BARRED_SORTS h⟩)
 have S := qj9
 refine B5 ?_
 refine D0 ?_
 exact (qp1 (C2 (xa6 T) (hr.mono (by walk_at "le")) rfl T.f_is_rising.m T.f_is_rising.F.kp T.f_is_rising.b .nil E6 (A0 (pv 1) A9)) (qx4 (C9 (qy4 rfl) rfl T.z_all boot_all (A0 (qc6 rfl (L6 (osc := B9 U8) (ON := ["rows", "names"]) (N := ["rows", "name"]) (fr := [some 0, none]) (by decide +kernel) rfl rfl) (T2 (pv 1)) (fun _ _ _ _ _ _ => (E1 (i := 1) (show List.Nodup (["rows", "name"] : List Str) by decide +kernel) rfl (Or.inl rfl))) P5 (fun _ _ _ _ _ _ => W4) (fun _ _ _ _ _ _ => (Y3 (wg8 (C7 hr)) (C2 (wn3 T) (hr.mono (by walk_at "le")) rfl T.f_sort_of.m T.f_sort_of.F.kp T.f_sort_of.b .nil E6 (A0 (pv 0) (A0 (pv 1) A9))) (G3 rfl T.g_SHUT_OR_BARRED_SORTS rfl) (by with_unfolding_all rfl)))) A9))))
theorem qk3 (T : Txt K mg t) : O2 P w K mg base CX0 3 t.f_names_behind.a t.f_names_behind.d ["keyword", "words"] (Q1 K) := by
 refine T.f_names_behind.F.ok qk0 (wa7 K) (fun cdv A outer s H vs Q E hr h => ⟨U5 K, ?_, wd6 h⟩)
 have S := qk0
 refine B0 ?_ ?_
 ·refine D4 (i := 2) S.nd rfl (Or.inl rfl) ?_ rfl ?_
  ·exact (I9 A9)
  ·walk_at "or"
 refine B0 ?_ ?_
 ·refine J0 ?_ ?_ ?_
  ·exact (C4 (M3 (Q4 hr)) (R4 qh7 (pv 1) V8 (V9 B3)) (I9 (A0 (pv 0) A9)) (D6 _))
  ·refine B5 ?_
   refine T1 PassesOwn.never rfl ?_ ?_ ?_
   ·exact (T2 (R4 qh7 (pv 1) (V9 B3) V8))
   ·exact (E1 (i := 3) S.nd rfl (Or.inl rfl))
   ·refine B0 ?_ ?_
    ·refine J0 ?_ ?_ ?_
     ·exact (qg6 (Q3 (C2 (qr7 T) (hr.mono (by walk_at "le")) rfl T.f_is_name.m T.f_is_name.F.kp T.f_is_name.b .nil E6 (A0 (pv 3) A9))))
     ·refine B5 ?_
      exact xu8
     ·exact D5
    refine B5 ?_
    exact (qc3 (R5 PySem.F.plainAttrs_list PySem.F.slot_list_append PySem.F.type_list_append qa4 (pv 2) (A0 (pv 3) A9)))
  ·exact D5
 refine B5 ?_
 exact (D0 (pv 2))
theorem xa7 (T : Txt K mg t) : O2 P w K mg base CX0 3 t.f__law_rows.a t.f__law_rows.d ["_law_script", "_law_at", "_law_names_here"] (Y5 K) := by
 refine T.f__law_rows.F.ok qw7 (wo3 K) (fun cdv A outer s H vs Q E hr h => ⟨qd2 K, ?_, wx9 h⟩)
 have S := qw7
 refine B0 ?_ ?_
 ·exact (qc7 (i := 3) S.nd rfl rfl rfl (L6 (osc := B9 N5) (ON := ["_law_script", "_law_at", "_law_names_here", "_law_pots", "_law_sorts", "_law_hosts", "_law_k", "_law_free", "_law_able", "_law_rows_here", "_law_shuts", "_law_row"]) (N := ["_law_script", "_law_at", "_law_k"]) (fr := [some 0, some 1, none]) (by decide +kernel) rfl rfl) (Q6 rfl T.z_range (A0 (C9 G9 rfl T.z_len boot_len (A0 (pv 2) A9)) A9)) (fun _ _ _ _ _ _ => (E1 (i := 2) (show List.Nodup (["_law_script", "_law_at", "_law_k"] : List Str) by decide +kernel) rfl (Or.inl rfl))) P5 (fun _ _ _ _ _ _ => W4) (fun _ _ _ _ _ _ => (C2 (wc3 T) (hr.mono (by walk_at "le")) rfl T.f__law_pot.m T.f__law_pot.F.kp T.f__law_pot.b .nil E6 (A0 (C2 (M1 T) (hr.mono (by walk_at "le")) rfl T.f__law_cell_at.m T.f__law_cell_at.F.kp T.f__law_cell_at.b .nil E6 (A0 (pv 0) (A0 (C5 E8 (pv 1) (pv 2)) A9))) A9))))
 refine B0 ?_ ?_
 ·refine D4 (i := 4) S.nd rfl (Or.inr rfl) ?_ rfl ?_
  ·exact (qc6 rfl (L6 (osc := B9 N5) (ON := ["_law_script", "_law_at", "_law_names_here", "_law_pots", "_law_sorts", "_law_hosts", "_law_k", "_law_free", "_law_able", "_law_rows_here", "_law_shuts", "_law_row"]) (N := ["_law_pot_here"]) (fr := [none]) (by decide +kernel) rfl rfl) (T2 (pv 3)) (fun _ _ _ _ _ _ => (E1 (i := 0) (show List.Nodup (["_law_pot_here"] : List Str) by decide +kernel) rfl (Or.inl rfl))) P5 (fun _ _ _ _ _ _ => W4) (fun _ _ _ _ _ _ => (D9 (C0 (C7 hr)) (I9 (A0 C3 (A0 C3 (A0 C3 (A0 C3 (A0 C3 A9)))))) (C2 (O4 T) (hr.mono (by walk_at "le")) rfl T.f__law_take.m T.f__law_take.F.kp T.f__law_take.b .nil E6 (A0 (pv 0) (A0 B3 A9))) (fun _ _ => rfl))))
  ·walk_at "or"
 refine B0 ?_ ?_
 ·refine D4 (i := 5) S.nd rfl (Or.inr rfl) ?_ rfl ?_
  ·exact (qc6 rfl (L6 (osc := B9 N5) (ON := ["_law_script", "_law_at", "_law_names_here", "_law_pots", "_law_sorts", "_law_hosts", "_law_k", "_law_free", "_law_able", "_law_rows_here", "_law_shuts", "_law_row"]) (N := ["_law_name"]) (fr := [none]) (by decide +kernel) rfl rfl) (T2 (pv 2)) (fun _ _ _ _ _ _ => (E1 (i := 0) (show List.Nodup (["_law_name"] : List Str) by decide +kernel) rfl (Or.inl rfl))) P5 (fun _ _ _ _ _ _ => W4) (fun _ _ _ _ _ _ => C3))
  ·walk_at "or"
 refine B0 ?_ ?_
 ·refine T1 PassesOwn.never rfl ?_ ?_ ?_
  ·exact (xc9 rfl T.z_reversed rfl T.z_range (A0 (C9 G9 rfl T.z_len boot_len (A0 (pv 2) A9)) A9))
  ·exact (E1 (i := 6) S.nd rfl (Or.inl rfl))
  ·refine B5 ?_
   refine J0 ?_ ?_ ?_
   ·exact (C4 (M3 (Q4 hr)) (D9 (C0 (C7 hr)) (pv 4) (pv 6) (fun _ _ => rfl)) C3 (D6 _))
   ·refine B0 ?_ ?_
    ·exact (qc7 (i := 7) S.nd rfl rfl rfl (L6 (osc := B9 N5) (ON := ["_law_script", "_law_at", "_law_names_here", "_law_pots", "_law_sorts", "_law_hosts", "_law_k", "_law_free", "_law_able", "_law_rows_here", "_law_shuts", "_law_row"]) (N := ["_law_sorts", "_law_j"]) (fr := [some 4, none]) (by decide +kernel) rfl rfl) (xp8 rfl T.z_range (A0 (C5 E8 (pv 6) B3) (A0 (C9 G9 rfl T.z_len boot_len (A0 (pv 2) A9)) A9))) (fun _ _ _ _ _ _ => (E1 (i := 1) (show List.Nodup (["_law_sorts", "_law_j"] : List Str) by decide +kernel) rfl (Or.inl rfl))) P5 (fun _ _ _ _ _ _ => (qm9 (C4 (wg8 (C7 hr)) (D9 (C0 (C7 hr)) (pv 0) (pv 1) (fun _ _ => rfl)) (I9 (A0 C3 (A0 C3 A9))) (by with_unfolding_all rfl)))) (fun _ _ _ _ _ _ => (pv 1)))
    refine B0 ?_ ?_
    ·exact (qc7 (i := 7) S.nd rfl rfl rfl (L6 (osc := B9 N5) (ON := ["_law_script", "_law_at", "_law_names_here", "_law_pots", "_law_sorts", "_law_hosts", "_law_k", "_law_free", "_law_able", "_law_rows_here", "_law_shuts", "_law_row"]) (N := ["_law_hosts", "_law_names_here", "_law_j"]) (fr := [some 5, some 2, none]) (by decide +kernel) rfl rfl) (T2 (pv 7)) (fun _ _ _ _ _ _ => (E1 (i := 2) (show List.Nodup (["_law_hosts", "_law_names_here", "_law_j"] : List Str) by decide +kernel) rfl (Or.inl rfl))) P5 (fun _ _ _ _ _ _ => (qm9 (C4 (qf9 (C7 hr)) (D9 (C0 (C7 hr)) (pv 1) (pv 2) (fun _ _ => rfl)) (pv 0) (by with_unfolding_all rfl)))) (fun _ _ _ _ _ _ => (pv 2)))
    refine B5 ?_
    refine J0 ?_ ?_ ?_
    ·exact (C4 (M3 (Q4 hr)) (pv 7) (I9 A9) (D6 _))
    ·refine B5 ?_
     exact (qk5 C3 (qp2 (pv 4) (pv 6) (qa8 (C7 hr))))
    ·refine B5 ?_
     exact (qk5 (D9 (C0 (C7 hr)) (pv 2) (D9 (C0 (C7 hr)) (pv 7) (C2 (O4 T) (hr.mono (by walk_at "le")) rfl T.f__law_take.m T.f__law_take.F.kp T.f__law_take.b .nil E6 (A0 (D9 (C0 (C7 hr)) (pv 3) (pv 6) (fun _ _ => rfl)) (A0 (C9 G9 rfl T.z_len boot_len (A0 (pv 7) A9)) A9))) (fun _ _ => rfl)) (fun _ _ => rfl)) (qp2 (pv 5) (pv 6) (qa8 (C7 hr))))
   ·exact D5
 refine B0 ?_ ?_
 ·exact (qc7 (i := 8) S.nd rfl rfl rfl (L6 (osc := B9 N5) (ON := ["_law_script", "_law_at", "_law_names_here", "_law_pots", "_law_sorts", "_law_hosts", "_law_k", "_law_free", "_law_able", "_law_rows_here", "_law_shuts", "_law_row"]) (N := ["_law_names_here", "_law_sorts", "_law_k"]) (fr := [some 2, some 4, none]) (by decide +kernel) rfl rfl) (Q6 rfl T.z_range (A0 (C9 G9 rfl T.z_len boot_len (A0 (pv 2) A9)) A9)) (fun _ _ _ _ _ _ => (E1 (i := 2) (show List.Nodup (["_law_names_here", "_law_sorts", "_law_k"] : List Str) by decide +kernel) rfl (Or.inl rfl))) P5 (fun _ _ _ _ _ _ => (qm9 (C4 (wg8 (C7 hr)) (D9 (C0 (C7 hr)) (pv 1) (pv 2) (fun _ _ => rfl)) (I9 (A0 C3 (A0 C3 A9))) (by with_unfolding_all rfl)))) (fun _ _ _ _ _ _ => (D9 (C0 (C7 hr)) (pv 0) (pv 2) (fun _ _ => rfl))))
 refine B0 ?_ ?_
 ·refine D4 (i := 9) S.nd rfl (Or.inl rfl) ?_ rfl ?_
  ·exact (I9 A9)
  ·walk_at "or"
 refine B0 ?_ ?_
 ·refine T1 PassesOwn.never rfl ?_ ?_ ?_
  ·exact (Q6 rfl T.z_range (A0 (C9 G9 rfl T.z_len boot_len (A0 (pv 2) A9)) A9))
  ·exact (E1 (i := 6) S.nd rfl (Or.inl rfl))
  ·refine B0 ?_ ?_
   ·refine D4 (i := 10) S.nd rfl (Or.inl rfl) ?_ rfl ?_
    ·refine C2 (qx2 T) (hr.mono (by walk_at "le")) rfl T.f__law_some.m T.f__law_some.F.kp T.f__law_some.b .nil E6 ?_
     refine A0 ?_ ?_
     ·exact (D9 (C0 (C7 hr)) (pv 3) (pv 6) (fun _ _ => rfl))
     refine A0 ?_ ?_
     ·exact (qc6 rfl (L6 (osc := B9 N5) (ON := ["_law_script", "_law_at", "_law_names_here", "_law_pots", "_law_sorts", "_law_hosts", "_law_k", "_law_free", "_law_able", "_law_rows_here", "_law_shuts", "_law_row"]) (N := ["_law_hosts", "_law_name"]) (fr := [some 5, none]) (by decide +kernel) rfl rfl) (T2 (pv 8)) (fun _ _ _ _ _ _ => (E1 (i := 1) (show List.Nodup (["_law_hosts", "_law_name"] : List Str) by decide +kernel) rfl (Or.inl rfl))) P5 (fun _ _ _ _ _ _ => (qm9 (C4 (qf9 (C7 hr)) (pv 1) (pv 0) (by with_unfolding_all rfl)))) (fun _ _ _ _ _ _ => (pv 1)))
     exact A9
    ·walk_at "or"
   refine B0 ?_ ?_
   ·refine J0 ?_ ?_ ?_
    ·exact (C4 (wg8 (C7 hr)) (D9 (C0 (C7 hr)) (pv 2) (pv 6) (fun _ _ => rfl)) (pv 5) (by with_unfolding_all rfl))
    ·refine B5 ?_
     refine D4 (i := 10) S.nd rfl (Or.inl rfl) ?_ rfl ?_
     ·exact (qe6 A9)
     ·walk_at "or"
    ·exact D5
   refine B0 ?_ ?_
   ·refine D4 (i := 11) S.nd rfl (Or.inl rfl) ?_ rfl ?_
    ·refine qe6 ?_
     refine A0 ?_ ?_
     ·exact (D9 (C0 (C7 hr)) (pv 2) (pv 6) (fun _ _ => rfl))
     refine A0 ?_ ?_
     ·exact (D9 (C0 (C7 hr)) (pv 4) (pv 6) (fun _ _ => rfl))
     refine A0 ?_ ?_
     ·exact (D9 (C0 (C7 hr)) (pv 5) (pv 6) (fun _ _ => rfl))
     refine A0 ?_ ?_
     ·exact (pv 10)
     refine A0 ?_ ?_
     ·refine C2 (qx2 T) (hr.mono (by walk_at "le")) rfl T.f__law_some.m T.f__law_some.F.kp T.f__law_some.b .nil E6 ?_
      refine A0 ?_ ?_
      ·exact (D9 (C0 (C7 hr)) (pv 3) (pv 6) (fun _ _ => rfl))
      refine A0 ?_ ?_
      ·exact (pv 8)
      exact A9
     exact A9
    ·walk_at "or"
   refine B5 ?_
   exact (qc3 (R5 PySem.F.plainAttrs_list PySem.F.slot_list_insert PySem.F.type_list_insert xr7 (pv 9) (A0 (C2 (O4 T) (hr.mono (by walk_at "le")) rfl T.f__law_take.m T.f__law_take.F.kp T.f__law_take.b .nil E6 (A0 (D9 (C0 (C7 hr)) (pv 3) (pv 6) (fun _ _ => rfl)) (A0 (C5 E8 (C9 G9 rfl T.z_len boot_len (A0 (pv 9) A9)) B3) A9))) (A0 (pv 11) A9))))
 refine B5 ?_
 exact (D0 (pv 9))
theorem xa8 (T : Txt K mg t) : O2 P w K mg base CX0 4 t.f_host_fits.a t.f_host_fits.d ["rows", "row"] (Z0 K) := by
 refine T.f_host_fits.F.ok qw2 (wq3 K) (fun cdv A outer s H vs Q E hr h => ⟨qd7 K t.c_HOST_SORTS, ?_, wy6 T.q_HOST_SORTS h⟩)
 have S := qw2
 refine B0 ?_ ?_
 ·refine J0 ?_ ?_ ?_
  ·exact (C4 (qy2 (Q4 hr)) (D9 (C0 (C7 hr)) (pv 1) (G3 rfl T.g_SORT.1 T.g_SORT.2) (fun _ _ => rfl)) C3 (D6 _))
  ·refine B5 ?_
   exact (D0 wb4)
  ·exact D5
 refine B0 ?_ ?_
 ·refine J0 ?_ ?_ ?_
  ·exact (PW.pt (qc2 (C4 (qf9 (C7 hr)) (C2 (wn3 T) (hr.mono (by walk_at "le")) rfl T.f_sort_of.m T.f_sort_of.F.kp T.f_sort_of.b .nil E6 (A0 (pv 0) (A0 (D9 (C0 (C7 hr)) (pv 1) (G3 rfl T.g_HOST.1 T.g_HOST.2) (fun _ _ => rfl)) A9))) (G3 rfl T.g_HOST_SORTS rfl) (by with_unfolding_all rfl)) (qa6 (Q3 (C2 (ws4 T) (hr.mono (by walk_at "le")) rfl T.f_comes_back.m T.f_comes_back.F.kp T.f_comes_back.b .nil E6 (A0 (pv 0) (A0 (D9 (C0 (C7 hr)) (pv 1) (G3 rfl T.g_NAME.1 T.g_NAME.2) (fun _ _ => rfl)) A9)))))))
  ·refine B5 ?_
   exact (D0 wb4)
  ·exact D5
 refine B5 ?_
 refine D0 ?_
 refine Y3 (M3 (Q4 hr)) ?_ ?_ (D6 _)
 ·refine C2 (qm6 T) (hr.mono (by walk_at "le")) rfl T.f_frame_of.m T.f_frame_of.F.kp T.f_frame_of.b .nil E6 ?_
  refine A0 ?_ ?_
  ·exact (pv 0)
  refine A0 ?_ ?_
  ·exact (D9 (C0 (C7 hr)) (pv 1) (G3 rfl T.g_HOST.1 T.g_HOST.2) (fun _ _ => rfl))
  exact A9
 ·exact (D9 (C0 (C7 hr)) (pv 1) (G3 rfl T.g_NAME.1 T.g_NAME.2) (fun _ _ => rfl))
theorem xa9 (T : Txt K mg t) : O2 P w K mg base CX0 4 t.f_shuts_fit.a t.f_shuts_fit.d ["rows", "row"] (Y9 K) := by
 refine T.f_shuts_fit.F.ok qw3 (wq0 K) (fun cdv A outer s H vs Q E hr h => ⟨qd6 K, ?_, wy5 h⟩)
 have S := qw3
 refine B0 ?_ ?_
 ·refine J0 ?_ ?_ ?_
  ·exact (PW.pt (xu7 (C4 yp5 (C9 G9 rfl T.z_len boot_len (A0 (D9 (C0 (C7 hr)) (pv 1) (G3 rfl T.g_SHUTS.1 T.g_SHUTS.2) (fun _ _ => rfl)) A9)) B3 (D6 _)) (xl2 (C4 qf6 (C2 (qm6 T) (hr.mono (by walk_at "le")) rfl T.f_frame_of.m T.f_frame_of.F.kp T.f_frame_of.b .nil E6 (A0 (pv 0) (A0 (D9 (C0 (C7 hr)) (pv 1) (G3 rfl T.g_NAME.1 T.g_NAME.2) (fun _ _ => rfl)) A9))) O7 (D6 _)))))
  ·refine B5 ?_
   exact (D0 wb4)
  ·exact D5
 refine B0 ?_ ?_
 ·exact (qc7 (i := 2) S.nd rfl rfl rfl (L6 (osc := B9 qe4) (ON := ["rows", "row", "hosts"]) (N := ["rows", "name"]) (fr := [some 0, none]) (by decide +kernel) rfl rfl) (T2 (D9 (C0 (C7 hr)) (pv 1) (G3 rfl T.g_SHUTS.1 T.g_SHUTS.2) (fun _ _ => rfl))) (fun _ _ _ _ _ _ => (E1 (i := 1) (show List.Nodup (["rows", "name"] : List Str) by decide +kernel) rfl (Or.inl rfl))) P5 (fun _ _ _ _ _ _ => (qm9 (C4 qf6 (C2 (qm6 T) (hr.mono (by walk_at "le")) rfl T.f_frame_of.m T.f_frame_of.F.kp T.f_frame_of.b .nil E6 (A0 (pv 0) (A0 (pv 1) A9))) O7 (D6 _)))) (fun _ _ _ _ _ _ => (pv 1)))
 refine B5 ?_
 exact (D0 (qp1 (Y3 (M3 (Q4 hr)) (C9 G9 rfl T.z_len boot_len (A0 (pv 2) A9)) B3 (D6 _)) (qx4 (C2 (qk2 T) (hr.mono (by walk_at "le")) rfl T.f_may_be_named.m T.f_may_be_named.F.kp T.f_may_be_named.b .nil E6 (A0 (pv 0) (A0 (D9 (C0 (C7 hr)) (pv 1) (G3 rfl T.g_SHUTS.1 T.g_SHUTS.2) (fun _ _ => rfl)) A9))))))
theorem xg2 (T : Txt K mg t) : O2 P w K mg base CX0 4 t.f_bars_fit.a t.f_bars_fit.d ["rows", "row"] (qd5 K) := by
 refine T.f_bars_fit.F.ok wb9 (wy4 K) (fun cdv A outer s H vs Q E hr h => ⟨qi4 K, ?_, xe9 h⟩)
 have S := wb9
 refine B5 ?_
 exact (D0 (C2 (qk2 T) (hr.mono (by walk_at "le")) rfl T.f_may_be_named.m T.f_may_be_named.F.kp T.f_may_be_named.b .nil E6 (A0 (pv 0) (A0 (D9 (C0 (C7 hr)) (pv 1) (G3 rfl T.g_BARS.1 T.g_BARS.2) (fun _ _ => rfl)) A9))))
theorem wc5 (T : Txt K mg t) : O2 P w K mg base CX0 4 t.f_read_row.a t.f_read_row.d ["words"] (X7 K) := by
 refine T.f_read_row.F.ok wc0 (wz8 K) (fun cdv A outer s H vs Q E hr h => ⟨qj0 K t.c_SORTS, ?_, xf5 T.q_SORTS h⟩)
 have S := wc0
 refine B0 ?_ ?_
 ·refine J0 ?_ ?_ ?_
  ·exact (PW.pt (qc2 (C4 ww6 (C9 G9 rfl T.z_len boot_len (A0 (pv 0) A9)) B3 (D6 _)) (qc2 (qg6 (Q3 (C2 (qr7 T) (hr.mono (by walk_at "le")) rfl T.f_is_name.m T.f_is_name.F.kp T.f_is_name.b .nil E6 (A0 (D9 (C0 (C7 hr)) (pv 0) B3 (fun _ _ => rfl)) A9)))) (qa6 (C4 (qf9 (C7 hr)) (D9 (C0 (C7 hr)) (pv 0) B3 (fun _ _ => rfl)) (G3 rfl T.g_SORTS rfl) (by with_unfolding_all rfl))))))
  ·refine B5 ?_
   exact (D0 O7)
  ·exact D5
 refine B0 ?_ ?_
 ·refine D4 (i := 1) S.nd rfl (Or.inl rfl) ?_ rfl ?_
  ·exact C3
  ·walk_at "or"
 refine B0 ?_ ?_
 ·refine D4 (i := 2) S.nd rfl (Or.inl rfl) ?_ rfl ?_
  ·exact B3
  ·walk_at "or"
 refine B0 ?_ ?_
 ·refine J0 ?_ ?_ ?_
  ·exact (C4 (M3 (Q4 hr)) (D9 (C0 (C7 hr)) (pv 0) B3 (fun _ _ => rfl)) C3 (D6 _))
  ·refine B0 ?_ ?_
   ·refine J0 ?_ ?_ ?_
    ·exact (PW.pt (qc2 (C4 ww6 (C9 G9 rfl T.z_len boot_len (A0 (pv 0) A9)) B3 (D6 _)) (qa6 (qg6 (Q3 (C2 (qr7 T) (hr.mono (by walk_at "le")) rfl T.f_is_name.m T.f_is_name.F.kp T.f_is_name.b .nil E6 (A0 (D9 (C0 (C7 hr)) (pv 0) B3 (fun _ _ => rfl)) A9)))))))
    ·refine B5 ?_
     exact (D0 O7)
    ·exact D5
   refine B0 ?_ ?_
   ·refine D4 (i := 1) S.nd rfl (Or.inl rfl) ?_ rfl ?_
    ·exact (D9 (C0 (C7 hr)) (pv 0) B3 (fun _ _ => rfl))
    ·walk_at "or"
   refine B5 ?_
   refine D4 (i := 2) S.nd rfl (Or.inl rfl) ?_ rfl ?_
   ·exact B3
   ·walk_at "or"
  ·exact D5
 refine B0 ?_ ?_
 ·refine D4 (i := 3) S.nd rfl (Or.inl rfl) ?_ rfl ?_
  ·exact (C2 (qk3 T) (hr.mono (by walk_at "le")) rfl T.f_names_behind.m T.f_names_behind.F.kp T.f_names_behind.b .nil E6 (A0 C3 (A0 (R4 qh7 (pv 0) (V9 (pv 2)) V8) A9)))
  ·walk_at "or"
 refine B0 ?_ ?_
 ·refine D4 (i := 2) S.nd rfl (Or.inl rfl) ?_ rfl ?_
  ·exact (C5 E8 (pv 2) (C2 (qx0 T) (hr.mono (by walk_at "le")) rfl T.f_words_for.m T.f_words_for.F.kp T.f_words_for.b .nil E6 (A0 (pv 3) A9)))
  ·walk_at "or"
 refine B0 ?_ ?_
 ·refine D4 (i := 4) S.nd rfl (Or.inl rfl) ?_ rfl ?_
  ·exact (C2 (qk3 T) (hr.mono (by walk_at "le")) rfl T.f_names_behind.m T.f_names_behind.F.kp T.f_names_behind.b .nil E6 (A0 C3 (A0 (R4 qh7 (pv 0) (V9 (pv 2)) V8) A9)))
  ·walk_at "or"
 refine B0 ?_ ?_
 ·refine J0 ?_ ?_ ?_
  ·exact (C4 (qy2 (Q4 hr)) (C5 E8 (pv 2) (C2 (qx0 T) (hr.mono (by walk_at "le")) rfl T.f_words_for.m T.f_words_for.F.kp T.f_words_for.b .nil E6 (A0 (pv 4) A9))) (C9 G9 rfl T.z_len boot_len (A0 (pv 0) A9)) (D6 _))
  ·refine B5 ?_
   exact (D0 O7)
  ·exact D5
 refine B5 ?_
 refine D0 ?_
 refine qe6 ?_
 refine A0 ?_ ?_
 ·exact (D9 (C0 (C7 hr)) (pv 0) B3 (fun _ _ => rfl))
 refine A0 ?_ ?_
 ·exact (D9 (C0 (C7 hr)) (pv 0) B3 (fun _ _ => rfl))
 refine A0 ?_ ?_
 ·exact (pv 1)
 refine A0 ?_ ?_
 ·exact (S3 X4 rfl T.z_tuple boot_tuple (A0 (C9 qh5 rfl T.z_sorted boot_sorted (A0 (pv 3) A9)) A9))
 refine A0 ?_ ?_
 ·exact (S3 X4 rfl T.z_tuple boot_tuple (A0 (C9 qh5 rfl T.z_sorted boot_sorted (A0 (pv 4) A9)) A9))
 exact A9
theorem yk7 (T : Txt K mg t) : O2 P w K mg base CX0 5 t.f_fits.a t.f_fits.d ["rows", "row"] (we4 K) := by
 refine T.f_fits.F.ok xp3 (yb4 K) (fun cdv A outer s H vs Q E hr h => ⟨wy7 K, ?_, yi2 h⟩)
 have S := xp3
 refine B5 ?_
 refine D0 ?_
 exact (qp1 (C2 (xa8 T) (hr.mono (by walk_at "le")) rfl T.f_host_fits.m T.f_host_fits.F.kp T.f_host_fits.b .nil E6 (A0 (pv 0) (A0 (pv 1) A9))) (qp1 (C2 (xa9 T) (hr.mono (by walk_at "le")) rfl T.f_shuts_fit.m T.f_shuts_fit.F.kp T.f_shuts_fit.b .nil E6 (A0 (pv 0) (A0 (pv 1) A9))) (qx4 (C2 (xg2 T) (hr.mono (by walk_at "le")) rfl T.f_bars_fit.m T.f_bars_fit.F.kp T.f_bars_fit.b .nil E6 (A0 (pv 0) (A0 (pv 1) A9))))))
theorem xb0 (T : Txt K mg t) : O2 P w K mg base CX0 5 t.f_read_rows.a t.f_read_rows.d ["text"] (qa0 K) := by
 refine T.f_read_rows.F.ok qa3 (wq8 K) (fun cdv A outer s H vs Q E hr h => ⟨qd9 K, ?_, wz9 h⟩)
 have S := qa3
 refine B0 ?_ ?_
 ·refine D4 (i := 1) S.nd rfl (Or.inl rfl) ?_ rfl ?_
  ·exact (I9 A9)
  ·walk_at "or"
 refine B0 ?_ ?_
 ·refine T1 PassesOwn.never rfl ?_ ?_ ?_
  ·exact (wi5 rfl T.z_enumerate (A0 (R5 PySem.F.plainAttrs_str PySem.F.slot_str_split PySem.F.type_str_split ql3 (pv 0) (A0 C3 A9)) A9))
  ·exact (qx5 rfl (N6 (E1 (i := 2) S.nd rfl (Or.inl rfl)) (N6 (E1 (i := 3) S.nd rfl (Or.inl rfl)) qm8)))
  ·refine B0 ?_ ?_
   ·refine D4 (i := 4) S.nd rfl (Or.inl rfl) ?_ rfl ?_
    ·refine C2 (wc5 T) (hr.mono (by walk_at "le")) rfl T.f_read_row.m T.f_read_row.F.kp T.f_read_row.b .nil E6 ?_
     refine A0 ?_ ?_
     ·exact (R5 PySem.F.plainAttrs_str PySem.F.slot_str_split PySem.F.type_str_split ql3 (pv 3) (A0 C3 A9))
     exact A9
    ·walk_at "or"
   refine B0 ?_ ?_
   ·refine J0 ?_ ?_ ?_
    ·exact (PW.pt (qc2 (C4 wg3 (pv 4) O7 (D6 _)) (qa6 (C4 xx0 (pv 2) (G3 rfl T.g_MOST_ROWS.1 T.g_MOST_ROWS.2) (D6 _)))))
    ·refine B5 ?_
     exact qs0
    ·exact D5
   refine B5 ?_
   exact (qc3 (R5 PySem.F.plainAttrs_list PySem.F.slot_list_append PySem.F.type_list_append qa4 (pv 1) (A0 (pv 4) A9)))
 refine B5 ?_
 exact (D0 (pv 1))
theorem ws5 (T : Txt K mg t) : O2 P w K mg base (Fly P w) 5 t.f_read_rows.a t.f_read_rows.d ["text"] (X0 K t.k_NoText) := by
 refine T.f_read_rows.F.okX qa3 (wm0 K _) (fun cdv A outer s H vs Q E hr h => ⟨qa1 K t.k_NoText E, ?_, wq9 T.se_NoText h⟩)
 have S := qa3
 refine B0 ?_ ?_
 ·refine D4 (i := 1) S.nd rfl (Or.inl rfl) ?_ rfl ?_
  ·exact (I9 A9)
  ·walk_at "or"
 refine B0 ?_ ?_
 ·refine T1 yr0 rfl ?_ ?_ ?_
  ·exact (wi5 rfl T.z_enumerate (A0 (R5 PySem.F.plainAttrs_str PySem.F.slot_str_split PySem.F.type_str_split ql3 (pv 0) (A0 C3 A9)) A9))
  ·exact (qx5 rfl (N6 (E1 (i := 2) S.nd rfl (Or.inl rfl)) (N6 (E1 (i := 3) S.nd rfl (Or.inl rfl)) qm8)))
  ·refine B0 ?_ ?_
   ·refine D4 (i := 4) S.nd rfl (Or.inl rfl) ?_ rfl ?_
    ·refine C2 (wc5 T) (hr.mono (by walk_at "le")) rfl T.f_read_row.m T.f_read_row.F.kp T.f_read_row.b .nil E6 ?_
     refine A0 ?_ ?_
     ·exact (R5 PySem.F.plainAttrs_str PySem.F.slot_str_split PySem.F.type_str_split ql3 (pv 3) (A0 C3 A9))
     exact A9
    ·walk_at "or"
   refine B0 ?_ ?_
   ·refine J0 ?_ ?_ ?_
    ·exact (PW.pt (qc2 (C4 wg3 (pv 4) O7 (D6 _)) (qa6 (C4 xx0 (pv 2) (G3 rfl T.g_MOST_ROWS.1 T.g_MOST_ROWS.2) (D6 _)))))
    ·refine B5 ?_
     exact (wu1 T.m_i_NoText (wc4 T) (hr.mono (by walk_at "le")) T.b_i_NoText wh6 rfl rfl (A0 (pv 2) A9))
    ·exact D5
   refine B5 ?_
   exact (qc3 (R5 PySem.F.plainAttrs_list PySem.F.slot_list_append PySem.F.type_list_append qa4 (pv 1) (A0 (pv 4) A9)))
 refine B5 ?_
 exact (D0 (pv 1))
theorem qk4 (T : Txt K mg t) : O2 P w K mg base CX0 6 t.f_first_misfit.a t.f_first_misfit.d ["rows"] (Q0 K) := by
 refine T.f_first_misfit.F.ok qj8 (wa1 K) (fun cdv A outer s H vs Q E hr h => ⟨U0 K, ?_, wd5 h⟩)
 have S := qj8
 refine B0 ?_ ?_
 ·refine D4 (i := 1) S.nd rfl (Or.inl rfl) ?_ rfl ?_
  ·exact (C2 (ws2 T) (hr.mono (by walk_at "le")) rfl T.f_first_rows.m T.f_first_rows.F.kp T.f_first_rows.b .nil E6 (A0 (pv 0) A9))
  ·walk_at "or"
 refine B0 ?_ ?_
 ·refine T1 PassesOwn.never rfl ?_ ?_ ?_
  ·exact (wi5 rfl T.z_enumerate (A0 (pv 0) A9))
  ·exact (qx5 rfl (N6 (E1 (i := 2) S.nd rfl (Or.inl rfl)) (N6 (E1 (i := 3) S.nd rfl (Or.inl rfl)) qm8)))
  ·refine B0 ?_ ?_
   ·refine D4 (i := 4) S.nd rfl (Or.inl rfl) ?_ rfl ?_
    ·refine Y3 qf6 ?_ ?_ (D6 _)
     ·refine C2 (qn5 T) (hr.mono (by walk_at "le")) rfl T.f_row_of.m T.f_row_of.F.kp T.f_row_of.b .nil E6 ?_
      refine A0 ?_ ?_
      ·exact (R4 xm8 (pv 0) V8 (V9 (pv 2)))
      refine A0 ?_ ?_
      ·exact (D9 (C0 (C7 hr)) (pv 3) (G3 rfl T.g_NAME.1 T.g_NAME.2) (fun _ _ => rfl))
      exact A9
     ·exact O7
    ·walk_at "or"
   refine B5 ?_
   refine J0 ?_ ?_ ?_
   ·exact (PW.pt (qc2 (Q3 (pv 4)) (qa6 (qg6 (Q3 (C2 (yk7 T) (hr.mono (by walk_at "le")) rfl T.f_fits.m T.f_fits.F.kp T.f_fits.b .nil E6 (A0 (pv 1) (A0 (pv 3) A9))))))))
   ·refine B5 ?_
    exact (D0 (pv 2))
   ·exact D5
 refine B5 ?_
 exact (D0 O7)
theorem xb1 (T : Txt K mg t) : O2 P w K mg base CX0 7 t.f_read_book.a t.f_read_book.d ["text"] (U6 K) := by
 refine T.f_read_book.F.ok qa2 (wr2 K) (fun cdv A outer s H vs Q E hr h => ⟨qe0 K, ?_, xa1 h⟩)
 have S := qa2
 refine B0 ?_ ?_
 ·refine J0 ?_ ?_ ?_
  ·exact (qg6 (Q3 (C9 V3 rfl T.z_isinstance boot_isinstance (A0 (pv 0) (A0 (qr8 rfl T.z_str boot_str rfl) A9)))))
  ·refine B5 ?_
   exact qs0
  ·exact D5
 refine B0 ?_ ?_
 ·refine D4 (i := 1) S.nd rfl (Or.inl rfl) ?_ rfl ?_
  ·exact (qr9 (C4 (M3 (Q4 hr)) (pv 0) C3 (D6 _)) (I9 A9) (C2 (xb0 T) (hr.mono (by walk_at "le")) rfl T.f_read_rows.m T.f_read_rows.F.kp T.f_read_rows.b .nil E6 (A0 (pv 0) A9)))
  ·walk_at "or"
 refine B0 ?_ ?_
 ·refine D4 (i := 2) S.nd rfl (Or.inl rfl) ?_ rfl ?_
  ·exact (C2 (qk4 T) (hr.mono (by walk_at "le")) rfl T.f_first_misfit.m T.f_first_misfit.F.kp T.f_first_misfit.b .nil E6 (A0 (pv 1) A9))
  ·walk_at "or"
 refine B0 ?_ ?_
 ·refine J0 ?_ ?_ ?_
  ·exact (C4 qf6 (pv 2) O7 (D6 _))
  ·refine B5 ?_
   exact qs0
  ·exact D5
 refine B5 ?_
 exact (D0 (S3 X4 rfl T.z_tuple boot_tuple (A0 (pv 1) A9)))
theorem ws6 (T : Txt K mg t) : O2 P w K mg base (Fly P w) 7 t.f_read_book.a t.f_read_book.d ["text"] (X2 K t.k_NoText) := by
 refine T.f_read_book.F.okX qa2 (wm3 K _) (fun cdv A outer s H vs Q E hr h => ⟨Q7 K t.k_NoText E, ?_, wr3 T.se_NoText h⟩)
 have S := qa2
 refine B0 ?_ ?_
 ·refine J0 ?_ ?_ ?_
  ·exact (qg6 (Q3 (C9 V3 rfl T.z_isinstance boot_isinstance (A0 (pv 0) (A0 (qr8 rfl T.z_str boot_str rfl) A9)))))
  ·refine B5 ?_
   exact (wu1 T.m_i_NoText (wc4 T) (hr.mono (by walk_at "le")) T.b_i_NoText wh6 rfl rfl (A0 B3 A9))
  ·exact D5
 refine B0 ?_ ?_
 ·refine D4 (i := 1) S.nd rfl (Or.inl rfl) ?_ rfl ?_
  ·exact (qr9 (C4 (M3 (Q4 hr)) (pv 0) C3 (D6 _)) (I9 A9) (C2 (ws5 T) (hr.mono (by walk_at "le")) rfl T.f_read_rows.m T.f_read_rows.F.kp T.f_read_rows.b .nil xs6 (A0 (pv 0) A9)))
  ·walk_at "or"
 refine B0 ?_ ?_
 ·refine D4 (i := 2) S.nd rfl (Or.inl rfl) ?_ rfl ?_
  ·exact (C2 (qk4 T) (hr.mono (by walk_at "le")) rfl T.f_first_misfit.m T.f_first_misfit.F.kp T.f_first_misfit.b .nil E6 (A0 (pv 1) A9))
  ·walk_at "or"
 refine B0 ?_ ?_
 ·refine J0 ?_ ?_ ?_
  ·exact (C4 qf6 (pv 2) O7 (D6 _))
  ·refine B5 ?_
   exact qs0
  ·exact D5
 refine B5 ?_
 exact (D0 (S3 X4 rfl T.z_tuple boot_tuple (A0 (pv 1) A9)))
theorem qx3 (T : Txt K mg t) : O2 P w K mg base CX0 8 t.f__law_told.a t.f__law_told.d ["_law_text"] (P6 K) := by
 refine T.f__law_told.F.ok qw9 (ws1 K) (fun cdv A outer s H vs Q E hr h => ⟨T0 K t.k_NoText t.k_NoSpot t.k_NoPlace t.k_NoBook t.k_NoFit t.k_NotEnded t.k_Ended, ?_, xa4 T.ei_NoText T.er h⟩)
 have S := qw9
 refine B0 ?_ ?_
 ·refine D4 (i := 1) S.nd rfl (Or.inl rfl) ?_ rfl ?_
  ·exact O7
  ·walk_at "or"
 refine B0 ?_ ?_
 ·exact (yh4 (i := 2) (yg7 (ws6 T) (hr.mono (by walk_at "le")) rfl T.f_read_book.m T.f_read_book.F.kp T.f_read_book.b .nil (fun _ => (A0 (pv 0) A9))) rfl T.n_TagError T.y_NoText_TagError S.nd rfl rfl (fun _ _ => (B5 (D4 (i := 1) S.nd rfl (Or.inl rfl) (pv 2)))))
 refine B0 ?_ ?_
 ·refine J0 ?_ ?_ ?_
  ·exact (PW.pt (qc2 (qg6 (Q3 (C9 I0 rfl T.z_isinstance boot_isinstance (A0 (pv 1) (A0 (G3 rfl T.n_NoText rfl) A9))))) (qa6 (qg6 (Q3 (C9 I0 rfl T.z_isinstance boot_isinstance (A0 (pv 1) (A0 (qr8 rfl T.z_ValueError wc9 rfl) A9))))))))
  ·refine B5 ?_
   exact (D0 (xl4 wv5 B3))
  ·exact D5
 refine B0 ?_ ?_
 ·refine J0 ?_ ?_ ?_
  ·exact (PW.pt (qc2 (Q3 (C9 I0 rfl T.z_isinstance boot_isinstance (A0 (pv 1) (A0 (G3 rfl T.n_NoBook rfl) A9)))) (qc2 (Q3 (C9 I0 rfl T.z_isinstance boot_isinstance (A0 (pv 1) (A0 (G3 rfl T.n_NoPlace rfl) A9)))) (qa6 (Q3 (C9 I0 rfl T.z_isinstance boot_isinstance (A0 (pv 1) (A0 (G3 rfl T.n_NoSpot rfl) A9))))))))
  ·refine B5 ?_
   exact (D0 (xl4 wv5 B3))
  ·exact D5
 refine B0 ?_ ?_
 ·refine J0 ?_ ?_ ?_
  ·exact (PW.pt (qc2 (Q3 (C9 I0 rfl T.z_isinstance boot_isinstance (A0 (pv 1) (A0 (G3 rfl T.n_Ended rfl) A9)))) (qc2 (Q3 (C9 I0 rfl T.z_isinstance boot_isinstance (A0 (pv 1) (A0 (G3 rfl T.n_NotEnded rfl) A9)))) (qa6 (Q3 (C9 I0 rfl T.z_isinstance boot_isinstance (A0 (pv 1) (A0 (G3 rfl T.n_NoFit rfl) A9))))))))
  ·refine B5 ?_
   exact (D0 (xl4 wv5 B3))
  ·exact D5
 refine B0 ?_ ?_
 ·refine J0 ?_ ?_ ?_
  ·exact (PW.pt (qc2 (Q3 (C9 I0 rfl T.z_isinstance boot_isinstance (A0 (xj3 (pv 1) rfl) (A0 (qr8 rfl T.z_bool boot_bool rfl) A9)))) (qa6 (qg6 (Q3 (C9 I0 rfl T.z_isinstance boot_isinstance (A0 (xj3 (pv 1) rfl) (A0 (qr8 rfl T.z_int boot_int rfl) A9))))))))
  ·refine B5 ?_
   exact (D0 (xl4 wv5 B3))
  ·exact D5
 refine B5 ?_
 exact (D0 (xj3 (pv 1) rfl))
theorem yu8 (T : Txt K mg t) : O2 P w K mg base CX0 9 t.f_law.a t.f_law.d ["_law_script"] (wb0 K) := by
 refine T.f_law.F.ok yd6 (yk6 K) (fun cdv A outer s H vs Q E hr h => ⟨xp2 K, ?_, yu7 h⟩)
 have S := yd6
 refine B0 ?_ ?_
 ·refine D4 (i := 1) S.nd rfl (Or.inl rfl) ?_ rfl ?_
  ·refine C2 (ws3 T) (hr.mono (by walk_at "le")) rfl T.f__law_names.m T.f__law_names.F.kp T.f__law_names.b .nil E6 ?_
   refine A0 ?_ ?_
   ·exact (C2 (M1 T) (hr.mono (by walk_at "le")) rfl T.f__law_cell_at.m T.f__law_cell_at.F.kp T.f__law_cell_at.b .nil E6 (A0 (pv 0) (A0 B3 A9)))
   refine A0 ?_ ?_
   ·exact (C2 (M1 T) (hr.mono (by walk_at "le")) rfl T.f__law_cell_at.m T.f__law_cell_at.F.kp T.f__law_cell_at.b .nil E6 (A0 (pv 0) (A0 B3 A9)))
   refine A0 ?_ ?_
   ·refine C5 E8 ?_ ?_
    ·exact B3
    ·exact (C5 M6 (C2 (M1 T) (hr.mono (by walk_at "le")) rfl T.f__law_cell_at.m T.f__law_cell_at.F.kp T.f__law_cell_at.b .nil E6 (A0 (pv 0) (A0 B3 A9))) B3)
   exact A9
  ·walk_at "or"
 refine B0 ?_ ?_
 ·refine D4 (i := 2) S.nd rfl (Or.inl rfl) ?_ rfl ?_
  ·exact (C2 (xa7 T) (hr.mono (by walk_at "le")) rfl T.f__law_rows.m T.f__law_rows.F.kp T.f__law_rows.b .nil E6 (A0 (pv 0) (A0 B3 (A0 (pv 1) A9))))
  ·walk_at "or"
 refine B0 ?_ ?_
 ·exact (qc7 (i := 3) S.nd rfl rfl rfl (L6 (osc := B9 wb7) (ON := ["_law_script", "_law_names_here", "_law_rows_here", "_law_lines", "_law_text", "_law_number", "_law_bad", "_law_cell", "_law_k", "_law_due", "_law_some_here"]) (N := ["_law_row"]) (fr := [none]) (by decide +kernel) rfl rfl) (T2 (pv 2)) (fun _ _ _ _ _ _ => (E1 (i := 0) (show List.Nodup (["_law_row"] : List Str) by decide +kernel) rfl (Or.inl rfl))) P5 (fun _ _ _ _ _ _ => W4) (fun _ _ _ _ _ _ => (C2 (qx1 T) (hr.mono (by walk_at "le")) rfl T.f__law_line.m T.f__law_line.F.kp T.f__law_line.b .nil E6 (A0 (pv 0) A9))))
 refine B0 ?_ ?_
 ·refine D4 (i := 4) S.nd rfl (Or.inl rfl) ?_ rfl ?_
  ·exact (R5 PySem.F.plainAttrs_str PySem.F.slot_str_join PySem.F.type_str_join qc8 C3 (A0 (pv 3) A9))
  ·walk_at "or"
 refine B0 ?_ ?_
 ·refine D4 (i := 5) S.nd rfl (Or.inl rfl) ?_ rfl ?_
  ·exact (C5 M6 (C2 (M1 T) (hr.mono (by walk_at "le")) rfl T.f__law_cell_at.m T.f__law_cell_at.F.kp T.f__law_cell_at.b .nil E6 (A0 (pv 0) (A0 B3 A9))) (C5 xv2 B3 B3))
  ·walk_at "or"
 refine B0 ?_ ?_
 ·refine J0 ?_ ?_ ?_
  ·exact (C4 (M3 (Q4 hr)) (C5 M6 (pv 5) B3) B3 (D6 _))
  ·refine B5 ?_
   refine D4 (i := 3) S.nd rfl (Or.inl rfl) ?_ rfl ?_
   ·exact (C5 E8 (pv 3) (C5 qh3 (I9 (A0 (D9 (C0 (C7 hr)) (pv 3) B3 (fun _ _ => rfl)) A9)) (C5 M6 (C5 O6 (pv 5) B3) B3)))
   ·walk_at "or"
  ·exact D5
 refine B0 ?_ ?_
 ·refine D4 (i := 6) S.nd rfl (Or.inl rfl) ?_ rfl ?_
  ·exact xw3
  ·walk_at "or"
 refine B0 ?_ ?_
 ·refine T1 PassesOwn.never rfl ?_ ?_ ?_
  ·exact (T2 (R4 qh7 (I9 (A0 (C2 (M1 T) (hr.mono (by walk_at "le")) rfl T.f__law_cell_at.m T.f__law_cell_at.F.kp T.f__law_cell_at.b .nil E6 (A0 (pv 0) (A0 B3 A9))) (A0 (C2 (M1 T) (hr.mono (by walk_at "le")) rfl T.f__law_cell_at.m T.f__law_cell_at.F.kp T.f__law_cell_at.b .nil E6 (A0 (pv 0) (A0 B3 A9))) A9))) V8 (V9 (C5 E8 B3 (C5 M6 (C2 (M1 T) (hr.mono (by walk_at "le")) rfl T.f__law_cell_at.m T.f__law_cell_at.F.kp T.f__law_cell_at.b .nil E6 (A0 (pv 0) (A0 B3 A9))) B3)))))
  ·exact (E1 (i := 7) S.nd rfl (Or.inl rfl))
  ·refine B0 ?_ ?_
   ·refine D4 (i := 8) S.nd rfl (Or.inl rfl) ?_ rfl ?_
    ·exact (C5 M6 (pv 7) (C9 G9 rfl T.z_len boot_len (A0 (pv 2) A9)))
    ·walk_at "or"
   refine B0 ?_ ?_
   ·exact (qk5 (C2 (qg4 T) (hr.mono (by walk_at "le")) rfl T.f__law_bad_line.m T.f__law_bad_line.F.kp T.f__law_bad_line.b .nil E6 (A0 (D9 (C0 (C7 hr)) (pv 2) (pv 8) (fun _ _ => rfl)) (A0 (C5 M6 (C5 O6 (pv 7) B3) (C5 xv2 B3 B3)) A9))) (qp2 (pv 3) (pv 8) (qa8 (C7 hr))))
   refine B5 ?_
   exact (qk5 wb4 (qp2 (pv 6) (pv 8) (qa8 (C7 hr))))
 refine B0 ?_ ?_
 ·refine D4 (i := 9) S.nd rfl (Or.inl rfl) ?_ rfl ?_
  ·exact (C9 (xt4 rfl) rfl T.z_min boot_min (A0 (S3 (wi2 rfl) rfl T.z_list boot_list (A0 (pv 6) A9)) A9))
  ·walk_at "or"
 refine B0 ?_ ?_
 ·refine J0 ?_ ?_ ?_
  ·exact (C4 (M3 (Q4 hr)) (C5 M6 (C2 (M1 T) (hr.mono (by walk_at "le")) rfl T.f__law_cell_at.m T.f__law_cell_at.F.kp T.f__law_cell_at.b .nil E6 (A0 (pv 0) (A0 B3 A9))) B3) B3 (D6 _))
  ·refine B0 ?_ ?_
   ·exact (qc7 (i := 3) S.nd rfl rfl rfl (L6 (osc := B9 wb7) (ON := ["_law_script", "_law_names_here", "_law_rows_here", "_law_lines", "_law_text", "_law_number", "_law_bad", "_law_cell", "_law_k", "_law_due", "_law_some_here"]) (N := ["_law_j"]) (fr := [none]) (by decide +kernel) rfl rfl) (Q6 rfl T.z_range (A0 (C5 E8 B3 (C5 M6 (pv 5) B3)) A9)) (fun _ _ _ _ _ _ => (E1 (i := 0) (show List.Nodup (["_law_j"] : List Str) by decide +kernel) rfl (Or.inl rfl))) P5 (fun _ _ _ _ _ _ => W4) (fun _ _ _ _ _ _ => (C5 E8 (C5 E8 C3 (D9 (C0 (C7 hr)) C3 (pv 0) (fun _ _ => rfl))) C3)))
   refine B0 ?_ ?_
   ·refine D4 (i := 9) S.nd rfl (Or.inl rfl) ?_ rfl ?_
    ·exact B3
    ·walk_at "or"
   refine B5 ?_
   refine J0 ?_ ?_ ?_
   ·exact (C4 (M3 (Q4 hr)) (C5 M6 (C5 O6 (pv 5) B3) B3) B3 (D6 _))
   ·refine B0 ?_ ?_
    ·refine D4 (i := 9) S.nd rfl (Or.inl rfl) ?_ rfl ?_
     ·exact (C5 M6 (C5 O6 (pv 5) B3) B3)
     ·walk_at "or"
    refine B5 ?_
    exact (qk5 (C2 (qg4 T) (hr.mono (by walk_at "le")) rfl T.f__law_bad_line.m T.f__law_bad_line.F.kp T.f__law_bad_line.b .nil E6 (A0 (qe6 (A0 C3 (A0 C3 (A0 C3 (A0 (qe6 A9) (A0 (qe6 A9) A9)))))) (A0 (C5 O6 (pv 5) B3) A9))) (qp2 (pv 3) (pv 9) (qa8 (C7 hr))))
   ·exact D5
  ·exact D5
 refine B0 ?_ ?_
 ·refine J0 ?_ ?_ ?_
  ·exact (C4 (M3 (Q4 hr)) (pv 3) (I9 (A0 C3 A9)) (D6 _))
  ·refine B5 ?_
   refine D4 (i := 3) S.nd rfl (Or.inl rfl) ?_ rfl ?_
   ·exact (I9 (A0 C3 A9))
   ·walk_at "or"
  ·exact D5
 refine B0 ?_ ?_
 ·refine J0 ?_ ?_ ?_
  ·exact (C4 (qy2 (Q4 hr)) (C2 (qx3 T) (hr.mono (by walk_at "le")) rfl T.f__law_told.m T.f__law_told.F.kp T.f__law_told.b .nil E6 (A0 (R5 PySem.F.plainAttrs_str PySem.F.slot_str_join PySem.F.type_str_join qc8 C3 (A0 (pv 3) A9)) A9)) (pv 9) (D6 _))
  ·refine B5 ?_
   exact (D0 wb4)
  ·exact D5
 refine B0 ?_ ?_
 ·refine D4 (i := 10) S.nd rfl (Or.inl rfl) ?_ rfl ?_
  ·refine D9 ?_ ?_ ?_ ?_
   ·exact C0 (C7 hr)
   ·refine I9 ?_
    refine A0 ?_ ?_
    ·exact O7
    refine A0 ?_ ?_
    ·exact (pv 5)
    refine A0 ?_ ?_
    ·exact wb4
    refine A0 ?_ ?_
    ·exact (qe6 (A0 C3 A9))
    refine A0 ?_ ?_
    ·exact (I9 (A0 C3 A9))
    refine A0 ?_ ?_
    ·exact (yf2 (xw4 C3 C3 yf1) rfl rfl (by simp) (by decide))
    exact A9
   ·exact (C5 M6 (C5 O6 (pv 5) B3) B3)
   ·exact fun _ _ => rfl
  ·walk_at "or"
 refine B5 ?_
 refine D0 ?_
 exact (qp1 (Y3 (M3 (Q4 hr)) (C2 (qx3 T) (hr.mono (by walk_at "le")) rfl T.f__law_told.m T.f__law_told.F.kp T.f__law_told.b .nil E6 (A0 (pv 10) A9)) B3 (D6 _)) (qx4 (Y3 (M3 (Q4 hr)) (C9 G9 rfl T.z_len boot_len (A0 (C2 (xb1 T) (hr.mono (by walk_at "le")) rfl T.f_read_book.m T.f_read_book.F.kp T.f_read_book.b .nil E6 (A0 (pv 4) A9)) A9)) (C9 G9 rfl T.z_len boot_len (A0 (pv 2) A9)) (D6 _))))
end
theorem ln1 {us : List Value} (h : us.length = 1) : ∃ x0, us = [x0] := by
 rcases us with _ | ⟨x0, _ | ⟨y, us⟩⟩
 ·cases h
 ·exact ⟨x0, rfl⟩
 ·cases h
theorem ln2 {us : List Value} (h : us.length = 2) : ∃ x0 x1, us = [x0, x1] := by
 rcases us with _ | ⟨x0, _ | ⟨x1, _ | ⟨y, us⟩⟩⟩
 ·cases h
 ·cases h
 ·exact ⟨x0, x1, rfl⟩
 ·cases h
theorem ln3 {us : List Value} (h : us.length = 3) : ∃ x0 x1 x2, us = [x0, x1, x2] := by
 rcases us with _ | ⟨x0, _ | ⟨x1, _ | ⟨x2, _ | ⟨y, us⟩⟩⟩⟩
 ·cases h
 ·cases h
 ·cases h
 ·exact ⟨x0, x1, x2, rfl⟩
 ·cases h
theorem all_mk {l : PySem.W.OpenLaw} {w : World} {K : Fg} {h : Heap} {mg : Str -> Option Value} {fa f0 f1 f2 f3 f4 f5 f6 f7 f8 f9 f10 f11 f12 f13 f14 f15 f16 f17 f18 f19 f20 f21 f22 f23 f24 f25 f26 f27 f28 f29 f30 : Addr} (X : K.In h) (G : h.Ns mainGlobals mg) (hfa : mg "law" = some (.ref fa))
 {d0 d1 d2 d3 d4 d5 d6 d7 d8 d9 d10 d11 d12 d13 d14 d15 d16 d17 d18 d19 d20 d21 d22 d23 d24 d25 d26 d27 d28 d29 d30 : FuncData}
 {k_LONGEST_NAME k_MOST_ROWS k_NAME k_SORT k_HOST k_SHUTS k_BARS : Tok}
 {c_SORTS : Addr} {d_SORTS : Option Addr} {n_SORTS : Nat} {sl_SORTS : Array (Option Value)} {k_SORTS_0 k_SORTS_1 k_SORTS_2 k_SORTS_3 k_SORTS_4 : Tok}
 {c_HOST_SORTS : Addr} {d_HOST_SORTS : Option Addr} {n_HOST_SORTS : Nat} {sl_HOST_SORTS : Array (Option Value)} {k_HOST_SORTS_0 k_HOST_SORTS_1 : Tok}
 {c_SHUT_OR_BARRED_SORTS : Addr} {d_SHUT_OR_BARRED_SORTS : Option Addr} {n_SHUT_OR_BARRED_SORTS : Nat} {sl_SHUT_OR_BARRED_SORTS : Array (Option Value)} {k_SHUT_OR_BARRED_SORTS_0 k_SHUT_OR_BARRED_SORTS_1 : Tok}
 {c_KEYWORDS : Addr} {d_KEYWORDS : Option Addr} {n_KEYWORDS : Nat} {sl_KEYWORDS : Array (Option Value)} {k_KEYWORDS_0 k_KEYWORDS_1 : Tok}
 {k_Ended k_NoBook k_NoFit k_NoPlace k_NoSpot k_NoText k_NotEnded k_TagError : Addr} (eEnded : PySem.W.nsIn K mainGlobals "Ended" = some (some (.ref k_Ended))) (eNoBook : PySem.W.nsIn K mainGlobals "NoBook" = some (some (.ref k_NoBook))) (eNoFit : PySem.W.nsIn K mainGlobals "NoFit" = some (some (.ref k_NoFit))) (eNoPlace : PySem.W.nsIn K mainGlobals "NoPlace" = some (some (.ref k_NoPlace))) (eNoSpot : PySem.W.nsIn K mainGlobals "NoSpot" = some (some (.ref k_NoSpot))) (eNoText : PySem.W.nsIn K mainGlobals "NoText" = some (some (.ref k_NoText))) (eNotEnded : PySem.W.nsIn K mainGlobals "NotEnded" = some (some (.ref k_NotEnded))) (eTagError : PySem.W.nsIn K mainGlobals "TagError" = some (some (.ref k_TagError)))
 (a0 : PySem.W.nsIn K mainGlobals "is_name" = some (some (.ref f0))) (F0 : Fun K "is_name" "is_name" wb1 f0 d0)
 (a1 : PySem.W.nsIn K mainGlobals "has_letters_of_name" = some (some (.ref f1))) (F1 : Fun K "has_letters_of_name" "has_letters_of_name" N9 f1 d1)
 (a2 : PySem.W.nsIn K mainGlobals "is_rising" = some (some (.ref f2))) (F2 : Fun K "is_rising" "is_rising" qe3 f2 d2)
 (a3 : PySem.W.nsIn K mainGlobals "row_of" = some (some (.ref f3))) (F3 : Fun K "row_of" "row_of" wm9 f3 d3)
 (a4 : PySem.W.nsIn K mainGlobals "sort_of" = some (some (.ref f4))) (F4 : Fun K "sort_of" "sort_of" wb2 f4 d4)
 (a5 : PySem.W.nsIn K mainGlobals "host_of" = some (some (.ref f5))) (F5 : Fun K "host_of" "host_of" wb3 f5 d5)
 (a6 : PySem.W.nsIn K mainGlobals "frame_of" = some (some (.ref f6))) (F6 : Fun K "frame_of" "frame_of" qr2 f6 d6)
 (a7 : PySem.W.nsIn K mainGlobals "first_misfit" = some (some (.ref f7))) (F7 : Fun K "first_misfit" "first_misfit" qb9 f7 d7)
 (a8 : PySem.W.nsIn K mainGlobals "first_rows" = some (some (.ref f8))) (F8 : Fun K "first_rows" "first_rows" qj3 f8 d8)
 (a9 : PySem.W.nsIn K mainGlobals "fits" = some (some (.ref f9))) (F9 : Fun K "fits" "fits" xl1 f9 d9)
 (a10 : PySem.W.nsIn K mainGlobals "host_fits" = some (some (.ref f10))) (F10 : Fun K "host_fits" "host_fits" ql9 f10 d10)
 (a11 : PySem.W.nsIn K mainGlobals "comes_back" = some (some (.ref f11))) (F11 : Fun K "comes_back" "comes_back" qj4 f11 d11)
 (a12 : PySem.W.nsIn K mainGlobals "shuts_fit" = some (some (.ref f12))) (F12 : Fun K "shuts_fit" "shuts_fit" qe4 f12 d12)
 (a13 : PySem.W.nsIn K mainGlobals "bars_fit" = some (some (.ref f13))) (F13 : Fun K "bars_fit" "bars_fit" qr3 f13 d13)
 (a14 : PySem.W.nsIn K mainGlobals "may_be_named" = some (some (.ref f14))) (F14 : Fun K "may_be_named" "may_be_named" U8 f14 d14)
 (a15 : PySem.W.nsIn K mainGlobals "read_book" = some (some (.ref f15))) (F15 : Fun K "read_book" "read_book" qm0 f15 d15)
 (a16 : PySem.W.nsIn K mainGlobals "read_rows" = some (some (.ref f16))) (F16 : Fun K "read_rows" "read_rows" qm1 f16 d16)
 (a17 : PySem.W.nsIn K mainGlobals "read_row" = some (some (.ref f17))) (F17 : Fun K "read_row" "read_row" qr4 f17 d17)
 (a18 : PySem.W.nsIn K mainGlobals "names_behind" = some (some (.ref f18))) (F18 : Fun K "names_behind" "names_behind" qc0 f18 d18)
 (a19 : PySem.W.nsIn K mainGlobals "words_for" = some (some (.ref f19))) (F19 : Fun K "words_for" "words_for" qm2 f19 d19)
 (a20 : PySem.W.nsIn K mainGlobals "_law_cell_at" = some (some (.ref f20))) (F20 : Fun K "_law_cell_at" "_law_cell_at" qc1 f20 d20)
 (a21 : PySem.W.nsIn K mainGlobals "_law_pot" = some (some (.ref f21))) (F21 : Fun K "_law_pot" "_law_pot" qr5 f21 d21)
 (a22 : PySem.W.nsIn K mainGlobals "_law_take" = some (some (.ref f22))) (F22 : Fun K "_law_take" "_law_take" qm3 f22 d22)
 (a23 : PySem.W.nsIn K mainGlobals "_law_names" = some (some (.ref f23))) (F23 : Fun K "_law_names" "_law_names" U9 f23 d23)
 (a24 : PySem.W.nsIn K mainGlobals "_law_some" = some (some (.ref f24))) (F24 : Fun K "_law_some" "_law_some" qe5 f24 d24)
 (a25 : PySem.W.nsIn K mainGlobals "_law_rows" = some (some (.ref f25))) (F25 : Fun K "_law_rows" "_law_rows" N5 f25 d25)
 (a26 : PySem.W.nsIn K mainGlobals "_law_line" = some (some (.ref f26))) (F26 : Fun K "_law_line" "_law_line" qm4 f26 d26)
 (a27 : PySem.W.nsIn K mainGlobals "_law_bad_line" = some (some (.ref f27))) (F27 : Fun K "_law_bad_line" "_law_bad_line" Y1 f27 d27)
 (a28 : PySem.W.nsIn K mainGlobals "_law_told" = some (some (.ref f28))) (F28 : Fun K "_law_told" "_law_told" qm5 f28 d28)
 (a29 : PySem.W.nsIn K mainGlobals "law" = some (some (.ref f29))) (F29 : Fun K "law" "law" wb7 f29 d29)
 (a30 : PySem.W.findIn K (.ref k_NoText) "__init__" = some (some (.ref f30))) (F30 : Fun K "__init__" "NoText.__init__" qr6 f30 d30)
 (uLONGEST_NAME : PySem.W.nsIn K mainGlobals "LONGEST_NAME" = some (some (.int 8 k_LONGEST_NAME)))
 (uMOST_ROWS : PySem.W.nsIn K mainGlobals "MOST_ROWS" = some (some (.int 12 k_MOST_ROWS)))
 (uNAME : PySem.W.nsIn K mainGlobals "NAME" = some (some (.int 0 k_NAME)))
 (uSORT : PySem.W.nsIn K mainGlobals "SORT" = some (some (.int 1 k_SORT)))
 (uHOST : PySem.W.nsIn K mainGlobals "HOST" = some (some (.int 2 k_HOST)))
 (uSHUTS : PySem.W.nsIn K mainGlobals "SHUTS" = some (some (.int 3 k_SHUTS)))
 (uBARS : PySem.W.nsIn K mainGlobals "BARS" = some (some (.int 4 k_BARS)))
 (uSORTS : PySem.W.nsIn K mainGlobals "SORTS" = some (some (.ref c_SORTS))) (wSORTS : K.lookup c_SORTS = some ⟨.type "tuple", d_SORTS, .seq #[.str ("bare" : Str) k_SORTS_0, .str ("plain" : Str) k_SORTS_1, .str ("anew" : Str) k_SORTS_2, .str ("room" : Str) k_SORTS_3, .str ("frame" : Str) k_SORTS_4] n_SORTS, sl_SORTS⟩)
 (uHOST_SORTS : PySem.W.nsIn K mainGlobals "HOST_SORTS" = some (some (.ref c_HOST_SORTS))) (wHOST_SORTS : K.lookup c_HOST_SORTS = some ⟨.type "tuple", d_HOST_SORTS, .seq #[.str ("plain" : Str) k_HOST_SORTS_0, .str ("frame" : Str) k_HOST_SORTS_1] n_HOST_SORTS, sl_HOST_SORTS⟩)
 (uSHUT_OR_BARRED_SORTS : PySem.W.nsIn K mainGlobals "SHUT_OR_BARRED_SORTS" = some (some (.ref c_SHUT_OR_BARRED_SORTS))) (wSHUT_OR_BARRED_SORTS : K.lookup c_SHUT_OR_BARRED_SORTS = some ⟨.type "tuple", d_SHUT_OR_BARRED_SORTS, .seq #[.str ("plain" : Str) k_SHUT_OR_BARRED_SORTS_0, .str ("anew" : Str) k_SHUT_OR_BARRED_SORTS_1] n_SHUT_OR_BARRED_SORTS, sl_SHUT_OR_BARRED_SORTS⟩)
 (uKEYWORDS : PySem.W.nsIn K mainGlobals "KEYWORDS" = some (some (.ref c_KEYWORDS))) (wKEYWORDS : K.lookup c_KEYWORDS = some ⟨.type "tuple", d_KEYWORDS, .seq #[.str ("shuts" : Str) k_KEYWORDS_0, .str ("bars" : Str) k_KEYWORDS_1] n_KEYWORDS, sl_KEYWORDS⟩)
 (qNoText : wi7 K k_NoText = true) (tfNoText : PySem.W.typeIn K (.ref f30) = some (.type "function")) (kpNoText : PySem.W.keepIn K (.ref k_NoText) = true) (bxNoText : PySem.W.subIn K (.ref k_NoText) (.type "BaseException") = some true) (obNoText : PySem.W.subIn K (.ref k_NoText) (.type "object") = some true) (icNoText : PySem.W.isClsIn K k_NoText = true) (itNoText : PySem.W.typeIn K (.ref k_NoText) = some (.type "type")) (gaNoText : PySem.W.findIn K (.ref k_NoText) "__getattribute__" = some (some (.builtin "BaseException.__getattribute__"))) (gnNoText : PySem.W.findIn K (.ref k_NoText) "__getattr__" = some none) (clNoText : PySem.W.findIn K (.ref k_NoText) "__class__" = some (some (.builtin "object.__class__"))) (saNoText : PySem.W.findIn K (.ref k_NoText) "__setattr__" = some (some (.builtin "object.__setattr__"))) (hyNoText : PySem.W.findIn K (.ref k_NoText) "row" = some none) (bgTagError : PySem.W.specialIn K (.ref k_TagError) "__getattribute__" = some (some (.builtin "type.__getattribute__"))) (brTagError : PySem.W.readsIn K k_TagError (.type "type") = true) (beTagError : PySem.W.findCls K (.ref k_TagError) (.type "type") "__init__" = some (.val (.builtin "ValueError.__init__")))
 (rga_NoText : PySem.W.findIn K (.ref k_NoText) "__getattribute__" = some (some (.builtin "BaseException.__getattribute__"))) (rgn_NoText : PySem.W.findIn K (.ref k_NoText) "__getattr__" = some none) (rcl_NoText : PySem.W.findIn K (.ref k_NoText) "__class__" = some (some (.builtin "object.__class__"))) (rbx_NoText : PySem.W.subIn K (.ref k_NoText) (.type "BaseException") = some true) (rob_NoText : PySem.W.subIn K (.ref k_NoText) (.type "object") = some true) (rve_NoText : PySem.W.subIn K (.ref k_NoText) (.type "ValueError") = some true) (rs_NoText_Ended : PySem.W.subIn K (.ref k_NoText) (.ref k_Ended) = some false) (rs_NoText_NoBook : PySem.W.subIn K (.ref k_NoText) (.ref k_NoBook) = some false) (rs_NoText_NoFit : PySem.W.subIn K (.ref k_NoText) (.ref k_NoFit) = some false) (rs_NoText_NoPlace : PySem.W.subIn K (.ref k_NoText) (.ref k_NoPlace) = some false) (rs_NoText_NoSpot : PySem.W.subIn K (.ref k_NoText) (.ref k_NoSpot) = some false) (rs_NoText_NoText : PySem.W.subIn K (.ref k_NoText) (.ref k_NoText) = some true) (rs_NoText_NotEnded : PySem.W.subIn K (.ref k_NoText) (.ref k_NotEnded) = some false) (ric_Ended : PySem.W.isClsIn K k_Ended = true) (rit_Ended : PySem.W.typeIn K (.ref k_Ended) = some (.type "type")) (ric_NoBook : PySem.W.isClsIn K k_NoBook = true) (rit_NoBook : PySem.W.typeIn K (.ref k_NoBook) = some (.type "type")) (ric_NoFit : PySem.W.isClsIn K k_NoFit = true) (rit_NoFit : PySem.W.typeIn K (.ref k_NoFit) = some (.type "type")) (ric_NoPlace : PySem.W.isClsIn K k_NoPlace = true) (rit_NoPlace : PySem.W.typeIn K (.ref k_NoPlace) = some (.type "type")) (ric_NoSpot : PySem.W.isClsIn K k_NoSpot = true) (rit_NoSpot : PySem.W.typeIn K (.ref k_NoSpot) = some (.type "type")) (ric_NoText : PySem.W.isClsIn K k_NoText = true) (rit_NoText : PySem.W.typeIn K (.ref k_NoText) = some (.type "type")) (ric_NotEnded : PySem.W.isClsIn K k_NotEnded = true) (rit_NotEnded : PySem.W.typeIn K (.ref k_NotEnded) = some (.type "type"))
 (yNoText_TagError : PySem.W.exmOne K (.ref k_NoText) (.ref k_TagError) = some true)
 (zValueError : PySem.W.nsIn K mainGlobals "ValueError" = some none) (zall : PySem.W.nsIn K mainGlobals "all" = some none) (zbool : PySem.W.nsIn K mainGlobals "bool" = some none) (zenumerate : PySem.W.nsIn K mainGlobals "enumerate" = some none) (zint : PySem.W.nsIn K mainGlobals "int" = some none) (zisinstance : PySem.W.nsIn K mainGlobals "isinstance" = some none) (zlen : PySem.W.nsIn K mainGlobals "len" = some none) (zlist : PySem.W.nsIn K mainGlobals "list" = some none) (zmin : PySem.W.nsIn K mainGlobals "min" = some none) (zrange : PySem.W.nsIn K mainGlobals "range" = some none) (zreversed : PySem.W.nsIn K mainGlobals "reversed" = some none) (zsorted : PySem.W.nsIn K mainGlobals "sorted" = some none) (zstr : PySem.W.nsIn K mainGlobals "str" = some none) (ztuple : PySem.W.nsIn K mainGlobals "tuple" = some none) (zzip : PySem.W.nsIn K mainGlobals "zip" = some none) :
 ∃ fd : FuncData, (∀ (s : Shared) (v : Value), BindsTo s fd ⟨[v], []⟩ [("_law_script", v)]) /\ ∀ base : Heap, K.In base -> base.Ns mainGlobals mg -> O2 l.prog w K mg base CX0 9 fa fd ["_law_script"] (wb0 K) := by
 have e := hfa.symm.trans (PySem.W.mg_of X G a29)
 have e : f29 = fa := by cases e; rfl
 subst e
 obtain ⟨_, _, kV, dc, pm, an, cd, ct, _, rfl, _, _⟩ := id F29.ex
 have b0 := F0.binds (ps := ["word"]) fun _ _ _ _ _ _ us hl => by obtain ⟨_, rfl⟩ := ln1 hl; rfl
 have b1 := F1.binds (ps := ["word"]) fun _ _ _ _ _ _ us hl => by obtain ⟨_, rfl⟩ := ln1 hl; rfl
 have b2 := F2.binds (ps := ["names"]) fun _ _ _ _ _ _ us hl => by obtain ⟨_, rfl⟩ := ln1 hl; rfl
 have b3 := F3.binds (ps := ["rows", "name"]) fun _ _ _ _ _ _ us hl => by obtain ⟨_, _, rfl⟩ := ln2 hl; rfl
 have b4 := F4.binds (ps := ["book", "name"]) fun _ _ _ _ _ _ us hl => by obtain ⟨_, _, rfl⟩ := ln2 hl; rfl
 have b5 := F5.binds (ps := ["book", "name"]) fun _ _ _ _ _ _ us hl => by obtain ⟨_, _, rfl⟩ := ln2 hl; rfl
 have b6 := F6.binds (ps := ["book", "name"]) fun _ _ _ _ _ _ us hl => by obtain ⟨_, _, rfl⟩ := ln2 hl; rfl
 have b7 := F7.binds (ps := ["rows"]) fun _ _ _ _ _ _ us hl => by obtain ⟨_, rfl⟩ := ln1 hl; rfl
 have b8 := F8.binds (ps := ["rows"]) fun _ _ _ _ _ _ us hl => by obtain ⟨_, rfl⟩ := ln1 hl; rfl
 have b9 := F9.binds (ps := ["rows", "row"]) fun _ _ _ _ _ _ us hl => by obtain ⟨_, _, rfl⟩ := ln2 hl; rfl
 have b10 := F10.binds (ps := ["rows", "row"]) fun _ _ _ _ _ _ us hl => by obtain ⟨_, _, rfl⟩ := ln2 hl; rfl
 have b11 := F11.binds (ps := ["rows", "name"]) fun _ _ _ _ _ _ us hl => by obtain ⟨_, _, rfl⟩ := ln2 hl; rfl
 have b12 := F12.binds (ps := ["rows", "row"]) fun _ _ _ _ _ _ us hl => by obtain ⟨_, _, rfl⟩ := ln2 hl; rfl
 have b13 := F13.binds (ps := ["rows", "row"]) fun _ _ _ _ _ _ us hl => by obtain ⟨_, _, rfl⟩ := ln2 hl; rfl
 have b14 := F14.binds (ps := ["rows", "names"]) fun _ _ _ _ _ _ us hl => by obtain ⟨_, _, rfl⟩ := ln2 hl; rfl
 have b15 := F15.binds (ps := ["text"]) fun _ _ _ _ _ _ us hl => by obtain ⟨_, rfl⟩ := ln1 hl; rfl
 have b16 := F16.binds (ps := ["text"]) fun _ _ _ _ _ _ us hl => by obtain ⟨_, rfl⟩ := ln1 hl; rfl
 have b17 := F17.binds (ps := ["words"]) fun _ _ _ _ _ _ us hl => by obtain ⟨_, rfl⟩ := ln1 hl; rfl
 have b18 := F18.binds (ps := ["keyword", "words"]) fun _ _ _ _ _ _ us hl => by obtain ⟨_, _, rfl⟩ := ln2 hl; rfl
 have b19 := F19.binds (ps := ["names"]) fun _ _ _ _ _ _ us hl => by obtain ⟨_, rfl⟩ := ln1 hl; rfl
 have b20 := F20.binds (ps := ["_law_script", "_law_k"]) fun _ _ _ _ _ _ us hl => by obtain ⟨_, _, rfl⟩ := ln2 hl; rfl
 have b21 := F21.binds (ps := ["_law_cell"]) fun _ _ _ _ _ _ us hl => by obtain ⟨_, rfl⟩ := ln1 hl; rfl
 have b22 := F22.binds (ps := ["_law_pot_here", "_law_most"]) fun _ _ _ _ _ _ us hl => by obtain ⟨_, _, rfl⟩ := ln2 hl; rfl
 have b23 := F23.binds (ps := ["_law_cell", "_law_where", "_law_lots"]) fun _ _ _ _ _ _ us hl => by obtain ⟨_, _, _, rfl⟩ := ln3 hl; rfl
 have b24 := F24.binds (ps := ["_law_pot_here", "_law_names_here"]) fun _ _ _ _ _ _ us hl => by obtain ⟨_, _, rfl⟩ := ln2 hl; rfl
 have b25 := F25.binds (ps := ["_law_script", "_law_at", "_law_names_here"]) fun _ _ _ _ _ _ us hl => by obtain ⟨_, _, _, rfl⟩ := ln3 hl; rfl
 have b26 := F26.binds (ps := ["_law_row"]) fun _ _ _ _ _ _ us hl => by obtain ⟨_, rfl⟩ := ln1 hl; rfl
 have b27 := F27.binds (ps := ["_law_row", "_law_number"]) fun _ _ _ _ _ _ us hl => by obtain ⟨_, _, rfl⟩ := ln2 hl; rfl
 have b28 := F28.binds (ps := ["_law_text"]) fun _ _ _ _ _ _ us hl => by obtain ⟨_, rfl⟩ := ln1 hl; rfl
 have b29 := F29.binds (ps := ["_law_script"]) fun _ _ _ _ _ _ us hl => by obtain ⟨_, rfl⟩ := ln1 hl; rfl
 have b30 := F30.binds (ps := ["self", "row"]) fun _ _ _ _ _ _ us hl => by obtain ⟨_, _, rfl⟩ := ln2 hl; rfl
 let t : Adr := { f_is_name := ⟨f0, d0⟩, f_has_letters_of_name := ⟨f1, d1⟩, f_is_rising := ⟨f2, d2⟩, f_row_of := ⟨f3, d3⟩, f_sort_of := ⟨f4, d4⟩, f_host_of := ⟨f5, d5⟩, f_frame_of := ⟨f6, d6⟩, f_first_misfit := ⟨f7, d7⟩, f_first_rows := ⟨f8, d8⟩, f_fits := ⟨f9, d9⟩, f_host_fits := ⟨f10, d10⟩, f_comes_back := ⟨f11, d11⟩, f_shuts_fit := ⟨f12, d12⟩, f_bars_fit := ⟨f13, d13⟩, f_may_be_named := ⟨f14, d14⟩, f_read_book := ⟨f15, d15⟩, f_read_rows := ⟨f16, d16⟩, f_read_row := ⟨f17, d17⟩, f_names_behind := ⟨f18, d18⟩, f_words_for := ⟨f19, d19⟩, f__law_cell_at := ⟨f20, d20⟩, f__law_pot := ⟨f21, d21⟩, f__law_take := ⟨f22, d22⟩, f__law_names := ⟨f23, d23⟩, f__law_some := ⟨f24, d24⟩, f__law_rows := ⟨f25, d25⟩, f__law_line := ⟨f26, d26⟩, f__law_bad_line := ⟨f27, d27⟩, f__law_told := ⟨f28, d28⟩, f_law := ⟨f29, PySem.W.fnOf "law" "law" (qs5 wb7) (qh2 wb7) (B9 wb7) .none kV dc pm an cd ct⟩, a_i_NoText := f30, d_i_NoText := d30, v_LONGEST_NAME := .int 8 k_LONGEST_NAME, v_MOST_ROWS := .int 12 k_MOST_ROWS, v_NAME := .int 0 k_NAME, v_SORT := .int 1 k_SORT, v_HOST := .int 2 k_HOST, v_SHUTS := .int 3 k_SHUTS, v_BARS := .int 4 k_BARS, c_SORTS := c_SORTS, c_HOST_SORTS := c_HOST_SORTS, c_SHUT_OR_BARRED_SORTS := c_SHUT_OR_BARRED_SORTS, c_KEYWORDS := c_KEYWORDS, k_Ended := k_Ended, k_NoBook := k_NoBook, k_NoFit := k_NoFit, k_NoPlace := k_NoPlace, k_NoSpot := k_NoSpot, k_NoText := k_NoText, k_NotEnded := k_NotEnded, k_TagError := k_TagError }
 have T : Txt K mg t := ⟨⟨F0, b0, PySem.W.mg_of X G a0⟩, ⟨F1, b1, PySem.W.mg_of X G a1⟩, ⟨F2, b2, PySem.W.mg_of X G a2⟩, ⟨F3, b3, PySem.W.mg_of X G a3⟩, ⟨F4, b4, PySem.W.mg_of X G a4⟩, ⟨F5, b5, PySem.W.mg_of X G a5⟩, ⟨F6, b6, PySem.W.mg_of X G a6⟩, ⟨F7, b7, PySem.W.mg_of X G a7⟩, ⟨F8, b8, PySem.W.mg_of X G a8⟩, ⟨F9, b9, PySem.W.mg_of X G a9⟩, ⟨F10, b10, PySem.W.mg_of X G a10⟩, ⟨F11, b11, PySem.W.mg_of X G a11⟩, ⟨F12, b12, PySem.W.mg_of X G a12⟩, ⟨F13, b13, PySem.W.mg_of X G a13⟩, ⟨F14, b14, PySem.W.mg_of X G a14⟩, ⟨F15, b15, PySem.W.mg_of X G a15⟩, ⟨F16, b16, PySem.W.mg_of X G a16⟩, ⟨F17, b17, PySem.W.mg_of X G a17⟩, ⟨F18, b18, PySem.W.mg_of X G a18⟩, ⟨F19, b19, PySem.W.mg_of X G a19⟩, ⟨F20, b20, PySem.W.mg_of X G a20⟩, ⟨F21, b21, PySem.W.mg_of X G a21⟩, ⟨F22, b22, PySem.W.mg_of X G a22⟩, ⟨F23, b23, PySem.W.mg_of X G a23⟩, ⟨F24, b24, PySem.W.mg_of X G a24⟩, ⟨F25, b25, PySem.W.mg_of X G a25⟩, ⟨F26, b26, PySem.W.mg_of X G a26⟩, ⟨F27, b27, PySem.W.mg_of X G a27⟩, ⟨F28, b28, PySem.W.mg_of X G a28⟩, ⟨F29, b29, PySem.W.mg_of X G a29⟩, F30, b30, ⟨PySem.W.mg_of X G eNoText, qNoText, a30, tfNoText, kpNoText, bxNoText, ⟨icNoText, itNoText⟩⟩, PySem.W.mg_of X G uSORTS, fun _ => .inr ⟨_, _, _, wSORTS, rfl, rfl, by rw [sizeLine_eq]; show 5 <= _; decide, (.cons ⟨_, rfl⟩ (.cons ⟨_, rfl⟩ (.cons ⟨_, rfl⟩ (.cons ⟨_, rfl⟩ (.cons ⟨_, rfl⟩ .nil)))))⟩, PySem.W.mg_of X G uHOST_SORTS, fun _ => .inr ⟨_, _, _, wHOST_SORTS, rfl, rfl, by rw [sizeLine_eq]; show 2 <= _; decide, (.cons ⟨_, rfl⟩ (.cons ⟨_, rfl⟩ .nil))⟩, PySem.W.mg_of X G uSHUT_OR_BARRED_SORTS, fun _ => .inr ⟨_, _, _, wSHUT_OR_BARRED_SORTS, rfl, rfl, by rw [sizeLine_eq]; show 2 <= _; decide, (.cons ⟨_, rfl⟩ (.cons ⟨_, rfl⟩ .nil))⟩, PySem.W.mg_of X G uKEYWORDS, fun _ => .inr ⟨_, _, _, wKEYWORDS, rfl, rfl, by rw [sizeLine_eq]; show 2 <= _; decide, (.cons ⟨_, rfl⟩ (.cons ⟨_, rfl⟩ .nil))⟩, ⟨PySem.W.mg_of X G uLONGEST_NAME, ⟨_, rfl⟩⟩, ⟨PySem.W.mg_of X G uMOST_ROWS, ⟨_, rfl⟩⟩, ⟨PySem.W.mg_of X G uNAME, ⟨_, rfl⟩⟩, ⟨PySem.W.mg_of X G uSORT, ⟨_, rfl⟩⟩, ⟨PySem.W.mg_of X G uHOST, ⟨_, rfl⟩⟩, ⟨PySem.W.mg_of X G uSHUTS, ⟨_, rfl⟩⟩, ⟨PySem.W.mg_of X G uBARS, ⟨_, rfl⟩⟩, PySem.W.mg_none_of X G zValueError, PySem.W.mg_none_of X G zall, PySem.W.mg_none_of X G zbool, PySem.W.mg_none_of X G zenumerate, PySem.W.mg_none_of X G zint, PySem.W.mg_none_of X G zisinstance, PySem.W.mg_none_of X G zlen, PySem.W.mg_none_of X G zlist, PySem.W.mg_none_of X G zmin, PySem.W.mg_none_of X G zrange, PySem.W.mg_none_of X G zreversed, PySem.W.mg_none_of X G zsorted, PySem.W.mg_none_of X G zstr, PySem.W.mg_none_of X G ztuple, PySem.W.mg_none_of X G zzip, PySem.W.mg_of X G eEnded, PySem.W.mg_of X G eNoBook, PySem.W.mg_of X G eNoFit, PySem.W.mg_of X G eNoPlace, PySem.W.mg_of X G eNoSpot, PySem.W.mg_of X G eNoText, PySem.W.mg_of X G eNotEnded, PySem.W.mg_of X G eTagError, ⟨rga_NoText, rgn_NoText, rcl_NoText, rbx_NoText, rob_NoText, rve_NoText, rs_NoText_Ended, rs_NoText_NoBook, rs_NoText_NoFit, rs_NoText_NoPlace, rs_NoText_NoSpot, rs_NoText_NoText, rs_NoText_NotEnded, ric_Ended, rit_Ended, ric_NoBook, rit_NoBook, ric_NoFit, rit_NoFit, ric_NoPlace, rit_NoPlace, ric_NoSpot, rit_NoSpot, ric_NoText, rit_NoText, ric_NotEnded, rit_NotEnded⟩, yNoText_TagError, ⟨qNoText, saNoText, hyNoText⟩, ⟨⟨gaNoText, gnNoText, clNoText, bxNoText, obNoText⟩, qNoText, hyNoText⟩, ⟨PySem.W.mg_of X G eTagError, bgTagError, brTagError, beTagError⟩⟩
 exact ⟨_, fun s v => .of_eq rfl, fun base _ _ => yu8 T⟩
theorem walk {l : PySem.W.OpenLaw} {q : Program} {loose : List Str} {XP : (Str -> Option Value) -> Heap -> Prop} {as : List Addr} {z t : Nat} {d : DefRec} {K : Params -> Fg} (hn : l.most = some 63) (hdf : d.params.defaults = [])
 (hk : ∀ P, as = (K P).map (·.1)) (h0 : 0 < t)
 (F : ∀ (w : World) (mg : Str -> Option Value) (fa : Addr) (h : Heap), (K w.params).In h -> h.Ns mainGlobals mg -> mg d.name = some (.ref fa) ->
  ∃ fd : FuncData, (∀ (s : Shared) (u : Value), BindsTo s fd ⟨[u], []⟩ [("_law_script", u)]) /\ ∀ base : Heap, (K w.params).In base -> base.Ns mainGlobals mg -> O2 l.prog w (K w.params) mg base CX0 9 fa fd ["_law_script"] (wb0 (K w.params))) :
 PySem.W.WalkX q loose XP (PySem.W.X.obsZ as) (PySem.W.X.valZ K z t) l.row.toRowW d [] (fun f vs => PySem.call f vs) :=
 L2.yf3 (n := 63) (k := 9) (x := "_law_script") (CX := fun _ => CX0) (sp := fun w => wb0 (K w.params)) hn (by decide) hdf ⟨rfl, by decide, by decide⟩ hk h0 F (fun _ _ a ns hl _ hS => ⟨a, ns, rfl, hS, hl, fun _ => rfl⟩) fun _ _ _ _ _ z => z
end My
open PySem PySem.W PyProof.Rows
local macro_rules | `(tactic| x_go) => `(tactic| (refine' L2.yo9 ?l ?c ?k; (case l => k_is); (case c => k_is); (case k => k_is)))
set_option maxRecDepth 100000 in
set_option maxHeartbeats 0 in
theorem PySem.Challenge.cw_tagmend_k04_texts_without_the_form_holds : PySem.Challenge.rw_tagmend_k04_texts_without_the_form.Holds := by
 w_on; o_law; z_head; (case hw => w_witness2)
 k_fill
 refine My.walk (l := PySem.Challenge.rw_tagmend_k04_texts_without_the_form) rfl rfl (fun _ => rfl) (by decide) ?F
 case F =>
  intro w mg fa h KX G hmg
  refine' My.all_mk KX G hmg ?eEnded ?eNoBook ?eNoFit ?eNoPlace ?eNoSpot ?eNoText ?eNotEnded ?eTagError ?a0 ?F0 ?a1 ?F1 ?a2 ?F2 ?a3 ?F3 ?a4 ?F4 ?a5 ?F5 ?a6 ?F6 ?a7 ?F7 ?a8 ?F8 ?a9 ?F9 ?a10 ?F10 ?a11 ?F11 ?a12 ?F12 ?a13 ?F13 ?a14 ?F14 ?a15 ?F15 ?a16 ?F16 ?a17 ?F17 ?a18 ?F18 ?a19 ?F19 ?a20 ?F20 ?a21 ?F21 ?a22 ?F22 ?a23 ?F23 ?a24 ?F24 ?a25 ?F25 ?a26 ?F26 ?a27 ?F27 ?a28 ?F28 ?a29 ?F29 ?a30 ?F30 ?uSORTS ?wSORTS ?uHOST_SORTS ?wHOST_SORTS ?uSHUT_OR_BARRED_SORTS ?wSHUT_OR_BARRED_SORTS ?uKEYWORDS ?wKEYWORDS ?uLONGEST_NAME ?uMOST_ROWS ?uNAME ?uSORT ?uHOST ?uSHUTS ?uBARS ?qNoText ?tfNoText ?kpNoText ?bxNoText ?obNoText ?icNoText ?itNoText ?gaNoText ?gnNoText ?clNoText ?saNoText ?hyNoText ?bgTagError ?brTagError ?beTagError ?rga_NoText ?rgn_NoText ?rcl_NoText ?rbx_NoText ?rob_NoText ?rve_NoText ?rs_NoText_Ended ?rs_NoText_NoBook ?rs_NoText_NoFit ?rs_NoText_NoPlace ?rs_NoText_NoSpot ?rs_NoText_NoText ?rs_NoText_NotEnded ?ric_Ended ?rit_Ended ?ric_NoBook ?rit_NoBook ?ric_NoFit ?rit_NoFit ?ric_NoPlace ?rit_NoPlace ?ric_NoSpot ?rit_NoSpot ?ric_NoText ?rit_NoText ?ric_NotEnded ?rit_NotEnded ?yNoText_TagError ?zValueError ?zall ?zbool ?zenumerate ?zint ?zisinstance ?zlen ?zlist ?zmin ?zrange ?zreversed ?zsorted ?zstr ?ztuple ?zzip
  (case eEnded => k_is); (case eNoBook => k_is); (case eNoFit => k_is); (case eNoPlace => k_is)
  (case eNoSpot => k_is); (case eNoText => k_is); (case eNotEnded => k_is); (case eTagError => k_is)
  (case a0 => k_is); (case F0 => x_go); (case a1 => k_is); (case F1 => x_go)
  (case a2 => k_is); (case F2 => x_go); (case a3 => k_is); (case F3 => x_go)
  (case a4 => k_is); (case F4 => x_go); (case a5 => k_is); (case F5 => x_go)
  (case a6 => k_is); (case F6 => x_go); (case a7 => k_is); (case F7 => x_go)
  (case a8 => k_is); (case F8 => x_go); (case a9 => k_is); (case F9 => x_go)
  (case a10 => k_is); (case F10 => x_go); (case a11 => k_is); (case F11 => x_go)
  (case a12 => k_is); (case F12 => x_go); (case a13 => k_is); (case F13 => x_go)
  (case a14 => k_is); (case F14 => x_go); (case a15 => k_is); (case F15 => x_go)
  (case a16 => k_is); (case F16 => x_go); (case a17 => k_is); (case F17 => x_go)
  (case a18 => k_is); (case F18 => x_go); (case a19 => k_is); (case F19 => x_go)
  (case a20 => k_is); (case F20 => x_go); (case a21 => k_is); (case F21 => x_go)
  (case a22 => k_is); (case F22 => x_go); (case a23 => k_is); (case F23 => x_go)
  (case a24 => k_is); (case F24 => x_go); (case a25 => k_is); (case F25 => x_go)
  (case a26 => k_is); (case F26 => x_go); (case a27 => k_is); (case F27 => x_go)
  (case a28 => k_is); (case F28 => x_go); (case a29 => k_is); (case F29 => x_go)
  (case a30 => k_is); (case F30 => x_go); (case uSORTS => k_is); (case wSORTS => k_is)
  (case uHOST_SORTS => k_is); (case wHOST_SORTS => k_is); (case uSHUT_OR_BARRED_SORTS => k_is); (case wSHUT_OR_BARRED_SORTS => k_is)
  (case uKEYWORDS => k_is); (case wKEYWORDS => k_is); (case uLONGEST_NAME => k_is); (case uMOST_ROWS => k_is)
  (case uNAME => k_is); (case uSORT => k_is); (case uHOST => k_is); (case uSHUTS => k_is)
  (case uBARS => k_is); (case qNoText => kernel_rfl); (case tfNoText => k_is); (case kpNoText => k_is)
  (case bxNoText => k_is); (case obNoText => k_is); (case icNoText => k_is); (case itNoText => k_is)
  (case gaNoText => k_is); (case gnNoText => k_is); (case clNoText => k_is); (case saNoText => k_is)
  (case hyNoText => k_is); (case bgTagError => k_is); (case brTagError => k_is); (case beTagError => k_is)
  (case rga_NoText => k_is); (case rgn_NoText => k_is); (case rcl_NoText => k_is); (case rbx_NoText => k_is)
  (case rob_NoText => k_is); (case rve_NoText => k_is); (case rs_NoText_Ended => k_is); (case rs_NoText_NoBook => k_is)
  (case rs_NoText_NoFit => k_is); (case rs_NoText_NoPlace => k_is); (case rs_NoText_NoSpot => k_is); (case rs_NoText_NoText => k_is)
  (case rs_NoText_NotEnded => k_is); (case ric_Ended => k_is); (case rit_Ended => k_is); (case ric_NoBook => k_is)
  (case rit_NoBook => k_is); (case ric_NoFit => k_is); (case rit_NoFit => k_is); (case ric_NoPlace => k_is)
  (case rit_NoPlace => k_is); (case ric_NoSpot => k_is); (case rit_NoSpot => k_is); (case ric_NoText => k_is)
  (case rit_NoText => k_is); (case ric_NotEnded => k_is); (case rit_NotEnded => k_is); (case yNoText_TagError => kts_exm)
  (case zValueError => k_is); (case zall => k_is); (case zbool => k_is); (case zenumerate => k_is)
  (case zint => k_is); (case zisinstance => k_is); (case zlen => k_is); (case zlist => k_is)
  (case zmin => k_is); (case zrange => k_is); (case zreversed => k_is); (case zsorted => k_is)
  (case zstr => k_is); (case ztuple => k_is); (case zzip => k_is)
end
