import PyProof.Rows.All
import Wide.All
import OpenK.AllK
import Wide.FinOn
import Lean
import PyProof.EqAt
import PyProof.EqKinds
import PyProof.TupleCall
import PyProof.NeData
import PyProof.Rows.StrJoin2
import PyProof.Rows.SortStr
import PyProof.Rows.SortWalk
import KE.KRevIter
import PyProof.Rows.RuleN_isinstance
import PyProof.StrReplace2
import PyProof.StrWalks
import PyProof.Draws
import PyProof.EnumMake
import PyProof.Rows.StrNews2
import PyProof.StrLawsTight
import PyProof.StrLawsReplace
import PyProof.ConsumeWalk
import PyProof.StrLawsFrom
import PyProof.DictValues
import PyProof.Rows.SumAny
import PyProof.SeqI3
import PyProof.NoPylong
import PyProof.Rows.FStrParts
import PyProof.ListRange
import PyProof.ListStr
import PyProof.DictWalks
import PyProof.DictItemsLoops
import PyProof.FactsAll.dict_itemiterator_1
import PyProof.Rows.RegStrFacts
import KE.KDictList
import KE.KDictOf
import PyProof.AttrMissSeq
import PyProof.TupleIter
import PyProof.StrLawsFirst
import PySem.Challenge.RW_tagmend_k06_whole_rows_of_words
set_option Elab.async false
set_option hygiene false
set_option linter.all false
set_option compiler.extract_closed false
set_option genSizeOf false
set_option bootstrap.genMatcherCode false
local macro_rules | `(tactic| omega) => `(tactic| lia)
local macro_rules | `(tactic| walk_at "tk") => `(tactic| first | exact Nat.succ_pos _ | assumption | exact L2.Inv.tk ‹_› | omega)
local macro_rules | `(tactic| z_go) => `(tactic| first | exact Nat.le_of_ble_eq_true rfl | simp)
local macro_rules | `(tactic| walk_at "or") => `(tactic| first | exact .inl rfl | exact .inr rfl)
local macro_rules | `(tactic| walk_at "le") => `(tactic| first | decide | omega)
local macro_rules | `(tactic| walk_at "k") => `(tactic| exact ⟨rfl, rfl, rfl, by decide +kernel, rfl, by decide +kernel, by decide +kernel⟩)
theorem zAu (a : True := by rfl) (b : True := by decide) (c : 0 < 1 := by walk_at "tk") (d : True := by intro _; rfl) (e : True := by first | exact .inl rfl | exact .inr rfl | assumption) : True := a
def zAr : Lean.Syntax := zAu._auto_1
def zAd : Lean.Syntax := zAu._auto_2
def zAt : Lean.Syntax := zAu._auto_3
def zAi : Lean.Syntax := zAu._auto_4
def zAf : Lean.Syntax := zAu._auto_5
theorem PySem.W.Fast.tw5382513681913616496 : True := ⟨⟩
theorem PySem.W.Fast.tw4696980941179526025 : True := ⟨⟩
theorem PySem.W.Fast.tw16228264902101352358 : True := ⟨⟩
theorem PySem.W.Fast.tw14703941139935344335 : True := ⟨⟩
theorem PySem.W.Fast.tw16575684001446879301 : True := ⟨⟩
theorem PySem.W.Fast.tw6474292104248430146 : True := ⟨⟩
theorem PySem.W.Fast.tw4733819044097340512 : True := ⟨⟩
theorem PySem.W.Fast.tw2780560078096092343 : True := ⟨⟩
theorem PySem.W.Fast.tw2773343267059805693 : True := ⟨⟩
theorem PySem.W.Fast.tw17685362212429542042 : True := ⟨⟩
theorem PySem.W.Fast.tw10052694330727037797 : True := ⟨⟩
theorem PySem.W.Fast.tw16112903039329830185 : True := ⟨⟩
theorem PySem.W.Fast.tw7762826570277198317 : True := ⟨⟩
theorem PySem.W.Fast.tw1767034872739144262 : True := ⟨⟩
theorem PySem.W.Fast.tw16281272670259835947 : True := ⟨⟩
noncomputable section
abbrev Fg := PySem.W.Frag
set_option maxRecDepth 100000
namespace L2
open PySem PySem.Spec PyProof.Rows
abbrev Key := Sum Int Str
def wu6 : Key -> Value -> Bool
 | .inl k, v => Value.isInt k v
 | .inr x, v => Value.isStrOf x v
def zj2 (w : World) : Key -> Int
 | .inl k => hashInt k
 | .inr x => hashStr w x
theorem P2 : ∀ {k : Key} {v : Value}, wu6 k v = true -> (∃ i t, k = Sum.inl i /\ v = Value.int i t) \/ (∃ x t, k = Sum.inr x /\ v = Value.str x t)
 | .inl i, v, h => by
   obtain ⟨t, e⟩ := Value.isInt_shape (k := i) (v := v) h
   exact .inl ⟨i, t, rfl, e⟩
 | .inr x, v, h => by
   obtain ⟨t, e⟩ := Value.isStrOf_shape (x := x) (v := v) h
   exact .inr ⟨x, t, rfl, e⟩
theorem xw0 (i : Int) (t : Tok) : wu6 (.inl i) (.int i t) = true := by simp [wu6, Value.isInt]
theorem xw1 (x : Str) (t : Tok) : wu6 (.inr x) (.str x t) = true := by simp [wu6, Value.isStrOf]
theorem yw1 (a b : Int) : decide ((Sum.inl a : Key) = Sum.inl b) = (a == b) := by
 by_cases e : a = b
 ·subst e; simp
 ·have h : ¬ (Sum.inl a : Key) = Sum.inl b := fun q => e (Sum.inl.inj q)
  rw [decide_eq_false h]
  exact (beq_eq_false_iff_ne.mpr e).symm
theorem yw2 (a b : Str) : decide ((Sum.inr a : Key) = Sum.inr b) = decide (a = b) := by
 by_cases e : a = b
 ·subst e; simp
 ·have h : ¬ (Sum.inr a : Key) = Sum.inr b := fun q => e (Sum.inr.inj q)
  rw [decide_eq_false h, decide_eq_false e]
theorem yw3 (a : Int) (b : Str) : decide ((Sum.inl a : Key) = Sum.inr b) = false := decide_eq_false (fun q => nomatch q)
theorem yw4 (a : Str) (b : Int) : decide ((Sum.inr a : Key) = Sum.inl b) = false := decide_eq_false (fun q => nomatch q)
def P3 (prog : Program) (w : World) : PySem.KeyKind prog w Key where
 is := wu6
 hash := zj2 w
 inj := fun v a b ha hb => by
  rcases P2 ha with ⟨i, t, rfl, rfl⟩ | ⟨x, t, rfl, rfl⟩
  ·rcases P2 hb with ⟨j, u, rfl, e⟩ | ⟨y, u, rfl, e⟩
   ·injection e with e1 _; rw [e1]
   ·exact nomatch e
  ·rcases P2 hb with ⟨j, u, rfl, e⟩ | ⟨y, u, rfl, e⟩
   ·exact nomatch e
   ·injection e with e1 _; rw [e1]
 byValue := fun k v h => by
  rcases P2 h with ⟨i, t, rfl, rfl⟩ | ⟨x, t, rfl, rfl⟩ <;> rfl
 pyHash := fun hv h => by
  rcases P2 hv with ⟨i, t, rfl, rfl⟩ | ⟨x, t, rfl, rfl⟩
  ·exact wpAny_pyHash_int h
  ·exact wpAny_pyHash_str h
 eqBool := fun hu hv h => by
  rcases P2 hu with ⟨i, t, rfl, rfl⟩ | ⟨x, t, rfl, rfl⟩
  ·rcases P2 hv with ⟨j, u, rfl, rfl⟩ | ⟨y, u, rfl, rfl⟩
   ·rw [yw1] at h; exact wpAny_eqBool_int h
   ·rw [yw3] at h; exact SeqAt.EqAt.int_str i t y u _ _ _ _ h
  ·rcases P2 hv with ⟨j, u, rfl, rfl⟩ | ⟨y, u, rfl, rfl⟩
   ·rw [yw4] at h; exact SeqAt.EqAt.str_int x t j u _ _ _ _ h
   ·rw [yw2] at h; exact wpAny_eqBool_str h
 «strs» := fun k x t v h => by
  rcases P2 h with ⟨i, u, rfl, e⟩ | ⟨y, u, rfl, e⟩
  ·exact nomatch e
  ·injection e with e1 _
   subst e1
   cases v <;> rfl
theorem xe7 (prog : Program) (w : World) (i : Int) (t : Tok) : (P3 prog w).is (.inl i) (.int i t) = true := xw0 i t
theorem xe8 (prog : Program) (w : World) (x : Str) (t : Tok) : (P3 prog w).is (.inr x) (.str x t) = true := xw1 x t
inductive V where
 | non | bl (b : Bool) | int (i : Int) | str (x : Str) | byt (b : Array UInt8) | flt (b : UInt64) | ref (a : Addr) | ty (n : String)
 deriving DecidableEq
def G2 : V -> Value -> Prop
 | .non, u => u = Value.none
 | .bl b, u => u = Value.bool b
 | .int i, u => ∃ t, u = Value.int i t
 | .str x, u => ∃ t, u = Value.str x t
 | .byt b, u => ∃ t, u = Value.bytes b t
 | .flt b, u => ∃ t, u = Value.float b t
 | .ref a, u => u = Value.ref a
 | .ty n, u => u = Value.type n
abbrev G3 : List V -> List Value -> Prop := Paired G2
variable {us : List Value} {xs : List V}
theorem G3.length (r : G3 xs us) : xs.length = us.length := Paired.length r
theorem G3.get : ∀ {xs : List V} {us : List Value} {i : Nat} {x : V}, G3 xs us -> xs[i]? = some x -> ∃ u, us[i]? = some u /\ G2 x u
 | _, _, _, _, .nil, e => by simp at e
 | _, _, 0, _, .cons r _, e => by simp at e; subst e; exact ⟨_, rfl, r⟩
 | _, _, i + 1, x, .cons _ t, e => by
   obtain ⟨u, h1, h2⟩ := G3.get (i := i) (x := x) t (by simpa using e)
   exact ⟨u, by simpa using h1, h2⟩
theorem G3.set {x : V} {u : Value} (r : G2 x u) : ∀ {xs : List V} {us : List Value} (i : Nat), G3 xs us -> G3 (xs.set i x) (us.set i u)
 | _, _, _, .nil => .nil
 | _, _, 0, .cons _ t => .cons r t
 | _, _, i + 1, .cons q t => .cons q (G3.set r i t)
theorem G3.append : ∀ {xs ys : List V} {us ws : List Value}, G3 xs us -> G3 ys ws -> G3 (xs ++ ys) (us ++ ws)
 | _, _, _, _, .nil, s => s
 | _, _, _, _, .cons r t, s => .cons r (G3.append t s)
theorem G3.take : ∀ {xs : List V} {us : List Value} (n : Nat), G3 xs us -> G3 (xs.take n) (us.take n)
 | _, _, 0, _ => .nil
 | _, _, _ + 1, .nil => .nil
 | _, _, n + 1, .cons r t => .cons r (G3.take n t)
theorem G3.drop : ∀ {xs : List V} {us : List Value} (n : Nat), G3 xs us -> G3 (xs.drop n) (us.drop n)
 | _, _, 0, r => r
 | _, _, _ + 1, .nil => .nil
 | _, _, n + 1, .cons _ t => G3.drop n t
def qr3 : Option V -> Option Value -> Prop
 | some v, some u => G2 v u
 | none, none => True
 | _, _ => False
def KV {κ : Type} : List (κ × V) -> List (κ × Value) -> Prop := Paired fun (p : κ × V) (q : κ × Value) => p.1 = q.1 /\ G2 p.2 q.2
def kV : Key -> V
 | .inl i => .int i
 | .inr x => .str x
set_option genInjectivity false in
inductive HO where
 /-- a list -/
 | lst (xs : List V)
 /-- a tuple (never changes) -/
 | tup (xs : List V)
 /-- a dict whose keys are ints and texts; one whose keys are tuples of ints and texts (the empty one is both) -/
 | dK (kvs : List (Key × V)) | dT (kvs : List (List Key × V))
 /-- a set of ints: its members, its size -/
 | set (S : Int -> Bool) (n : Nat)
 /-- an instance of the class at C, its dict at dx, its attributes -/
 | ins (C dx : Addr) (fs : List (Str × V))
 /-- the dict of the instance at x -/
 | own (x : Addr)
 /-- the dict of an exception -/
 | xd (fs : List (Str × V))
 /-- a bound method, f of x -/
 | met (f x : Addr)
 /-- a range object lo, lo + 1, .. below hi -/
 | rng (lo hi : Int)
 /-- a thing that is known to the object (the script; a dict while a loop walks it): read, never written while it is so -/
 | frz (o : Obj) (u : HO)
 /-- a code object's table -/
 | tbl (ps : Array Value)
 /-- any other thing, by what is true of its one object (a def of one's own: SetO a S n := HO.ext fun h => ..) -/
 | ext (φ : Heap -> Prop)
abbrev Hp := Addr -> Option HO
def upd (H : Hp) (a : Addr) (o : HO) : Hp := fun b => if b = a then some o else H b
variable {H : Hp} {a : Addr}
theorem A8 {o : HO} : upd H a o a = some o := by unfold upd; rw [if_pos rfl]
variable {b : Addr}
theorem C4 {o : HO} (h : b ≠ a) : upd H a o b = H b := by unfold upd; rw [if_neg h]
theorem zd5 {o u : HO} (h : H a = some o) (h' : H b = some u) (d : o ≠ u) : a ≠ b := by
 intro e; subst e; rw [h] at h'; exact d (Option.some.inj h')
theorem P7 {o : HO} (h : H a = some o) (h' : H b = none) : a ≠ b := by
 intro e; subst e; rw [h] at h'; cases h'
section
variable (P : Program) (w : World)
def N1 (H : Hp) (h : Heap) (a : Addr) : HO -> Prop
 | .lst xs => xs.length <= sizeLine /\ ∃ (its : List Value) (n : Nat), G3 xs its /\ h.get? a = some { cls := .type "list", data := .seq its.toArray n }
 | .tup xs => xs.length <= sizeLine /\ ∃ its : List Value, G3 xs its /\ IsTup h a its.toArray
 | .dK kvs => kvs.length <= sizeLine /\ (a == sysModules) = false /\ ∃ vs, KV kvs vs /\ h.DictOf (P3 P w) a vs
 | .dT kvs => kvs.length <= sizeLine /\ (a == sysModules) = false /\ ∃ xs : List (List Key × Addr × Value),
  Paired (fun (p : List Key × V) (q : List Key × Addr × Value) => p.1 = q.1 /\ H q.2.1 = some (.tup (p.1.map kV)) /\ G2 p.2 q.2.2) kvs xs /\
  ∃ o es ep, h.get? a = some o /\ o.ExactDict /\ o.data = .dict es ep /\ es.toList = xs.map (entryOfKey (tupleKind (P3 P w))) /\ (xs.map (·.1)).Nodup
 | .set S n => h.SetOf (intKind P w) a S n
 | .ins C dx fs => H dx = some (.own a) /\ fs.length <= 1000 /\ dx ≠ a /\ h.get? a = some (PySem.W.instObj C dx) /\
  ∃ mA, h.Ns1 dx mA /\ (∀ f, qr3 (fs.lookup f) (mA f)) /\ PySem.Within mA (fs.map (·.1))
 | .own _ => ∃ o, h.get? a = some o
 | .xd fs => ∃ mA, h.Ns1 a mA /\ ∀ f, qr3 (fs.lookup f) (mA f)
 | .rng lo hi => ∃ t u v, h.get? a = some { cls := .type "range", data := .fields #[.int lo t, .int hi u, .int 1 v] }
 | .frz o u => h.get? a = some o /\ N1 H h a u
 | .tbl ps => h.get? a = some { cls := .none, data := .fields ps }
 | .met f x => h.get? a = some (PySem.W.methodObj (.ref f) (.ref x))
 | .ext φ => φ h /\ (∃ o, h.get? a = some o) /\ ∀ h1 h2 : Heap, φ h1 -> (∀ o, h1.get? a = some o -> h2.get? a = some o) -> φ h2
def HOk (H : Hp) (h : Heap) : Prop := ∀ a o, H a = some o -> N1 P w H h a o
end
variable {H' : Hp} {P : Program} {h h' : Heap} {w : World}
section
variable {o : HO}
theorem N1.lt (x : N1 P w H h a o) : a < h.objs.size := by
 cases o with
 | lst xs => obtain ⟨_, _, _, _, e⟩ := x; exact Heap.lt_size e
 | tup xs => obtain ⟨_, _, _, p⟩ := x; exact p.lt
 | dK kvs => obtain ⟨_, _, _, _, o, _, _, e, _⟩ := x; exact Heap.lt_size e
 | dT kvs => obtain ⟨_, _, _, _, o, _, _, e, _⟩ := x; exact Heap.lt_size e
 | set S n => obtain ⟨o, _, _, _, e, _⟩ := x; exact Heap.lt_size e
 | ins C dx fs => obtain ⟨_, _, _, e, _⟩ := x; exact Heap.lt_size e
 | own y => obtain ⟨_, e⟩ := x; exact Heap.lt_size e
 | xd fs => obtain ⟨_, ⟨_, _, _, e, _⟩, _⟩ := x; exact Heap.lt_size e
 | rng lo hi => obtain ⟨_, _, _, e⟩ := x; exact Heap.lt_size e
 | frz ob u => obtain ⟨e, _⟩ := x; exact Heap.lt_size e
 | tbl ps => exact Heap.lt_size (show h.get? a = some _ from x)
 | met f y => exact Heap.lt_size (show h.get? a = some _ from x)
 | ext φ => obtain ⟨_, ⟨_, e⟩, _⟩ := x; exact Heap.lt_size e
theorem Paired.mapP {α β : Type} {F G : α -> β -> Prop} : ∀ {l₁ : List α} {l₂ : List β}, Paired F l₁ l₂ -> (∀ a b, F a b -> G a b) -> Paired G l₁ l₂
 | _, _, .nil, _ => .nil
 | _, _, .cons r t, f => .cons (f _ _ r) (Paired.mapP t f)
theorem N1.stay (x : N1 P w H h a o) (k : ∀ b u, (b = a \/ H b = some (.own a)) -> h.get? b = some u -> h'.get? b = some u) (ho : ∀ b, H b = some (.own a) -> H' b = some (.own a)) (ht : ∀ b xs, H b = some (.tup xs) -> H' b = some (.tup xs)) : N1 P w H' h' a o := by
 induction o with
 | lst xs => obtain ⟨z, its, n, r, e⟩ := x; exact ⟨z, its, n, r, k _ _ (.inl rfl) e⟩
 | tup xs => obtain ⟨z, its, r, ob, e, c⟩ := x; exact ⟨z, its, r, ob, k _ _ (.inl rfl) e, c⟩
 | dK kvs => obtain ⟨z, y, vs, r, ob, es, ep, e, c⟩ := x; exact ⟨z, y, vs, r, ob, es, ep, k _ _ (.inl rfl) e, c⟩
 | dT kvs =>
   obtain ⟨z, y, xs, r, ob, es, ep, e, c⟩ := x
   exact ⟨z, y, xs, Paired.mapP r fun p q z => ⟨z.1, ht _ _ z.2.1, z.2.2⟩, ob, es, ep, k _ _ (.inl rfl) e, c⟩
 | set S n => obtain ⟨ob, es, ep, t, e, c⟩ := x; exact ⟨ob, es, ep, t, k _ _ (.inl rfl) e, c⟩
 | ins C dx fs =>
   obtain ⟨d, z, ne, e, mA, ⟨od, es, ep, e2, c⟩, r⟩ := x
   exact ⟨ho _ d, z, ne, k _ _ (.inl rfl) e, mA, ⟨od, es, ep, k _ _ (.inr d) e2, c⟩, r⟩
 | own y => obtain ⟨ob, e⟩ := x; exact ⟨ob, k _ _ (.inl rfl) e⟩
 | xd fs => obtain ⟨mA, ⟨od, es, ep, e, c⟩, r⟩ := x; exact ⟨mA, ⟨od, es, ep, k _ _ (.inl rfl) e, c⟩, r⟩
 | rng lo hi => obtain ⟨t, u, v, e⟩ := x; exact ⟨t, u, v, k _ _ (.inl rfl) e⟩
 | frz ob u ih => obtain ⟨e, q⟩ := x; exact ⟨k _ _ (.inl rfl) e, ih q⟩
 | tbl ps =>
   have e : h.get? a = some { cls := .none, data := .fields ps } := x
   show h'.get? a = some { cls := .none, data := .fields ps }
   exact k a _ (.inl rfl) e
 | met f y =>
   have e : h.get? a = some (PySem.W.methodObj (.ref f) (.ref y)) := x
   show h'.get? a = some (PySem.W.methodObj (.ref f) (.ref y))
   exact k a _ (.inl rfl) e
 | ext φ => obtain ⟨p, ⟨o, e⟩, st⟩ := x; exact ⟨st _ _ p fun o q => k _ _ (.inl rfl) q, ⟨o, k _ _ (.inl rfl) e⟩, st⟩
theorem HOk.lt (x : HOk P w H h) (e : H a = some o) : a < h.objs.size := (x a o e).lt
theorem HOk.fresh (x : HOk P w H h) (e : h.objs.size <= a) : H a = none := by
 cases q : H a with
 | none => rfl
 | some u => exact absurd (Nat.lt_of_lt_of_le (x.lt q) e) (Nat.lt_irrefl _)
theorem HOk.kept (x : HOk P w H h) (k : ∀ b u, h.get? b = some u -> h'.get? b = some u) : HOk P w H h' := fun a o e =>
 (x a o e).stay (fun b u _ q => k b u q) (fun _ q => q) fun _ _ q => q
theorem HOk.laid (x : HOk P w H h) (k : ∀ b u, h.get? b = some u -> h'.get? b = some u) (hp : h.objs.size <= a) (new : N1 P w (upd H a o) h' a o) : HOk P w (upd H a o) h' := fun b u e => by
 have hn := x.fresh hp
 by_cases hb : b = a
 ·subst hb; rw [A8] at e; cases e; exact new
 ·rw [C4 hb] at e
  exact (x b u e).stay (fun c v _ q => k c v q) (fun c q => by rw [C4 (P7 q hn)]; exact q) fun c xs q => by rw [C4 (P7 q hn)]; exact q
end
def Rd (H : Hp) (a : Addr) (u : HO) : Prop := H a = some u \/ ∃ o, H a = some (.frz o u)
theorem Rd.ok {u : HO} (r : Rd H a u) (x : HOk P w H h) : N1 P w H h a u := by
 rcases r with r | ⟨o, r⟩
 ·exact x a u r
 ·obtain ⟨_, q⟩ := x a _ r
  exact q
def Mut : Option HO -> Prop
 | some (.lst _) => True
 | some (.dK _) => True
 | some (.dT _) => True
 | some (.set _ _) => True
 | some (.ins _ _ _) => True
 | some (.ext _) => True
 | _ => False
section
variable {x e : Addr} {o' : HO}
theorem HOk.write (ok : HOk P w H h) (mu : Mut (H x)) (he : e = x \/ H e = some (.own x)) (k : ∀ b u, b ≠ e -> h.get? b = some u -> h'.get? b = some u) (heo : ∃ u, h'.get? e = some u) (new : N1 P w (upd H x o') h' x o') : HOk P w (upd H x o') h' := fun b u q => by
 have nown : ∀ c y, H c = some (.own y) -> c ≠ x := fun c y r z => by subst z; rw [r] at mu; exact mu
 have ntup : ∀ c xs, H c = some (.tup xs) -> c ≠ x := fun c xs r z => by subst z; rw [r] at mu; exact mu
 by_cases hb : b = x
 ·subst hb; rw [A8] at q; cases q; exact new
 ·rw [C4 hb] at q
  by_cases hbe : b = e
  ·have q' : H b = some (.own x) := by
    rcases he with z | z
    ·exact absurd (hbe.trans z) hb
    ·rw [hbe]; exact z
   rw [q] at q'; cases q'
   obtain ⟨v, hv⟩ := heo
   exact ⟨v, by rw [hbe]; exact hv⟩
  ·refine (ok b u q).stay (fun c v hc r => k c v ?_ r) (fun c r => by rw [C4 (nown c b r)]; exact r) fun c xs r => by rw [C4 (ntup c xs r)]; exact r
   rcases hc with rfl | hc
   ·exact hbe
   ·rintro rfl
    rcases he with z | z
    ·exact nown c b hc z
    ·rw [hc] at z; cases z; exact hb rfl
end
structure Un (fs ex : List Addr) (H H' : Hp) (h h' : Heap) : Prop where
 keep : ∀ b o, h.get? b = some o -> H b = none -> b ∉ fs -> b ∉ ex -> h'.get? b = some o
 slot : ∀ b o, h.get? b = some o -> H b = none -> b ∈ fs -> b ∉ ex -> ∃ sl, h'.get? b = some { o with slots := sl }
 free : ∀ b o, h.get? b = some o -> H b = none -> b ∉ ex -> H' b = none
 there : ∀ b o, h.get? b = some o -> b ∉ ex -> ∃ o', h'.get? b = some o'
 tups : ∀ b xs, H b = some (.tup xs) -> H' b = some (.tup xs)
 frzs : ∀ b o u, H b = some (.frz o u) -> H' b = some (.frz o u)
 tbls : ∀ b ps, H b = some (.tbl ps) -> ∃ more, H' b = some (.tbl (ps ++ more))
variable {H1 H2 : Hp} {h1 h2 : Heap}
section
variable {fs fs' ex ex' : List Addr} {x e : Addr} {o : HO}
theorem Un.any (u : Un fs ex H H1 h h1) {ob : Obj} (q : h.get? b = some ob) (n : H b = none) (hx : b ∉ ex) : ∃ sl, h1.get? b = some { ob with slots := sl } := by
 by_cases hb : b ∈ fs
 ·exact u.slot b ob q n hb hx
 ·exact ⟨ob.slots, u.keep b ob q n hb hx⟩
theorem Un.kept (k : ∀ b u, h.get? b = some u -> h'.get? b = some u) : Un fs ex H H h h' :=
 ⟨fun b ob q _ _ _ => k b ob q, fun b ob q _ _ _ => ⟨ob.slots, k b ob q⟩, fun _ _ _ n _ => n, fun b ob q _ => ⟨ob, k b ob q⟩, fun _ _ q => q, fun _ _ _ q => q, fun _ ps q => ⟨#[], by rw [q]; simp⟩⟩
theorem Un.refl : Un fs ex H H h h := Un.kept fun _ _ q => q
theorem Un.laid (k : ∀ b u, h.get? b = some u -> h'.get? b = some u) (hp : h.objs.size <= a) (hn : H a = none) : Un fs ex H (upd H a o) h h' where
 keep := fun b u q _ _ _ => k b u q
 slot := fun b u q _ _ _ => ⟨u.slots, k b u q⟩
 free := fun b u q n _ => by rw [C4 (Nat.ne_of_lt (Nat.lt_of_lt_of_le (Heap.lt_size q) hp))]; exact n
 there := fun b u q _ => ⟨u, k b u q⟩
 tups := fun b xs q => by rw [C4 (P7 q hn)]; exact q
 frzs := fun b u xs q => by rw [C4 (P7 q hn)]; exact q
 tbls := fun b ps q => ⟨#[], by rw [C4 (P7 q hn), q]; simp⟩
theorem Un.write (mu : Mut (H x)) (he : e = x \/ H e = some (.own x)) (k : ∀ b u, b ≠ e -> h.get? b = some u -> h'.get? b = some u) (heo : ∃ u, h'.get? e = some u) : Un fs ex H (upd H x o) h h' := by
 have hx : ∀ b, H b = none -> b ≠ x := fun b n z => by subst z; rw [n] at mu; exact mu
 have hb : ∀ b, H b = none -> b ≠ e := fun b n z => by
  subst z
  rcases he with r | r
  ·exact hx b n r
  ·rw [n] at r; cases r
 have hm : ∀ b u, H b = some u -> ¬ Mut (some u) -> b ≠ x := fun b u q nm z => by subst z; rw [q] at mu; exact nm mu
 refine ⟨fun b u q n _ _ => k b u (hb b n) q, fun b u q n _ _ => ⟨u.slots, k b u (hb b n) q⟩, fun b u q n _ => by rw [C4 (hx b n)]; exact n, fun b u q _ => ?_,
  fun b xs q => by rw [C4 (hm b _ q fun z => z)]; exact q, fun b u xs q => by rw [C4 (hm b _ q fun z => z)]; exact q, fun b ps q => ⟨#[], by rw [C4 (hm b _ q fun z => z), q]; simp⟩⟩
 by_cases hbe : b = e
 ·subst hbe; exact heo
 ·exact ⟨u, k b u hbe q⟩
end
def trk (h : Heap) (H : Hp) : List Addr := (List.range h.objs.size).filter fun a => (H a).isSome
def wx0 (h : Heap) (H : Hp) : Heap := PySem.W.hideAll h (trk h H)
theorem xw2 (h : Heap) (H : Hp) : (wx0 h H).objs.size = h.objs.size := PySem.W.hideAll_size _ _
variable {o : Obj}
theorem yc2 (e : h.get? b = some o) (n : H b = none) : (wx0 h H).get? b = some o :=
 PySem.W.hideAll_get _ e fun hm => by
  have q : (H b).isSome = true := (List.mem_filter.mp hm).2
  rw [n] at q; simp at q
theorem yn6 (e : (wx0 h H).get? b = some o) : h.get? b = some o /\ H b = none := by
 have e' : h.get? b = some o := PySem.W.of_hideAll (trk h H) e
 refine ⟨e', ?_⟩
 cases q : H b with
 | none => rfl
 | some x =>
   have hm : b ∈ trk h H := List.mem_filter.mpr ⟨List.mem_range.mpr (Heap.lt_size e'), by simp [q]⟩
   have z : (wx0 h H).get? b = none := PySem.W.hideAll_none (trk h H) hm
   rw [z] at e; cases e
structure Mod (K : Fg) (mg : Str -> Option Value) (base : Heap) : Prop where
 kin : K.In base
 glob : base.Ns mainGlobals mg
 blt : ∃ mb, base.Ns builtinsNs mb /\ ∀ x : Str, x ≠ "__name__" -> mb x = bootBuiltins x
 nolimit : base.NoLimit
set_option genInjectivity false in
structure Cx where
 prog : Program
 w : World
 K : Fg
 mg : Str -> Option Value
 base : Heap
 A : Around
 N : List Str
 s₀ : Shared
 H₀ : Hp
 env : Env
 outer : List Env
 stack : List Env
 ex : List Addr
 fn : Str -> Bool
 calm : Bool
 pn : List (Addr × Obj)
 xe : Value -> Shared -> Prop
def frs (l : List Env) : List Addr := l.filterMap (·.frame)
abbrev Cx.fs (X : Cx) : List Addr := frs X.outer
def Vis (sc : Scope) (x : Str) : Prop := sc.names.lookup x = some .local \/ sc.names.lookup x = some .cell \/ sc.names.lookup x = some .free
def Loc (sc : Scope) (x : Str) : Prop := sc.names.lookup x = some .local \/ sc.names.lookup x = some .cell
def zj3 (env : Env) (h : Heap) (m : Str -> Option Value) (x : Str) (u : Value) : Prop :=
 (env.kindOf x = some .local /\ m x = some u) \/ ((env.kindOf x = some .cell \/ env.kindOf x = some .free) /\ ∃ c, env.cells.lookup x = some c /\ h.IsCell c (some u))
structure Cx.Ok (X : Cx) : Prop where
 mod : Mod X.K X.mg X.base
 kind : X.env.scope.kind = .function
 glob : X.env.globals = mainGlobals
 blt : X.env.builtins = builtinsNs
 above : X.s₀.heap.objs.size <= X.env.locals
 inj : ∀ x y c, X.env.cells.lookup x = some c -> X.env.cells.lookup y = some c -> x = y
 has : ∀ x, (X.env.kindOf x = some .cell \/ X.env.kindOf x = some .free) -> ∃ c, X.env.cells.lookup x = some c
 cab : ∀ x c, X.fn x = true -> X.env.cells.lookup x = some c -> X.s₀.heap.objs.size <= c
 hd : X.calm = true -> X.A.handled = none
 frames : X.A.frames = some X.stack
 stk : X.stack = X.outer \/ (X.stack = X.env :: X.outer /\ X.env.frame = some X.env.locals)
 exf : ∀ b ∈ X.ex, b ≠ X.env.locals /\ ∀ x c, X.env.cells.lookup x = some c -> c ≠ b
 bs : ∀ b o, X.base.get? b = some o -> X.s₀.heap.get? b = some o /\ X.H₀ b = none
 bsz : X.base.objs.size <= X.s₀.heap.objs.size
 noex : ∀ b o, X.base.get? b = some o -> b ∉ X.ex
 exfs : ∀ b ∈ X.ex, b ∉ X.fs
 funs : X.s₀.heap.FunFrames X.base X.outer
 frf : ∀ b ∈ X.fs, X.H₀ b = none
structure Inv (X : Cx) (pins : List (Addr × Obj)) (σ : List (Option V)) (H : Hp) (s : Shared) : Prop where
 ok : X.Ok
 os : s.os = X.s₀.os
 bare : AllBare s.gens
 base : Un X.fs X.ex X.H₀ H X.s₀.heap s.heap
 loc : ∃ m, s.heap.Ns X.env.locals m /\ ∀ (i : Nat) (x : Str) (v : V), X.N[i]? = some x -> σ[i]? = some (some v) -> Vis X.env.scope x -> ∃ u, G2 v u /\ zj3 X.env s.heap m x u
 cell : ∀ x c, X.env.cells.lookup x = some c -> ∃ v, s.heap.IsCell c v
 free : H X.env.locals = none
 freeC : ∀ x c, X.env.cells.lookup x = some c -> H c = none
 pin : ∀ p ∈ X.pn ++ pins, s.heap.get? p.1 = some p.2 /\ H p.1 = none /\ p.1 ≠ X.env.locals /\ p.1 ∉ X.fs /\ ∀ v, p.2.data ≠ .cell v
 hok : HOk X.prog X.w H s.heap
 len : σ.length = X.N.length
 tk : 0 < s.toks
variable {X : Cx} {pins : List (Addr × Obj)} {s : Shared} {d' : Drawn} {g' : Array GenState} {t' : Nat} {it : Addr} {N : List Str} {x : Str} {A : Around} {E : Value -> Shared -> Prop} {M : Model} {u : Value} {v : V}
section
variable {σ : List (Option V)}
theorem Cx.Ok.nofr (ok : X.Ok) (e : X.base.get? b = some o) : b ∉ X.fs := fun hb => by
 have := (ok.funs.mem hb).1
 rw [e] at this; cases this
theorem Inv.bs (I : Inv X pins σ H s) : ∀ b o, X.base.get? b = some o -> s.heap.get? b = some o /\ H b = none := fun b o e =>
 ⟨I.base.keep b o (I.ok.bs b o e).1 (I.ok.bs b o e).2 (I.ok.nofr e) (I.ok.noex b o e), I.base.free b o (I.ok.bs b o e).1 (I.ok.bs b o e).2 (I.ok.noex b o e)⟩
theorem Inv.bk (I : Inv X pins σ H s) : ∀ b o, X.base.get? b = some o -> s.heap.get? b = some o := fun b o e => (I.bs b o e).1
theorem Inv.mod (I : Inv X pins σ H s) : Mod X.K X.mg X.base := I.ok.mod
theorem Inv.kIn (I : Inv X pins σ H s) : X.K.In s.heap := I.ok.mod.kin.keeps I.bk
theorem Inv.lt (I : Inv X pins σ H s) : X.env.locals < s.heap.objs.size := let ⟨_, hn, _⟩ := I.loc; hn.lt
theorem Inv.sz (I : Inv X pins σ H s) : X.s₀.heap.objs.size <= s.heap.objs.size := Nat.le_trans I.ok.above (Nat.le_of_lt I.lt)
theorem Inv.nofs (I : Inv X pins σ H s) (h : s.heap.objs.size <= a) : a ∉ X.fs := fun hb => by
 obtain ⟨_, o, ho, _⟩ := I.ok.funs.mem hb
 exact absurd (Nat.lt_of_lt_of_le (Heap.lt_size ho) (Nat.le_trans I.sz h)) (Nat.lt_irrefl _)
theorem Inv.cne (I : Inv X pins σ H s) : ∀ x c, X.env.cells.lookup x = some c -> c ≠ X.env.locals := fun x c e z => by
 obtain ⟨v, o, ho, hd⟩ := I.cell x c e
 obtain ⟨m, ⟨o', es, ep, ho', hd', _⟩, _⟩ := I.loc
 rw [z, ho'] at ho; cases ho; rw [hd'] at hd; cases hd
theorem Inv.funs (I : Inv X pins σ H s) : s.heap.FunFrames X.base X.outer := by
 have all : ∀ (l : List Env), (∀ b ∈ frs l, b ∈ X.fs) -> X.s₀.heap.FunFrames X.base l -> s.heap.FunFrames X.base l := by
  intro l
  induction l with
  | nil => intro _ _; trivial
  | cons env r ih =>
    intro hs hl
    obtain ⟨hk, ⟨L, o, hf, hn, ho, hd⟩, hr⟩ := hl
    have hL : L ∈ X.fs := hs L (by unfold frs; rw [List.filterMap_cons, hf]; exact List.mem_cons_self)
    obtain ⟨sl, e⟩ := I.base.slot L o ho (I.ok.frf L hL) hL fun z => I.ok.exfs L z hL
    exact ⟨hk, ⟨L, _, hf, hn, e, hd⟩, ih (fun b hb => hs b (by unfold frs; rw [List.filterMap_cons, hf]; exact List.mem_cons_of_mem _ hb)) hr⟩
 exact all X.outer (fun _ hb => hb) I.ok.funs
theorem Inv.stack (I : Inv X pins σ H s) : s.heap.FunFrames X.base X.stack := by
 rcases I.ok.stk with e | ⟨e, hf⟩
 ·rw [e]; exact I.funs
 ·rw [e]
  obtain ⟨m, hn, _⟩ := I.loc
  refine .cons (by rw [I.ok.kind]; decide) hf hn ?_ I.funs
  exact Heap.get?_none_of_le (Nat.le_trans I.ok.bsz I.ok.above)
theorem Inv.stkSub (I : Inv X pins σ H s) : ∀ b ∈ frs X.stack, b ∈ X.env.locals :: X.fs := fun b hb => by
 rcases I.ok.stk with e | ⟨e, hf⟩
 ·rw [e] at hb; exact List.mem_cons_of_mem _ hb
 ·rw [e] at hb
  unfold frs at hb
  rw [List.filterMap_cons, hf] at hb
  exact hb
theorem Inv.stkFree (I : Inv X pins σ H s) : ∀ b ∈ frs X.stack, H b = none := fun b hb => by
 rcases List.mem_cons.mp (I.stkSub b hb) with e | hb
 ·rw [e]; exact I.free
 ·obtain ⟨_, o, ho, _⟩ := I.ok.funs.mem hb
  exact I.base.free b o ho (I.ok.frf b hb) fun z => I.ok.exfs b z hb
theorem Inv.step {ch : List Addr} (I : Inv X pins σ H s) (hch : ∀ b ∈ ch, (b ∈ X.ex \/ X.s₀.heap.objs.size <= b) /\ b ≠ X.env.locals /\ (∀ x c, X.env.cells.lookup x = some c -> c ≠ b) /\ ∀ p ∈ X.pn ++ pins, p.1 ≠ b) (keep : ∀ b o, b ≠ X.env.locals -> b ∉ X.fs -> b ∉ ch -> s.heap.get? b = some o -> H b = none -> h'.get? b = some o) (slot : ∀ b o, b ≠ X.env.locals -> b ∈ X.fs -> b ∉ ch -> s.heap.get? b = some o -> H b = none -> ∃ sl, h'.get? b = some { o with slots := sl }) (free : ∀ b o, b ∉ ch -> s.heap.get? b = some o -> H b = none -> H' b = none) (there : ∀ b o, b ∉ ch -> s.heap.get? b = some o -> ∃ o', h'.get? b = some o') (tups : ∀ b xs, H b = some (.tup xs) -> H' b = some (.tup xs)) (frzs : ∀ b o u, H b = some (.frz o u) -> H' b = some (.frz o u)) (tbls : ∀ b ps, H b = some (.tbl ps) -> ∃ more, H' b = some (.tbl (ps ++ more))) (ns : ∀ m, s.heap.Ns X.env.locals m -> h'.Ns X.env.locals m) (hok : HOk X.prog X.w H' h') (hg : AllBare g') (ht : autoParam (0 < t') zAt) :
 Inv X pins σ H' { s with heap := h', gens := g', drawn := d', toks := t' } := by
 have neL : ∀ b o, X.s₀.heap.get? b = some o -> b ≠ X.env.locals := fun b o e => Nat.ne_of_lt (Nat.lt_of_lt_of_le (Heap.lt_size e) I.ok.above)
 have neC : ∀ b o, X.s₀.heap.get? b = some o -> b ∉ X.ex -> b ∉ ch := fun b o e hx hb => by
  rcases (hch b hb).1 with z | z
  ·exact hx z
  ·exact absurd (Nat.lt_of_lt_of_le (Heap.lt_size e) z) (Nat.lt_irrefl _)
 have cellK : ∀ x c, X.env.cells.lookup x = some c -> ∀ v, s.heap.IsCell c v -> h'.IsCell c v := fun x c e v ⟨o, ho, hd⟩ => by
  have nch : c ∉ ch := fun z => (hch c z).2.2.1 x c e rfl
  by_cases hc : c ∈ X.fs
  ·obtain ⟨sl, q⟩ := slot c o (I.cne x c e) hc nch ho (I.freeC x c e)
   exact ⟨_, q, hd⟩
  ·exact ⟨o, keep c o (I.cne x c e) hc nch ho (I.freeC x c e), hd⟩
 refine ⟨I.ok, I.os, hg, ⟨fun b o e n hb hx => ?_, fun b o e n hb hx => ?_, fun b o e n hx => ?_, fun b o e hx => ?_, fun b xs e => tups b xs (I.base.tups b xs e), fun b o xs e => frzs b o xs (I.base.frzs b o xs e), fun b ps e => ?_⟩, ?_, fun x c e => ?_, ?_, fun x c e => ?_, fun p hp => ?_, hok, I.len, ht⟩
 ·exact keep b o (neL b o e) hb (neC b o e hx) (I.base.keep b o e n hb hx) (I.base.free b o e n hx)
 ·obtain ⟨sl, e1⟩ := I.base.slot b o e n hb hx
  obtain ⟨sl', e2⟩ := slot b _ (neL b o e) hb (neC b o e hx) e1 (I.base.free b o e n hx)
  exact ⟨sl', e2⟩
 ·obtain ⟨o', e1⟩ := I.base.there b o e hx
  exact free b o' (neC b o e hx) e1 (I.base.free b o e n hx)
 ·obtain ⟨o', e1⟩ := I.base.there b o e hx
  exact there b o' (neC b o e hx) e1
 ·obtain ⟨m1, e1⟩ := I.base.tbls b ps e
  obtain ⟨m2, e2⟩ := tbls b _ e1
  exact ⟨m1 ++ m2, by rw [e2, Array.append_assoc]⟩
 ·obtain ⟨m, hn, hl⟩ := I.loc
  refine ⟨m, ns m hn, fun i x v e1 e2 e3 => ?_⟩
  obtain ⟨u, r, l⟩ := hl i x v e1 e2 e3
  refine ⟨u, r, ?_⟩
  rcases l with l | ⟨k, c, e, z⟩
  ·exact .inl l
  ·exact .inr ⟨k, c, e, cellK x c e _ z⟩
 ·obtain ⟨v, z⟩ := I.cell x c e
  exact ⟨v, cellK x c e v z⟩
 ·obtain ⟨m, ⟨o, _, _, ho, _⟩, _⟩ := I.loc
  exact free _ o (fun z => (hch _ z).2.1 rfl) ho I.free
 ·obtain ⟨v, o, ho, hd⟩ := I.cell x c e
  exact free c o (fun z => (hch c z).2.2.1 x c e rfl) ho (I.freeC x c e)
 ·obtain ⟨e, n, ne, nf, d⟩ := I.pin p hp
  have nch : p.1 ∉ ch := fun z => (hch p.1 z).2.2.2 p hp rfl
  exact ⟨keep p.1 p.2 ne nf nch e n, free p.1 p.2 nch e n, ne, nf, d⟩
theorem Inv.un (I : Inv X pins σ H s) (u : Un X.fs [] H H' s.heap h') (hok : HOk X.prog X.w H' h') (ht : autoParam (0 < t') zAt) : Inv X pins σ H' { s with heap := h', toks := t' } := by
 obtain ⟨m, ⟨o, es, ep, ho, r⟩, _⟩ := id I.loc
 obtain ⟨sl, hL⟩ := u.any ho I.free (by simp)
 exact I.step (g' := s.gens) (d' := s.drawn) (ch := []) (fun _ z => nomatch z) (fun b o _ hb _ e n => u.keep b o e n hb (by simp)) (fun b o _ hb _ e n => u.slot b o e n hb (by simp)) (fun b o _ e n => u.free b o e n (by simp)) (fun b o _ e => u.there b o e (by simp)) u.tups u.frzs u.tbls (fun m' hm => by
  obtain ⟨o', es', ep', ho', r'⟩ := hm
  rw [ho] at ho'; cases ho'
  exact ⟨_, es', ep', hL, r'⟩) hok I.bare
theorem Inv.call {ch : List Addr} (I : Inv X pins σ H s) (u : Un (frs X.stack) ch H H' s.heap h') (hok : HOk X.prog X.w H' h') (hg : AllBare g') (hch : ∀ b ∈ ch, (b ∈ X.ex \/ X.s₀.heap.objs.size <= b) /\ b ≠ X.env.locals /\ (∀ x c, X.env.cells.lookup x = some c -> c ≠ b) /\ ∀ p ∈ X.pn ++ pins, p.1 ≠ b) (ht : autoParam (0 < t') zAt) :
 Inv X pins σ H' { s with heap := h', gens := g', drawn := d', toks := t' } := by
 obtain ⟨m, ⟨o, es, ep, ho, r⟩, _⟩ := id I.loc
 obtain ⟨sl, hL⟩ := u.any ho I.free fun z => (hch _ z).2.1 rfl
 exact I.step (ch := ch) hch (fun b o hL hb hc e n => u.keep b o e n (fun z => (List.mem_cons.mp (I.stkSub b z)).elim hL hb) hc) (fun b o _ _ hc e n => u.any e n hc) (fun b o hc e n => u.free b o e n hc) (fun b o hc e => u.there b o e hc) u.tups u.frzs u.tbls (fun m' hm => by
  obtain ⟨o', es', ep', ho', r'⟩ := hm
  rw [ho] at ho'; cases ho'
  exact ⟨_, es', ep', hL, r'⟩) hok hg
theorem Inv.turned (I : Inv X pins σ H s) (k : ∀ b o, b ≠ it -> s.heap.get? b = some o -> h'.get? b = some o) (hn : H it = none) (hL : it ≠ X.env.locals) (h1 : it ∈ X.ex \/ X.s₀.heap.objs.size <= it) (h2 : ∀ x c, X.env.cells.lookup x = some c -> c ≠ it) (h3 : ∀ p ∈ X.pn ++ pins, p.1 ≠ it) (ht : autoParam (0 < t') zAt) : Inv X pins σ H { s with heap := h', toks := t' } := by
 have nit : ∀ b u, H b = some u -> b ≠ it := fun b u e z => by rw [z, hn] at e; cases e
 refine I.step (g' := s.gens) (d' := s.drawn) (ch := [it]) (fun b hb => ?_) (fun b o _ _ hc e _ => k b o (fun z => hc (by simp [z])) e) (fun b o _ _ hc e _ => ⟨o.slots, k b o (fun z => hc (by simp [z])) e⟩) (fun _ _ _ _ n => n)
  (fun b o hc e => ⟨o, k b o (fun z => hc (by simp [z])) e⟩) (fun _ _ e => e) (fun _ _ _ e => e) (fun b ps e => ⟨#[], by rw [e]; simp⟩) (fun m hm => ?_) (fun b u e => ?_) I.bare
 ·have e : b = it := by simpa using hb
  subst e
  exact ⟨h1, hL, h2, h3⟩
 ·obtain ⟨o, es, ep, ho, r⟩ := hm
  exact ⟨o, es, ep, k _ o (Ne.symm hL) ho, r⟩
 ·refine (I.hok b u e).stay (fun c v hc q => k c v ?_ q) (fun _ q => q) fun _ _ q => q
  rcases hc with z | z
  ·rw [z]; exact nit b u e
  ·exact nit c _ z
theorem Inv.tok (I : Inv X pins σ H s) (t' : Nat) (ht : autoParam (0 < t') zAt) : Inv X pins σ H { s with toks := t' } := I.un (h' := s.heap) (t' := t') Un.refl I.hok
theorem Inv.kept (I : Inv X pins σ H s) (k : ∀ b u, s.heap.get? b = some u -> h'.get? b = some u) (ht : autoParam (0 < t') zAt) : Inv X pins σ H { s with heap := h', toks := t' } := I.un (Un.kept k) (I.hok.kept k)
theorem Inv.laid {o : HO} (I : Inv X pins σ H s) (k : ∀ b u, s.heap.get? b = some u -> h'.get? b = some u) (hp : s.heap.objs.size <= a) (new : N1 X.prog X.w (upd H a o) h' a o) (ht : autoParam (0 < t') zAt) :
 Inv X pins σ (upd H a o) { s with heap := h', toks := t' } := I.un (Un.laid k hp (I.hok.fresh hp)) (I.hok.laid k hp new)
theorem Inv.write {x e : Addr} {o : HO} (I : Inv X pins σ H s) (mu : Mut (H x)) (he : e = x \/ H e = some (.own x)) (k : ∀ b u, b ≠ e -> s.heap.get? b = some u -> h'.get? b = some u) (heo : ∃ u, h'.get? e = some u) (new : N1 X.prog X.w (upd H x o) h' x o) (ht : autoParam (0 < t') zAt) : Inv X pins σ (upd H x o) { s with heap := h', toks := t' } := I.un (Un.write mu he k heo) (I.hok.write mu he k heo new)
theorem Inv.weak {σ' : List (Option V)} (I : Inv X pins σ H s) (hl : σ'.length = σ.length) (w : ∀ (i : Nat) v, σ'[i]? = some (some v) -> σ[i]? = some (some v)) : Inv X pins σ' H s :=
 ⟨I.ok, I.os, I.bare, I.base, let ⟨m, hn, hl'⟩ := I.loc; ⟨m, hn, fun i x v e1 e2 e3 => hl' i x v e1 (w i v e2) e3⟩, I.cell, I.free, I.freeC, I.pin, I.hok, hl.trans I.len, I.tk⟩
theorem Inv.pins_of {pins' : List (Addr × Obj)} (I : Inv X pins σ H s) (h : ∀ p ∈ pins', s.heap.get? p.1 = some p.2 /\ H p.1 = none /\ p.1 ≠ X.env.locals /\ p.1 ∉ X.fs /\ ∀ v, p.2.data ≠ .cell v) : Inv X pins' σ H s :=
 ⟨I.ok, I.os, I.bare, I.base, I.loc, I.cell, I.free, I.freeC, fun p hp => (List.mem_append.mp hp).elim (fun z => I.pin p (List.mem_append_left _ z)) (h p), I.hok, I.len, I.tk⟩
theorem wi6 (hN : N.Nodup) {i j : Nat} (a : N[i]? = some x) (b : N[j]? = some x) : i = j := by
 obtain ⟨h1, e1⟩ := List.getElem?_eq_some_iff.mp a
 obtain ⟨h2, e2⟩ := List.getElem?_eq_some_iff.mp b
 exact (List.getElem_inj hN).mp (e1.trans e2.symm)
theorem wu7 {i : Nat} {Q : Unit -> Shared -> Prop} (I : Inv X pins σ H s) (hN : X.N.Nodup) (hi : X.N[i]? = some x) (hx : Loc X.env.scope x) (r : G2 v u) (h : ∀ s', Inv X pins (σ.set i (some v)) H s' -> (∃ a, Heap.SameBut a s.heap s'.heap /\ (a = X.env.locals \/ X.env.cells.lookup x = some a)) -> Q () s') (hf : autoParam (X.fn x = true \/ X.env.scope.names.lookup x = some .local) zAf) : wpAny M A (storeName X.env x u) Q E s := by
 obtain ⟨m, hn, hl⟩ := id I.loc
 have hcls : (X.env.scope.kind == .class || (X.env.scope.kind == .module && X.env.locals != X.env.globals)) = false := by rw [I.ok.kind]; rfl
 have hiσ : i < σ.length := by rw [I.len]; exact (List.getElem?_eq_some_iff.mp hi).1
 have cne := I.cne
 have tracked : ∀ {a : Addr} {h' : Heap}, (∃ o, s.heap.get? a = some o /\ H a = none) -> Heap.SameBut a s.heap h' -> HOk X.prog X.w H h' := fun {a h'} ha hs b ob e => by
  obtain ⟨_, _, hfree⟩ := ha
  refine (I.hok b ob e).stay (fun c w' hc q => (hs.2 c ?_).trans q) (fun _ q => q) fun _ _ q => q
  rintro rfl
  rcases hc with rfl | hc
  ·rw [hfree] at e; cases e
  ·rw [hfree] at hc; cases hc
 rcases hx with hk | hk
 ·refine wpAny_storeName_local hk hn (fun h' hn' hs => ?_) hcls
  obtain ⟨oL, _, _, hoL, _⟩ := id hn
  refine h _ ⟨I.ok, I.os, I.bare, ⟨fun b o e n hb hx => ?_, fun b o e n hb hx => ?_, I.base.free, fun b o e hx => ?_, I.base.tups, I.base.frzs, I.base.tbls⟩, ⟨_, hn', fun j y v' e1 e2 e3 => ?_⟩, fun y c e => ?_, I.free, I.freeC, fun p hp => ?_, tracked ⟨oL, hoL, I.free⟩ hs, by simpa using I.len, by first | exact I.tk | exact Nat.succ_pos _⟩ ⟨_, hs, .inl rfl⟩
  ·exact (hs.2 b (Nat.ne_of_lt (Nat.lt_of_lt_of_le (Heap.lt_size e) I.ok.above))).trans (I.base.keep b o e n hb hx)
  ·obtain ⟨sl, e1⟩ := I.base.slot b o e n hb hx
   exact ⟨sl, (hs.2 b (Nat.ne_of_lt (Nat.lt_of_lt_of_le (Heap.lt_size e) I.ok.above))).trans e1⟩
  ·obtain ⟨o', e1⟩ := I.base.there b o e hx
   exact ⟨o', (hs.2 b (Nat.ne_of_lt (Nat.lt_of_lt_of_le (Heap.lt_size e) I.ok.above))).trans e1⟩
  ·by_cases hj : j = i
   ·subst hj
    rw [hi] at e1; cases e1
    rw [List.getElem?_set_self hiσ] at e2
    cases e2
    exact ⟨u, r, .inl ⟨hk, by simp⟩⟩
   ·rw [List.getElem?_set_ne (Ne.symm hj)] at e2
    obtain ⟨u', r', q⟩ := hl j y v' e1 e2 e3
    refine ⟨u', r', ?_⟩
    rcases q with ⟨k, e⟩ | ⟨k, c, e, z⟩
    ·refine .inl ⟨k, ?_⟩
     have : y ≠ x := fun e => hj (wi6 hN e1 (e ▸ hi))
     simp [this, e]
    ·exact .inr ⟨k, c, e, z.sameBut hs (cne y c e)⟩
  ·obtain ⟨w', z⟩ := I.cell y c e
   exact ⟨w', z.sameBut hs (cne y c e)⟩
  ·obtain ⟨e, n, ne, nf, d⟩ := I.pin p hp
   exact ⟨(hs.2 p.1 ne).trans e, n, ne, nf, d⟩
 ·have hfn : X.fn x = true := by
   rcases hf with z | z
   ·exact z
   ·rw [z] at hk; cases hk
  obtain ⟨c, hc⟩ := I.ok.has x (.inl hk)
  obtain ⟨w', z⟩ := I.cell x c hc
  refine wpAny_storeName_cell I.ok.kind hk hc z (fun h' hc' hs => ?_)
  obtain ⟨oc, hoc, hocd⟩ := id z
  refine h { s with heap := h' } ⟨I.ok, I.os, I.bare, ⟨fun b o e n hb hx => ?_, fun b o e n hb hx => ?_, I.base.free, fun b o e hx => ?_, I.base.tups, I.base.frzs, I.base.tbls⟩, ⟨m, hn.sameBut hs (Ne.symm (cne x c hc)), fun j y v' e1 e2 e3 => ?_⟩, fun y c' e => ?_, I.free, I.freeC, fun p hp => ?_, tracked ⟨oc, hoc, I.freeC x c hc⟩ hs, by simpa using I.len, by first | exact I.tk | exact Nat.succ_pos _⟩ ⟨c, hs, .inr hc⟩
  ·exact (hs.2 b (Nat.ne_of_lt (Nat.lt_of_lt_of_le (Heap.lt_size e) (I.ok.cab x c hfn hc)))).trans (I.base.keep b o e n hb hx)
  ·obtain ⟨sl, e1⟩ := I.base.slot b o e n hb hx
   exact ⟨sl, (hs.2 b (Nat.ne_of_lt (Nat.lt_of_lt_of_le (Heap.lt_size e) (I.ok.cab x c hfn hc)))).trans e1⟩
  ·obtain ⟨o', e1⟩ := I.base.there b o e hx
   exact ⟨o', (hs.2 b (Nat.ne_of_lt (Nat.lt_of_lt_of_le (Heap.lt_size e) (I.ok.cab x c hfn hc)))).trans e1⟩
  ·by_cases hj : j = i
   ·subst hj
    rw [hi] at e1; cases e1
    rw [List.getElem?_set_self hiσ] at e2
    cases e2
    exact ⟨u, r, .inr ⟨.inl hk, c, hc, hc'⟩⟩
   ·rw [List.getElem?_set_ne (Ne.symm hj)] at e2
    obtain ⟨u', r', q⟩ := hl j y v' e1 e2 e3
    refine ⟨u', r', ?_⟩
    rcases q with q | ⟨k, c', e, z'⟩
    ·exact .inl q
    ·refine .inr ⟨k, c', e, z'.sameBut hs ?_⟩
     rintro rfl
     exact hj (wi6 hN e1 (I.ok.inj _ _ _ e hc ▸ hi))
  ·by_cases hcc : c' = c
   ·subst hcc; exact ⟨_, hc'⟩
   ·obtain ⟨w2, z2⟩ := I.cell y c' e
    exact ⟨w2, z2.sameBut hs hcc⟩
  ·obtain ⟨e, n, ne, nf, d⟩ := I.pin p hp
   refine ⟨(hs.2 p.1 ?_).trans e, n, ne, nf, d⟩
   intro q
   rw [q, hoc] at e
   have q' : oc = p.2 := Option.some.inj e
   exact d w' (by rw [<- q']; exact hocd)
theorem qt4 {i : Nat} {Q : Unit -> Shared -> Prop} (I : Inv X pins σ H s) (hN : X.N.Nodup) (hi : X.N[i]? = some x) (hx : Loc X.env.scope x) (r : G2 v u) (h : ∀ s', Inv X pins (σ.set i (some v)) H s' -> Q () s') (hf : autoParam (X.fn x = true \/ X.env.scope.names.lookup x = some .local) zAf) : wpAny M A (storeName X.env x u) Q E s :=
 wu7 I hN hi hx r (fun s' I' _ => h s' I') hf
end
abbrev XK := Value -> Option Addr -> Hp -> Prop
abbrev St := List (Option V)
abbrev VK := V -> Hp -> Prop
abbrev TE := St -> Hp -> VK -> Prop
abbrev TT := St -> Hp -> (Bool -> Hp -> Prop) -> Prop
abbrev TA := St -> Hp -> (List V -> Hp -> Prop) -> Prop
set_option genInjectivity false in
structure Q6 where
 nx : St -> Hp -> Prop
 rt : VK
 bk : St -> Hp -> Prop := fun _ _ => False
 ct : St -> Hp -> Prop := fun _ _ => False
abbrev TS := Q6 -> St -> Hp -> Prop
def EP (X : Cx) (pins : List (Addr × Obj)) (σ : St) (Q : VK) (u : Value) (s' : Shared) : Prop := ∃ v H', Inv X pins σ H' s' /\ G2 v u /\ Q v H'
def TP (X : Cx) (pins : List (Addr × Obj)) (σ : St) (Q : Bool -> Hp -> Prop) (b : Bool) (s' : Shared) : Prop := ∃ H', Inv X pins σ H' s' /\ Q b H'
def AP (X : Cx) (pins : List (Addr × Obj)) (σ : St) (Q : List V -> Hp -> Prop) (us : List Value) (s' : Shared) : Prop := ∃ vs H', Inv X pins σ H' s' /\ G3 vs us /\ Q vs H'
def SP (X : Cx) (pins : List (Addr × Obj)) (D : Q6) (f : Flow) (s' : Shared) : Prop :=
 match f with
 | .next => ∃ σ' H', Inv X pins σ' H' s' /\ D.nx σ' H'
 | .brk => ∃ σ' H', Inv X pins σ' H' s' /\ D.bk σ' H'
 | .cont => ∃ σ' H', Inv X pins σ' H' s' /\ D.ct σ' H'
 | .ret u => ∃ v σ' H', Inv X pins σ' H' s' /\ G2 v u /\ D.rt v H'
def PE (X : Cx) (e : Expr) (t : TE) : Prop :=
 ∀ (pins : List (Addr × Obj)) (s : Shared) (σ : St) (H : Hp) (Q : VK), Inv X pins σ H s -> t σ H Q -> wpAny (model X.prog X.w) X.A (eval e X.env) (EP X pins σ Q) X.xe s
def PT (X : Cx) (e : Expr) (t : TT) : Prop :=
 ∀ (pins : List (Addr × Obj)) (s : Shared) (σ : St) (H : Hp) (Q : Bool -> Hp -> Prop), Inv X pins σ H s -> t σ H Q -> wpAny (model X.prog X.w) X.A (isTrue e X.env (eval e X.env)) (TP X pins σ Q) X.xe s
def PW (X : Cx) (e : Expr) (t : TT) : Prop :=
 ∀ (whole : Sem Value) (pins : List (Addr × Obj)) (s : Shared) (σ : St) (H : Hp) (Q : Bool -> Hp -> Prop), Inv X pins σ H s -> t σ H Q -> wpAny (model X.prog X.w) X.A (isTrue e X.env whole) (TP X pins σ Q) X.xe s
variable {e : Expr}
theorem PW.pt {t : TT} (h : PW X e t) : PT X e t := h _
def PA (X : Cx) (es : List Expr) (t : TA) : Prop :=
 ∀ (pos : Pos) (pins : List (Addr × Obj)) (s : Shared) (σ : St) (H : Hp) (Q : List V -> Hp -> Prop), Inv X pins σ H s -> t σ H Q -> wpAny (model X.prog X.w) X.A (spliced (backTo pos (starEach es X.env))) (AP X pins σ Q) X.xe s
def PS (X : Cx) (st : Stmt) (t : TS) : Prop :=
 ∀ (pins : List (Addr × Obj)) (s : Shared) (σ : St) (H : Hp) (D : Q6), Inv X pins σ H s -> t D σ H -> wpAny (model X.prog X.w) X.A (exec st X.env) (SP X pins D) X.xe s
def PSs (X : Cx) (st : List Stmt) (t : TS) : Prop :=
 ∀ (pins : List (Addr × Obj)) (s : Shared) (σ : St) (H : Hp) (D : Q6), Inv X pins σ H s -> t D σ H -> wpAny (model X.prog X.w) X.A (execs st X.env) (SP X pins D) X.xe s
variable {α : Type}
theorem thn {t : Sem α} {Q Q' : α -> Shared -> Prop} (h : wpAny M A t Q E s) (hQ : ∀ a s, Q a s -> Q' a s) : wpAny M A t Q' E s := wpAny_mono h hQ fun _ _ x => x
variable {pos : Pos} {Q : Value -> Shared -> Prop} {σ : St} {ta : TE} {c : Expr}
section
def B1 (i : Nat) : TE := fun σ H Q => ∃ v, σ[i]? = some (some v) /\ Q v H
def tC (v : V) : TE := fun _ H Q => Q v H
theorem yw5 {i : Nat} (hN : X.N[i]? = some x) (hv : Vis X.env.scope x) (hd : autoParam ((x == ("__debug__" : Str)) = false) zAd) (hcd : autoParam ((x == ("__classdict__" : Str)) = false) zAd) : PE X (.Name x pos) (B1 i) := by
 intro pins s σ H Q I h
 obtain ⟨v, e, h⟩ := h
 obtain ⟨m, hn, hl⟩ := I.loc
 obtain ⟨u, r, l⟩ := hl i x v hN e hv
 have fin : EP X pins σ Q u s := ⟨v, H, I, r, h⟩
 rcases l with ⟨hk, hm⟩ | ⟨hk, c, hc, hcell⟩
 ·exact wpAny_Name (wpAny_loadName_local I.ok.kind hk hn hm fin) hd
 ·rcases hk with hk | hk
  ·exact wpAny_Name (wpAny_loadName_cell I.ok.kind hk hc hcell fin) hd
  ·exact wpAny_Name (wpAny_loadName_free I.ok.kind hk hc hcell fin hcd) hd
theorem B5 {i j pos} : PE X (.Constant (.int i) j pos) (tC (.int i)) := fun _ _ _ H _ I h => wpAny_Constant_int ⟨.int i, H, I.tok _, ⟨_, rfl⟩, h⟩
theorem Z0 {b j pos} : PE X (.Constant (.bool b) j pos) (tC (.bl b)) := fun _ _ _ H _ I h => Constant_bool ⟨.bl b, H, I, rfl, h⟩
theorem M6 {j pos} : PE X (.Constant .none j pos) (tC .non) := fun _ _ _ H _ I h => Constant_none ⟨.non, H, I, rfl, h⟩
theorem D4 {x j pos} : PE X (.Constant (.str x) j pos) (tC (.str x)) := fun _ _ _ H _ I h => Calls.Constant_str ⟨.str x, H, I.tok _, ⟨_, rfl⟩, h⟩
def Gl (X : Cx) (x : Str) : Prop := X.env.kindOf x = some .globalImplicit
theorem qo6 (I : Inv X pins σ H s) (hg : Gl X x) (hm : X.mg x = some u) (h : Q u s) (hd : autoParam ((x == ("__debug__" : Str)) = false) zAd) : wpAny (model X.prog X.w) X.A (eval (.Name x pos) X.env) Q E s :=
 Calls.Name_function_global I.ok.kind hg (Calls.loadGlobal_global (by rw [I.ok.glob]; exact I.mod.glob.keeps I.bk) hm h) hd
theorem ql7 (I : Inv X pins σ H s) (hg : Gl X x) (hm : X.mg x = none) (hv : bootBuiltins x = some u) (h : Q u s) (hn : autoParam (x ≠ "__name__") zAd) (hd : autoParam ((x == ("__debug__" : Str)) = false) zAd) : wpAny (model X.prog X.w) X.A (eval (.Name x pos) X.env) Q E s := by
 obtain ⟨mb, h1, h2⟩ := I.mod.blt
 exact Calls.Name_function_global I.ok.kind hg (Calls.loadGlobal_builtin (by rw [I.ok.glob]; exact I.mod.glob.keeps I.bk) hm (by rw [I.ok.blt]; exact h1.keeps I.bk) ((h2 x hn).trans hv) h) hd
theorem E3 (hg : Gl X x) (hm : X.mg x = some u) (r : G2 v u) (hd : autoParam ((x == ("__debug__" : Str)) = false) zAd) : PE X (.Name x pos) (tC v) :=
 fun _ _ _ H _ I h => qo6 I hg hm ⟨v, H, I, r, h⟩ hd
theorem xr0 (hg : Gl X x) (hm : X.mg x = none) (hv : bootBuiltins x = some u) (r : G2 v u) (hn : autoParam (x ≠ "__name__") zAd) (hd : autoParam ((x == ("__debug__" : Str)) = false) zAd) : PE X (.Name x pos) (tC v) :=
 fun _ _ _ H _ I h => ql7 I hg hm hv ⟨v, H, I, r, h⟩ hn hd
variable {a b : Expr} {tb : TE}
def tB (t : TE) : TT := fun σ H Q => t σ H fun x H1 => ∃ c, x = .bl c /\ Q c H1
theorem U8 {t : TE} (h : PE X e t) (he : autoParam (∀ whole, isTrue e X.env whole = (do let v <- whole; standAt e.pos; holding [v] (truthy v))) zAi) : PT X e (tB t) := by
 intro pins s σ H Q I hw
 refine isTrue_plain (thn (h pins s σ H _ I hw) fun v s1 zq => ?_) (he _)
 obtain ⟨x, H1, I1, r1, q1⟩ := zq
 obtain ⟨d, rfl, q⟩ := q1
 cases r1
 exact wpAny_truthy_bool ⟨H1, I1, q⟩
variable {tA tB' : TT} {rest : List Expr}
def wi7 (t u : TT) : TT := fun σ H Q => t σ H fun c H1 => if c = true then u σ H1 Q else Q false H1
def tOr (t u : TT) : TT := fun σ H Q => t σ H fun c H1 => if c = true then Q true H1 else u σ H1 Q
def wi8 (t : TT) : TT := fun σ H Q => t σ H fun c H1 => Q (!c) H1
theorem qb1 (ha : PT X a tA) : PW X (.BoolOp .And [a] pos) tA := by
 intro wh pins s σ H Q I h
 refine isTrue_and (thn (ha pins s σ H Q I h) fun c s1 e => ?_)
 cases c with
 | true => exact isTrue_and_nil e
 | false => exact e
theorem U9 (ha : PT X a tA) : PW X (.BoolOp .Or [a] pos) tA := by
 intro wh pins s σ H Q I h
 refine isTrue_or (thn (ha pins s σ H Q I h) fun c s1 e => ?_)
 cases c with
 | false => exact isTrue_or_nil e
 | true => exact e
theorem qi0 (ha : PT X a tA) (hb : PW X (.BoolOp .And (b :: rest) pos) tB') : PW X (.BoolOp .And (a :: b :: rest) pos) (wi7 tA tB') := by
 intro wh pins s σ H Q I h
 refine isTrue_and (thn (ha pins s σ H _ I h) fun c s1 zq => ?_)
 obtain ⟨H1, I1, q1⟩ := zq
 cases c with
 | true => exact hb wh pins s1 σ H1 Q I1 q1
 | false => exact ⟨H1, I1, q1⟩
theorem Z9 (ha : PT X a tA) (hb : PW X (.BoolOp .Or (b :: rest) pos) tB') : PW X (.BoolOp .Or (a :: b :: rest) pos) (tOr tA tB') := by
 intro wh pins s σ H Q I h
 refine isTrue_or (thn (ha pins s σ H _ I h) fun c s1 zq => ?_)
 obtain ⟨H1, I1, q1⟩ := zq
 cases c with
 | true => exact ⟨H1, I1, q1⟩
 | false => exact hb wh pins s1 σ H1 Q I1 q1
theorem qi1 (ha : PT X a tA) : PT X (.UnaryOp .Not a pos) (wi8 tA) := by
 intro pins s σ H Q I h
 exact isTrue_not (ha pins s σ H (fun c H1 => Q (!c) H1) I h)
def wd2 (ta tb : TE) : TE := fun σ H Q => ta σ H fun x H1 => ∃ c, x = .bl c /\ if c = true then tb σ H1 Q else Q (.bl false) H1
theorem wi9 {op} {t : TE} (h : PE X a t) : PE X (.BoolOp op [a] pos) t := fun pins s σ H Q I hw => BoolOp_one (h pins s σ H Q I hw)
theorem qz4 (ha : PE X a ta) (hb : PE X (.BoolOp .And (b :: rest) pos) tb) : PE X (.BoolOp .And (a :: b :: rest) pos) (wd2 ta tb) := by
 intro pins s σ H Q I h
 refine BoolOp_and (thn (ha pins s σ H _ I h) fun v s1 zq => ?_)
 obtain ⟨x, H1, I1, r1, q1⟩ := zq
 obtain ⟨c, rfl, q1⟩ := q1
 cases r1
 refine wpAny_truthy_bool ?_
 cases c with
 | true => exact hb pins s1 σ H1 Q I1 q1
 | false => exact ⟨.bl false, H1, I1, rfl, q1⟩
def tIf (t : TT) (ta tb : TE) : TE := fun σ H Q => t σ H fun c H1 => if c = true then ta σ H1 Q else tb σ H1 Q
theorem qh1 (hc : PT X c tA) (ha : PE X a ta) (hb : PE X b tb) : PE X (.IfExp c a b pos) (tIf tA ta tb) := by
 intro pins s σ H Q I h
 refine wpAny_IfExp (thn (hc pins s σ H _ I h) fun d s1 zq => ?_)
 obtain ⟨H1, I1, q1⟩ := zq
 cases d with
 | true => exact ha pins s1 σ H1 Q I1 q1
 | false => exact hb pins s1 σ H1 Q I1 q1
end
def SqL (K : Fg) (H : Hp) (a : Addr) (xs : List V) : Prop :=
 Rd H a (.lst xs) \/
  ∃ (o : Obj) (its : Array Value) (n : Nat), K.lookup a = some o /\ o.cls = .type "list" /\ o.dict = none /\ o.data = .seq its n /\ its.size <= sizeLine /\ G3 xs its.toList
def SqT (K : Fg) (H : Hp) (a : Addr) (xs : List V) : Prop :=
 Rd H a (.tup xs) \/
  ∃ (o : Obj) (its : Array Value) (n : Nat), K.lookup a = some o /\ o.cls = .type "tuple" /\ o.data = .seq its n /\ its.size <= sizeLine /\ G3 xs its.toList
def zj4 : Value -> Option V
 | .none => some .non
 | .bool b => some (.bl b)
 | .int i _ => some (.int i)
 | .str x _ => some (.str x)
 | .bytes b _ => some (.byt b)
 | .float b _ => some (.flt b)
 | .ref a => some (.ref a)
 | .type n => some (.ty n)
 | _ => none
theorem G2.abs {x : V} (r : G2 x u) : zj4 u = some x := by
 cases x with
 | non => cases r; rfl
 | bl _ => cases r; rfl
 | int _ => obtain ⟨t, rfl⟩ := r; rfl
 | str _ => obtain ⟨t, rfl⟩ := r; rfl
 | byt _ => obtain ⟨t, rfl⟩ := r; rfl
 | flt _ => obtain ⟨t, rfl⟩ := r; rfl
 | ref _ => cases r; rfl
 | ty _ => cases r; rfl
variable {y : V}
theorem G2.inj {x : V} (r : G2 x u) (q : G2 y u) : x = y := Option.some.inj (r.abs.symm.trans q.abs)
variable {ys : List V}
theorem G3.inj (h : G3 xs us) : G3 ys us -> xs = ys := by
 induction h generalizing ys with
 | nil => intro k; cases k; rfl
 | cons r t ih => intro k; cases k with | cons r' t' => rw [r.inj r', ih t']
variable {K : Fg}
theorem SqL.of (h : H a = some (.lst xs)) : SqL K H a xs := .inl (.inl h)
theorem SqT.of (h : H a = some (.tup xs)) : SqT K H a xs := .inl (.inl h)
theorem Inv.list (I : Inv X pins σ H s) (h : SqL X.K H a xs) : ∃ its : List Value, G3 xs its /\ PlainL s.heap a its.toArray /\ xs.length <= sizeLine := by
 rcases h with h | ⟨o, its, n, hk, hc, hd, hs, hz, r⟩
 ·obtain ⟨z, its, n, r, e⟩ := h.ok I.hok
  exact ⟨its, r, ⟨_, n, e, rfl, rfl, rfl⟩, z⟩
 ·refine ⟨its.toList, r, ⟨o, n, I.kIn a o hk, hc, hd, by simpa using hs⟩, ?_⟩
  have e := r.length
  simp only [Array.length_toList] at e
  omega
theorem Inv.tuple (I : Inv X pins σ H s) (h : SqT X.K H a xs) : ∃ its : List Value, G3 xs its /\ IsTup s.heap a its.toArray /\ xs.length <= sizeLine := by
 rcases h with h | ⟨o, its, n, hk, hc, hs, hz, r⟩
 ·obtain ⟨z, its, r, p⟩ := h.ok I.hok
  exact ⟨its, r, p, z⟩
 ·refine ⟨its.toList, r, ⟨o, I.kIn a o hk, hc, n, by simpa using hs⟩, ?_⟩
  have e := r.length
  simp only [Array.length_toList] at e
  omega
theorem Inv.list_inj (I : Inv X pins σ H s) (h : SqL X.K H a xs) (h' : SqL X.K H a ys) : xs = ys := by
 obtain ⟨its, r, ⟨o, n, e, _, _, d⟩, _⟩ := I.list h
 obtain ⟨its', r', ⟨o', n', e', _, _, d'⟩, _⟩ := I.list h'
 rw [e] at e'; cases e'
 rw [d] at d'
 injection d' with d1 _
 have : its = its' := by simpa using congrArg Array.toList d1
 subst this
 exact r.inj r'
theorem Inv.tuple_inj (I : Inv X pins σ H s) (h : SqT X.K H a xs) (h' : SqT X.K H a ys) : xs = ys := by
 obtain ⟨its, r, ⟨o, e, _, n, d⟩, _⟩ := I.tuple h
 obtain ⟨its', r', ⟨o', e', _, n', d'⟩, _⟩ := I.tuple h'
 rw [e] at e'; cases e'
 rw [d] at d'
 injection d' with d1 _
 have : its = its' := by simpa using congrArg Array.toList d1
 subst this
 exact r.inj r'
abbrev Cx.wish (X : Cx) (E : Value -> Shared -> Prop) : Cx := { X with xe := E }
abbrev Cx.nox (X : Cx) : Cx := X.wish fun _ _ => False
theorem Cx.Ok.wish (ok : X.Ok) (E : Value -> Shared -> Prop) : (X.wish E).Ok :=
 ⟨ok.mod, ok.kind, ok.glob, ok.blt, ok.above, ok.inj, ok.has, ok.cab, ok.hd, ok.frames, ok.stk, ok.exf, ok.bs, ok.bsz, ok.noex, ok.exfs, ok.funs, ok.frf⟩
theorem Cx.Ok.unwish (ok : (X.wish E).Ok) : X.Ok :=
 ⟨ok.mod, ok.kind, ok.glob, ok.blt, ok.above, ok.inj, ok.has, ok.cab, ok.hd, ok.frames, ok.stk, ok.exf, ok.bs, ok.bsz, ok.noex, ok.exfs, ok.funs, ok.frf⟩
theorem Inv.wish (I : Inv X pins σ H s) (E : Value -> Shared -> Prop) : Inv (X.wish E) pins σ H s := ⟨I.ok.wish E, I.os, I.bare, I.base, I.loc, I.cell, I.free, I.freeC, I.pin, I.hok, I.len, I.tk⟩
theorem Inv.unwish (I : Inv (X.wish E) pins σ H s) : Inv X pins σ H s := ⟨I.ok.unwish, I.os, I.bare, I.base, I.loc, I.cell, I.free, I.freeC, I.pin, I.hok, I.len, I.tk⟩
variable {D : Q6} {s' : Shared}
theorem SP.unwish {f : Flow} (h : SP (X.wish E) pins D f s') : SP X pins D f s' := by
 cases f with
 | next => obtain ⟨σ', H', I, q⟩ := h; exact ⟨σ', H', I.unwish, q⟩
 | brk => obtain ⟨σ', H', I, q⟩ := h; exact ⟨σ', H', I.unwish, q⟩
 | cont => obtain ⟨σ', H', I, q⟩ := h; exact ⟨σ', H', I.unwish, q⟩
 | ret u => obtain ⟨v, σ', H', I, r, q⟩ := h; exact ⟨v, σ', H', I.unwish, r, q⟩
theorem PSs.nox {st : List Stmt} {t : TS} (h : PSs X.nox st t) : PSs X st t := fun pins s σ H D I hw =>
 wpAny_mono (h pins s σ H D (I.wish _) hw) (fun _ _ q => q.unwish) fun _ _ z => False.elim z
variable {st : Stmt} {te : TE}
section
variable {rest : List Stmt} {t u : TS}
def G8 : TS := fun D σ H => D.nx σ H
def D8 (t u : TS) : TS := fun D σ H => t { D with nx := u D } σ H
theorem D0 : PSs X [] G8 := fun _ _ σ H _ I h => wpAny_execs_nil ⟨σ, H, I, h⟩
theorem B2 (h1 : PS X st t) (h2 : PSs X rest u) : PSs X (st :: rest) (D8 t u) := by
 intro pins s σ H D I h
 refine wpAny_execs_cons (thn (h1 pins s σ H { D with nx := u D } I h) fun f s1 q => ?_)
 cases f with
 | next =>
   obtain ⟨σ', H', I', q⟩ := q
   exact h2 pins s1 σ' H' D I' q
 | ret v => exact q
 | brk => exact q
 | cont => exact q
theorem B4 (h1 : PS X st t) : PSs X [st] t := by
 intro pins s σ H D I h
 refine wpAny_execs_cons (thn (h1 pins s σ H D I h) fun f s1 q => ?_)
 cases f with
 | next => exact wpAny_execs_nil q
 | ret v => exact q
 | brk => exact q
 | cont => exact q
def xl5 : TS := fun D σ H => D.bk σ H
theorem yc3 : PS X (.Break pos) xl5 := fun _ _ σ H _ I h => wpAny_Break ⟨σ, H, I, h⟩
theorem Inv.quiet (I : Inv X pins σ H s) : interactive X.env = false := by simp [interactive, I.ok.kind]
def qc8 (te : TE) : TS := fun D σ H => te σ H fun _ H1 => D.nx σ H1
theorem S4 (he : PE X e te) (hs : autoParam (swapsWith e none pos.line X.env = pure false) zAr) : PS X (.Expr e pos) (qc8 te) := by
 intro pins s σ H D I h
 exact wpAny_Expr_any (thn (he pins s σ H _ I h) fun v s1 ⟨x, H1, I1, r1, q1⟩ => ⟨σ, H1, I1, q1⟩) I.quiet hs
def I0 (te : TE) : TS := fun D σ H => te σ H D.rt
theorem C7 (he : PE X e te) : PS X (.Return (some e) pos) (I0 te) := by
 intro pins s σ H D I h
 exact wpAny_Return_some (thn (he pins s σ H _ I h) fun v s1 ⟨x, H1, I1, r1, q1⟩ => ⟨x, σ, H1, I1, r1, q1⟩)
def M9 (c : TT) (t u : TS) : TS := fun D σ H => c σ H fun b H1 => if b = true then t D σ H1 else u D σ H1
theorem G4 {a b : List Stmt} {tc : TT} (hc : PT X c tc) (ha : PSs X a t) (hb : PSs X b u) : PS X (.If c a b pos) (M9 tc t u) := by
 intro pins s σ H D I h
 refine wpAny_If (thn (hc pins s σ H _ I h) fun d s1 zq => ?_)
 obtain ⟨H1, I1, q1⟩ := zq
 cases d with
 | true => exact ha pins s1 σ H1 D I1 q1
 | false => exact hb pins s1 σ H1 D I1 q1
def wx1 : TS := fun _ _ _ => False
theorem wj0 : PS X st wx1 := fun _ _ _ _ _ _ h => h.elim
end
abbrev TG := V -> St -> Hp -> (St -> Hp -> Prop) -> Prop
abbrev TGs := List V -> St -> Hp -> (St -> Hp -> Prop) -> Prop
def PG (X : Cx) (target : Expr) (t : TG) : Prop :=
 ∀ (pins : List (Addr × Obj)) (s : Shared) (σ : St) (H : Hp) (v : V) (u : Value) (Q : St -> Hp -> Prop), Inv X pins σ H s -> G2 v u -> t v σ H Q ->
  wpAny (model X.prog X.w) X.A (assign target X.env u) (fun _ s' => ∃ σ' H', Inv X pins σ' H' s' /\ Q σ' H') X.xe s
def PGs (X : Cx) (ts : List Expr) (t : TGs) : Prop :=
 ∀ (pins : List (Addr × Obj)) (s : Shared) (σ : St) (H : Hp) (vs : List V) (us : List Value) (Q : St -> Hp -> Prop), Inv X pins σ H s -> G3 vs us -> t vs σ H Q ->
  wpAny (model X.prog X.w) X.A (assignInOrder ((assignEach ts X.env).map (·.2)) us) (fun _ s' => ∃ σ' H', Inv X pins σ' H' s' /\ Q σ' H') X.xe s
abbrev yc4 := V -> V -> V -> Hp -> (Hp -> Prop) -> Prop
def yw6 (X : Cx) (t : yc4) : Prop :=
 ∀ (pins : List (Addr × Obj)) (s : Shared) (σ : St) (H : Hp) (o i v : V) (ov iv u : Value) (Q : Hp -> Prop), Inv X pins σ H s -> G2 o ov -> G2 i iv -> G2 v u -> t o i v H Q ->
  wpAny (model X.prog X.w) X.A (setItem ov iv u) (fun _ s' => ∃ H', Inv X pins σ H' s' /\ Q H') X.xe s
def C3 (i : Nat) : TG := fun v σ H Q => Q (σ.set i (some v)) H
theorem E1 {i : Nat} (hN : X.N.Nodup) (hi : X.N[i]? = some x) (hx : Loc X.env.scope x) (hf : autoParam (X.fn x = true \/ X.env.scope.names.lookup x = some .local) zAf) : PG X (.Name x pos) (C3 i) := by
 intro pins s σ H v u Q I r h
 exact wpAny_assign_Name (qt4 I hN hi hx r (fun s' I' => ⟨_, H, I', h⟩) hf)
def xl6 : TGs := fun vs σ H Q => vs = [] /\ Q σ H
def qc9 (t : TG) (u : TGs) : TGs := fun vs σ H Q => ∃ v r, vs = v :: r /\ t v σ H fun σ' H' => u r σ' H' Q
theorem qt5 : PGs X [] xl6 := by
 intro pins s σ H vs us Q I r h
 obtain ⟨e, h⟩ := h
 subst e
 cases r
 exact assignInOrder_nil ⟨σ, H, I, h⟩
variable {es : List Expr}
theorem Q0 {t : TG} {u : TGs} (h1 : PG X e t) (h2 : PGs X es u) (hs : autoParam ((assignEach (e :: es) X.env).map (·.2) = assign e X.env :: (assignEach es X.env).map (·.2)) zAr) : PGs X (e :: es) (qc9 t u) := by
 intro pins s σ H vs us Q I r h
 obtain ⟨v, vr, e1, h⟩ := h
 subst e1
 cases r with
 | cons r rr =>
   rw [hs]
   refine assignInOrder_cons (thn (h1 pins s σ H _ _ _ I r h) fun _ s1 zq => ?_)
   obtain ⟨σ1, H1, I1, q1⟩ := zq
   exact h2 pins s1 σ1 H1 _ _ Q I1 rr q1
def xl7 (K : Fg) (n : Nat) (t : TGs) : TG := fun v σ H Q => ∃ a xs, v = .ref a /\ SqT K H a xs /\ xs.length = n /\ t xs σ H Q
variable {n : Nat}
theorem wj1 {k : Nat} {t : TGs} (hc : X.calm = true) (h : PGs X es t) (hn : autoParam ((assignEach es X.env).length = n) zAr) (hst : autoParam ((assignEach es X.env).findIdx? (·.1) = none) zAr) : PG X (.Tuple es k pos) (xl7 X.K n t) := by
 intro pins s σ H v u Q I r hw
 obtain ⟨a, xs, e1, hq, hl, hw⟩ := hw
 subst e1
 cases r
 obtain ⟨its, rv, ht, hz⟩ := I.tuple hq
 refine assign_Tuple_tuple (I.ok.hd hc) ht (by simp [hn, <- hl, rv.length]) hst fun h' hx => ?_
 have I1 : Inv X pins σ H { s with heap := h' } := I.kept (t' := s.toks) fun b o e => hx b o (Nat.ne_of_lt (Heap.lt_size e)) e
 exact h pins _ σ H xs _ Q I1 (by simpa using rv) hw
def yc5 (to ti : TE) (t : yc4) : TG := fun v σ H Q => to σ H fun o H1 => ti σ H1 fun i H2 => t o i v H2 fun H3 => Q σ H3
variable {ti to : TE}
theorem xl8 {o i : Expr} {t : yc4} (ho : PE X o to) (hi : PE X i ti) (hs : yw6 X t) (ha : ∀ v, assign (.Subscript o i pos) X.env v = (do
  let ov <- holding [v] (eval o X.env)
  let iv <- holding [v, ov] (eval i X.env)
  standAt pos
  holding [v, ov, iv] (setItem ov iv v)
  release [v, ov, iv] []) := by intro _; rfl) : PG X (.Subscript o i pos) (yc5 to ti t) := by
 intro pins s σ H v u Q I r h
 rw [ha]
 refine wpAny_bind (wpAny_holding (thn (ho pins s σ H _ I h) fun ov s1 zq => ?_))
 obtain ⟨x, H1, I1, r1, q1⟩ := zq
 refine wpAny_bind (wpAny_holding (thn (hi pins s1 σ H1 _ I1 q1) fun iv s2 zq => ?_))
 obtain ⟨y, H2, I2, r2, q2⟩ := zq
 refine wpAny_bind (wpAny_standAt (wpAny_bind (wpAny_holding (thn (hs pins s2 σ H2 x y v ov iv u _ I2 r1 r2 r q2) fun _ s3 zq => ?_))))
 obtain ⟨H3, I3, q3⟩ := zq
 exact wpAny_release ⟨σ, H3, I3, q3⟩
def J0 (te : TE) (g : TG) : TS := fun D σ H => te σ H fun x H1 => g x σ H1 D.nx
variable {tg : Expr}
theorem wx2 {g : TG} (he : PE X e te) (hg : PG X tg g) (hs : autoParam (swapsWithSole [tg] e pos.line X.env = pure false) zAr) (hw : autoParam (swappedStores [tg] e X.env = pure none) zAr) (h1 : autoParam ((assignEach [tg] X.env).map (·.2) = [assign tg X.env]) zAr) : PS X (.Assign [tg] e pos) (J0 te g) := by
 intro pins s σ H D I h
 refine wpAny_Assign_stores (thn (he pins s σ H _ I h) fun v s1 zq => ?_) hs hw
 obtain ⟨x, H1, I1, r1, q1⟩ := zq
 rw [h1]
 exact thn (hg pins s1 σ H1 x v _ I1 r1 q1) fun _ s2 q => q
variable {pos' : Pos}
theorem C9 {i : Nat} (hN : X.N.Nodup) (hi : X.N[i]? = some x) (hx : Loc X.env.scope x) (he : PE X e te) (hs : autoParam (swapsWith e (some (.Name x pos')) pos.line X.env = pure false) zAr) (hf : autoParam (X.fn x = true \/ X.env.scope.names.lookup x = some .local) zAf) :
 PS X (.Assign [.Name x pos'] e pos) (J0 te (C3 i)) := by
 intro pins s σ H D I h
 refine wpAny_Assign_Name (thn (he pins s σ H _ I h) fun v s1 zq => ?_) hs
 obtain ⟨y, H1, I1, r1, q1⟩ := zq
 exact qt4 I1 hN hi hx r1 (fun s2 I2 => ⟨_, H1, I2, q1⟩) hf
def xl9 (c : TT) (tb : TS) : TS := fun D σ H => ∃ W : Nat -> St -> Hp -> Prop, (∃ m, W m σ H) /\ ∀ m σ H, W m σ H ->
 c σ H fun b H1 => if b = true then ∃ N : St -> Hp -> Prop, (∀ σ' H', N σ' H' -> ∃ m', m' < m /\ W m' σ' H') /\ tb { D with nx := N, ct := N, bk := D.nx } σ H1 else D.nx σ H1
variable {body : List Stmt} {tb : TS}
theorem yc6 {tc : TT} (hp : PassesOwn (model X.prog X.w) X.A X.env X.xe) (hc : PT X c tc) (hb : PSs X body tb) : PS X (.While c body [] pos) (xl9 tc tb) := by
 intro pins s σ H D I h
 obtain ⟨W, ⟨m0, w0⟩, turn⟩ := h
 refine wpAny_While (codeAny_whileLoop (fun n s' => ∃ σ' H', Inv X pins σ' H' s' /\ W n σ' H') ?_ m0 ⟨σ, H, I, w0⟩)
 rintro n s1 ⟨σ1, H1, I1, w1⟩
 refine wpAny_passesOwn hp (thn (hc pins s1 σ1 H1 _ I1 (turn n σ1 H1 w1)) fun b s2 zq => ?_)
 obtain ⟨H2, I2, q2⟩ := zq
 cases b with
 | true =>
   obtain ⟨N, hN, q2⟩ := q2
   rw [if_pos rfl]
   refine wpAny_passesOwn hp (thn (hb pins s2 σ1 H2 _ I2 q2) fun f s3 q3 => ?_)
   cases f with
   | next =>
     obtain ⟨σ3, H3, I3, n3⟩ := q3
     obtain ⟨m', hm, w3⟩ := hN σ3 H3 n3
     exact ⟨m', hm, σ3, H3, I3, w3⟩
   | cont =>
     obtain ⟨σ3, H3, I3, n3⟩ := q3
     obtain ⟨m', hm, w3⟩ := hN σ3 H3 n3
     exact ⟨m', hm, σ3, H3, I3, w3⟩
   | brk => exact q3
   | ret v => exact q3
 | false =>
   rw [if_neg Bool.false_ne_true]
   exact wpAny_execs_nil ⟨σ1, H2, I2, q2⟩
set_option genInjectivity false in
structure It where
 go : Nat -> Hp -> Prop
 yld : Nat -> Hp -> V -> Hp -> Prop
 stop : Nat -> Hp -> Prop
def wq4 (X : Cx) (pins : List (Addr × Obj)) (H : Hp) (b : Addr) : Prop :=
 H b = none /\ b ≠ X.env.locals /\ b ∉ X.fs /\ (b ∈ X.ex \/ X.s₀.heap.objs.size <= b) /\ (∀ x c, X.env.cells.lookup x = some c -> c ≠ b) /\ ∀ p ∈ X.pn ++ pins, p.1 ≠ b
theorem Inv.fpOk (I : Inv X pins σ H s) (hb : s.heap.objs.size <= b) (hn : H' b = none) : wq4 X pins H' b := by
 refine ⟨hn, Nat.ne_of_gt (Nat.lt_of_lt_of_le I.lt hb), I.nofs hb, .inr (Nat.le_trans I.sz hb), fun x c e z => ?_, fun p hp z => ?_⟩
 ·obtain ⟨v, q⟩ := I.cell x c e
  exact absurd (Nat.lt_of_lt_of_le q.lt (by rw [z]; exact hb)) (Nat.lt_irrefl _)
 ·exact absurd (Nat.lt_of_lt_of_le (Heap.lt_size (I.pin p hp).1) (by rw [z]; exact hb)) (Nat.lt_irrefl _)
structure wj2 (P : Program) (w : World) (K : Fg) (tg : Expr) (J : It) (fp : List Addr) (it : Addr) (tn : Nat -> Heap -> Prop) : Prop where
 mem : it ∈ fp
 obj : ∀ i h, tn i h -> ∀ b ∈ fp, ∃ o, h.get? b = some o /\ ∀ v, o.data ≠ .cell v
 keep : ∀ i h h', tn i h -> (∀ b ∈ fp, ∀ o, h.get? b = some o -> h'.get? b = some o) -> tn i h'
 item : ∀ (X : Cx), X.prog = P -> X.w = w -> X.K = K -> X.calm = true -> ∀ (i : Nat) (pins : List (Addr × Obj)) (s : Shared) (σ : St) (H : Hp) (E : Value -> Shared -> Prop), Inv X pins σ H s -> (∀ b ∈ fp, wq4 X pins H b) -> tn i s.heap -> J.go i H ->
  wpAny (model P w) X.A (pyNext (.ref it)) (fun r s1 => ∃ u, r = some u /\
   wpAny (model P w) X.A (letOwnedTupleGo tg (.ref it) u) (fun _ s2 => ∃ x H', Inv X pins σ H' s2 /\ G2 x u /\ J.yld i H x H' /\ tn (i + 1) s2.heap /\ ∀ b ∈ fp, H' b = none) E s1) E s
 done : ∀ (X : Cx), X.prog = P -> X.w = w -> X.K = K -> X.calm = true -> ∀ (i : Nat) (pins : List (Addr × Obj)) (s : Shared) (σ : St) (H : Hp) (E : Value -> Shared -> Prop), Inv X pins σ H s -> (∀ b ∈ fp, wq4 X pins H b) -> tn i s.heap -> J.stop i H ->
  wpAny (model P w) X.A (pyNext (.ref it)) (fun r s1 => r = none /\ Inv X pins σ H s1) E s
 self : ∀ (A : Around) (i : Nat) (s : Shared) (Q : Value -> Shared -> Prop) (E : Value -> Shared -> Prop), tn i s.heap -> Q (.ref it) s -> wpAny (model P w) A (pyIter (.ref it)) Q E s
abbrev TI := St -> Hp -> (It -> Hp -> Prop) -> Prop
def PIE (X : Cx) (pins : List (Addr × Obj)) (σ : St) (tg : Expr) (R : It -> Hp -> Prop) (itv : Value) (s2 : Shared) : Prop :=
 ∃ (it : Addr) (fp : List Addr) (tn : Nat -> Heap -> Prop) (J : It) (H' : Hp), itv = .ref it /\ Inv X pins σ H' s2 /\ wj2 X.prog X.w X.K tg J fp it tn /\ tn 0 s2.heap /\ (∀ b ∈ fp, wq4 X pins H' b) /\ R J H'
def PI (X : Cx) (tg iter : Expr) (wi : TI) : Prop :=
 ∀ (pins : List (Addr × Obj)) (s : Shared) (σ : St) (H : Hp) (R : It -> Hp -> Prop), Inv X pins σ H s -> wi σ H R ->
  wpAny (model X.prog X.w) X.A (eval iter X.env) (fun v s1 => wpAny (model X.prog X.w) X.A (pyIter v) (PIE X pins σ tg R) X.xe s1) X.xe s
theorem xe9 {n : String} {vs : Array Value} {Q : Unit -> Shared -> Prop} (ho : s.heap.get? it = some o) (hc : o.cls = .type n) (hd : o.data = .fields vs) (hn : ["enumerate", "zip", "dict_itemiterator", "dict_reverseitemiterator", "odict_iterator", "itertools.zip_longest", "itertools.pairwise"].contains n = false) (hQ : Q () s) : wpAny M A (letOwnedTupleGo tg (.ref it) u) Q E s := by
 unfold letOwnedTupleGo
 cases tg <;> first
  | exact wpAny_pure hQ
  | (cases u <;> first
   | exact wpAny_pure hQ
   | (refine wpAny_bind (wpAny_load ho ?_)
      rw [hc, hd]
      show wpAny M A (if (["enumerate", "zip", "dict_itemiterator", "dict_reverseitemiterator", "odict_iterator", "itertools.zip_longest", "itertools.pairwise"].contains n && vs[0]? == some (rawInt _)) = true then _ else _) Q E s
      rw [if_neg (by intro h; rw [hn, Bool.false_and] at h; cases h)]
      exact wpAny_pure hQ))
def Itl (K : Fg) (a : Addr) : It :=
 ⟨fun i H => ∃ xs x, SqL K H a xs /\ xs[i]? = some x, fun i H x H' => H' = H /\ ∀ xs, SqL K H a xs -> xs[i]? = some x, fun i H => ∃ xs, SqL K H a xs /\ xs.length <= i⟩
def Itt (K : Fg) (a : Addr) : It :=
 ⟨fun i H => ∃ xs x, SqT K H a xs /\ xs[i]? = some x, fun i H x H' => H' = H /\ ∀ xs, SqT K H a xs -> xs[i]? = some x, fun i H => ∃ xs, SqT K H a xs /\ xs.length <= i⟩
def Itr (lo : Int) (n : Nat) : It := ⟨fun i _ => i < n, fun i H x H' => H' = H /\ x = .int (lo + i), fun i _ => n <= i⟩
theorem xw3 (a it : Addr) : wj2 P w K tg (Itl K a) [it] it (fun i h => h.IsListIter it a i) where
 mem := by simp
 obj := fun i h st b hb => by
  have e : b = it := by simpa using hb
  subst e
  obtain ⟨o, e, c, d⟩ := st
  exact ⟨o, e, fun v z => by rw [d] at z; cases z⟩
 keep := fun i h h' st k => st.at fun o e => k it (by simp) o e
 item := by
  intro X hP hw hK hc i pins s σ H E I hf st hg
  subst hP hw hK
  obtain ⟨xs, x, hq, hx⟩ := hg
  obtain ⟨its, rv, p, hz⟩ := I.list hq
  obtain ⟨u, hu, ru⟩ := rv.get hx
  obtain ⟨f0, f1, f2, f3, f4, f5⟩ := hf it (by simp)
  refine wpAny_pyNext_list_item st p.isList (x := u) (by simpa using hu) fun h' st' sb => ?_
  have I1 : Inv X pins σ H { s with heap := h' } := I.turned (t' := s.toks) (fun b o hb e => (sb.2 b hb).trans e) f0 f1 f3 f4 f5
  obtain ⟨o, e, c, d⟩ := id st'
  exact ⟨u, rfl, xe9 (s := { s with heap := h' }) e c d (by decide) ⟨x, H, I1, ru, ⟨rfl, fun ys hy => by rw [I.list_inj hy hq]; exact hx⟩, st', fun b hb => (hf b hb).1⟩⟩
 done := by
  intro X hP hw hK hc i pins s σ H E I hf st hg
  subst hP hw hK
  obtain ⟨xs, hq, hx⟩ := hg
  obtain ⟨its, rv, p, hz⟩ := I.list hq
  obtain ⟨f0, f1, f2, f3, f4, f5⟩ := hf it (by simp)
  have hl := rv.length
  exact wpAny_pyNext_list_end (I.ok.hd hc) st p.isList (by simp; omega) fun h' eb => ⟨rfl, I.turned (t' := s.toks) (fun b o hb e => eb b o hb e) f0 f1 f3 f4 f5⟩
 self := fun _ _ _ _ _ st h => wpAny_pyIter_listiter st h
theorem xm0 (a it : Addr) : wj2 P w K tg (Itt K a) [it] it (fun i h => h.IsTupleIter it a i) where
 mem := by simp
 obj := fun i h st b hb => by
  have e : b = it := by simpa using hb
  subst e
  obtain ⟨o, e, c, d⟩ := st
  exact ⟨o, e, fun v z => by rw [d] at z; cases z⟩
 keep := fun i h h' st k => st.at fun o e => k it (by simp) o e
 item := by
  intro X hP hw hK hc i pins s σ H E I hf st hg
  subst hP hw hK
  obtain ⟨xs, x, hq, hx⟩ := hg
  obtain ⟨its, rv, p, hz⟩ := I.tuple hq
  obtain ⟨u, hu, ru⟩ := rv.get hx
  obtain ⟨f0, f1, f2, f3, f4, f5⟩ := hf it (by simp)
  refine wpAny_pyNext_tuple_item st (show s.heap.IsTuple a its.toArray from p) (x := u) (by simpa using hu) fun h' st' sb => ?_
  have I1 : Inv X pins σ H { s with heap := h' } := I.turned (t' := s.toks) (fun b o hb e => (sb.2 b hb).trans e) f0 f1 f3 f4 f5
  obtain ⟨o, e, c, d⟩ := id st'
  exact ⟨u, rfl, xe9 (s := { s with heap := h' }) e c d (by decide) ⟨x, H, I1, ru, ⟨rfl, fun ys hy => by rw [I.tuple_inj hy hq]; exact hx⟩, st', fun b hb => (hf b hb).1⟩⟩
 done := by
  intro X hP hw hK hc i pins s σ H E I hf st hg
  subst hP hw hK
  obtain ⟨xs, hq, hx⟩ := hg
  obtain ⟨its, rv, p, hz⟩ := I.tuple hq
  obtain ⟨f0, f1, f2, f3, f4, f5⟩ := hf it (by simp)
  have hl := rv.length
  exact wpAny_pyNext_tuple_end (I.ok.hd hc) st (show s.heap.IsTuple a its.toArray from p) (by simp; omega) fun h' eb => ⟨rfl, I.turned (t' := s.toks) (fun b o hb e => eb b o hb e) f0 f1 f3 f4 f5⟩
 self := fun _ _ _ _ _ st h => wpAny_pyIter_tupleiter st h
theorem xm1 (it : Addr) (lo : Int) (n : Nat) : wj2 P w K tg (Itr lo n) [it] it (fun i h => IsRangeIter h it (lo + (i : Nat) * 1) ((n : Int) - (i : Nat)) 1) where
 mem := by simp
 obj := fun i h st b hb => by
  have e : b = it := by simpa using hb
  subst e
  exact ⟨_, st, fun v z => by
   have z' : Data.fields _ = Data.cell v := z
   cases z'⟩
 keep := fun i h h' st k => k it (by simp) _ st
 item := by
  intro X hP hw hK hc i pins s σ H E I hf st hg
  subst hP hw hK
  obtain ⟨f0, f1, f2, f3, f4, f5⟩ := hf it (by simp)
  have W := Walks.range (prog := X.prog) (w := X.w) (I.ok.hd hc) it lo 1 n
  refine wpAny_with_toks (n := 1) I.tk (W.item i s _ _ hg st fun v h' tk hv st' kk ht => ?_)
  have ht : 0 < tk := ht
  obtain ⟨t, rfl⟩ := hv
  have I1 : Inv X pins σ H { s with heap := h', toks := tk } := I.turned (fun b o hb e => kk b o (by simpa using hb) e) f0 f1 f3 f4 f5
  refine ⟨_, rfl, xe9 (s := { s with heap := h', toks := tk }) (n := "range_iterator") st' rfl rfl (by decide) ⟨.int (lo + i), H, I1, ⟨t, ?_⟩, ⟨rfl, rfl⟩, st', fun b hb => (hf b hb).1⟩⟩
  rw [Int.mul_one]
 done := by
  intro X hP hw hK hc i pins s σ H E I hf st hg
  subst hP hw hK
  obtain ⟨f0, f1, f2, f3, f4, f5⟩ := hf it (by simp)
  exact wpAny_pyNext_range_end (I.ok.hd hc) st (by have : n <= i := hg; omega) fun h' eb => ⟨rfl, I.turned (t' := s.toks) (fun b o hb e => eb b o hb e) f0 f1 f3 f4 f5⟩
 self := fun _ _ _ _ _ st h => wpAny_pyIter_rangeiter st h
variable {R : It -> Hp -> Prop}
theorem yc7 {lo hi : Int} {t u v : Tok} {tk : Nat} (I : Inv X pins σ H s) (h1 : -(2 ^ 62) <= lo) (h2 : lo < 2 ^ 62) (h3 : -(2 ^ 62) <= hi) (h4 : hi < 2 ^ 62) (q : R (Itr lo (hi - lo).toNat) H) (ht : autoParam (0 < tk) zAt) : wpAny (model X.prog X.w) X.A (pyIter (.ref s.heap.objs.size)) (PIE X pins σ tg R) E { s with heap := s.heap.push { cls := .type "range", data := .fields #[.int lo t, .int hi u, .int 1 v] }, toks := tk } := by
 refine wpAny_pyIter_range (IsRange.new ..) (small_one h1 h2 h3 h4) ?_
 have I1 : Inv X pins σ H { s with heap := s.heap.push { cls := .type "range", data := .fields #[.int lo t, .int hi u, .int 1 v] }, toks := tk } := I.kept fun b o e => Heap.get?_push_of_some _ e
 refine ⟨(s.heap.push { cls := .type "range", data := .fields #[.int lo t, .int hi u, .int 1 v] }).objs.size, [(s.heap.push { cls := .type "range", data := .fields #[.int lo t, .int hi u, .int 1 v] }).objs.size], _, _, H, rfl,
  I1.kept (t' := tk) fun b o e => Heap.get?_push_of_some _ e, xm1 _ lo (hi - lo).toNat, ?_, fun b hb => ?_, q⟩
 ·have e1 : lo + ((0 : Nat) : Int) * 1 = lo := by simp
  have e2 : (((hi - lo).toNat : Nat) : Int) - ((0 : Nat) : Int) = Builtin.Range.rangeSize lo hi 1 := by rw [rangeSize_one]; split <;> omega
  show IsRangeIter _ _ (lo + ((0 : Nat) : Int) * 1) ((((hi - lo).toNat : Nat) : Int) - ((0 : Nat) : Int)) 1
  rw [e1, e2]
  exact Heap.get?_push_size _ rfl
 ·have e : b = (s.heap.push { cls := .type "range", data := .fields #[.int lo t, .int hi u, .int 1 v] }).objs.size := by simpa using hb
  subst e
  exact I1.fpOk (Nat.le_refl _) (I1.hok.fresh (Nat.le_refl _))
def qq5 (ta : TA) : TI := fun σ H R => ta σ H fun vs H1 => ∃ j : Int, vs = [.int j] /\ -(2 ^ 62) <= j /\ j < 2 ^ 62 /\ R (Itr 0 j.toNat) H1
theorem V2 {a : Expr} {ta : TA} {p : Pos} (hg : Gl X "range") (hm : X.mg "range" = none) (ha : PA X [a] ta) (hs : autoParam (starEach [a] X.env = [(false, eval a X.env)]) zAr) : PI X tg (.Call (.Name "range" p) [a] [] pos) (qq5 ta) := by
 intro pins s σ H R I h
 refine Call_ (ql7 I hg hm boot_range (PyProof.Rows.callWith_type1 (thn (ha pos pins s σ H _ I h) fun us s1 zq => ?_) hs rfl))
 obtain ⟨vs, H1, I1, r1, q1⟩ := zq
 obtain ⟨j, e, q1, q2, q⟩ := q1
 subst e
 cases r1 with
 | cons r rr =>
   cases rr
   obtain ⟨t, rfl⟩ := r
   exact call_range_1 (yc7 I1 (by omega) (by omega) q1 q2 (by simpa using q))
def ql8 (wi : TI) (g : TG) (tb : TS) : TS := fun D σ H => wi σ H fun J H1 => ∃ W : Nat -> Nat -> St -> Hp -> Prop, (∃ m, W 0 m σ H1) /\ ∀ i m σ H, W i m σ H ->
 (J.stop i H /\ D.nx σ H) \/ (J.go i H /\ ∃ N : St -> Hp -> Prop, (∀ σ' H', N σ' H' -> ∃ m', m' < m /\ W (i + 1) m' σ' H') /\ ∀ x H', J.yld i H x H' -> g x σ H' fun σ2 H2 => tb { D with nx := N, ct := N, bk := D.nx } σ2 H2)
def wj3 (fp : List Addr) (h : Heap) : List (Addr × Obj) := fp.filterMap fun b => (h.get? b).map fun o => (b, o)
variable {fp : List Addr}
theorem qi2 (hb : b ∈ fp) (e : h.get? b = some o) : (b, o) ∈ wj3 fp h := List.mem_filterMap.mpr ⟨b, hb, by rw [e]; rfl⟩
theorem xw4 {p : Addr × Obj} (hp : p ∈ wj3 fp h) : p.1 ∈ fp /\ h.get? p.1 = some p.2 := by
 obtain ⟨b, hb, e⟩ := List.mem_filterMap.mp hp
 cases q : h.get? b with
 | none => rw [q] at e; cases e
 | some o =>
   rw [q] at e
   have e' : (b, o) = p := Option.some.inj e
   subst e'
   exact ⟨hb, q⟩
theorem Inv.pinned (I : Inv X pins σ H s) (hf : ∀ b ∈ fp, wq4 X pins H b) (ho : ∀ b ∈ fp, ∃ o, s.heap.get? b = some o /\ ∀ v, o.data ≠ .cell v) : Inv X (pins ++ wj3 fp s.heap) σ H s :=
 I.pins_of fun p hp => (List.mem_append.mp hp).elim (fun z => I.pin p (List.mem_append_right _ z)) fun z => by
  obtain ⟨hb, e⟩ := xw4 z
  obtain ⟨f0, f1, f2, _⟩ := hf p.1 hb
  obtain ⟨o, e', d⟩ := ho p.1 hb
  rw [e] at e'; cases e'
  exact ⟨e, f0, f1, f2, d⟩
theorem Inv.unpinned {pl : List (Addr × Obj)} (I : Inv X (pins ++ pl) σ H s) : Inv X pins σ H s := I.pins_of fun p hp => I.pin p (List.mem_append_right _ (List.mem_append_left _ hp))
variable {iter : Expr}
theorem V0 {wi : TI} {g : TG} (hp : PassesOwn (model X.prog X.w) X.A X.env X.xe) (hc : X.calm = true) (hi : PI X tg iter wi) (hg : PG X tg g) (hb : PSs X body tb) (hs : autoParam (∀ x, foldedSetIterable iter X.env x = pure x) zAi) : PS X (.For tg iter body [] pos) (ql8 wi g tb) := by
 intro pins s σ H D I h
 refine wpAny_For (thn (hi pins s σ H _ I h) fun v s1 h1 => thn h1 fun itv s2 h2 => ?_) hs
 obtain ⟨it, fp, tn, J, H2, e, I2, T, st2, f2, W, ⟨m0, w0⟩, turn⟩ := h2
 subst e
 have stat : ∀ {H' : Hp}, (∀ b ∈ fp, H' b = none) -> ∀ b ∈ fp, wq4 X pins H' b := fun hn b hb => ⟨hn b hb, (f2 b hb).2⟩
 refine codeAny_forLoop_any (fun n s' => ∃ i σ' H', Inv X pins σ' H' s' /\ tn i s'.heap /\ (∀ b ∈ fp, H' b = none) /\ W i n σ' H') ?_ m0 ⟨0, σ, H2, I2, st2, fun b hb => (f2 b hb).1, w0⟩
 rintro n s3 ⟨i, σ3, H3, I3, st3, fr3, w3⟩
 rcases turn i n σ3 H3 w3 with ⟨stop, qn⟩ | ⟨go, N, hN, step⟩
 ·refine wpAny_passesOwn hp (thn (T.done X rfl rfl rfl hc i pins s3 σ3 H3 X.xe I3 (stat fr3) st3 stop) fun r s4 zq => ?_)
  obtain ⟨hr, I4⟩ := zq
  subst hr
  exact wpAny_execs_nil ⟨σ3, H3, I4, qn⟩
 ·refine wpAny_passesOwn hp (thn (T.item X rfl rfl rfl hc i pins s3 σ3 H3 X.xe I3 (stat fr3) st3 go) fun r s4 zq => ?_)
  obtain ⟨u, hr, h4⟩ := zq
  subst hr
  refine wpAny_passesOwn hp (thn h4 fun _ s5 zq => ?_)
  obtain ⟨x, H5, I5, r5, y5, st5, fr5⟩ := zq
  have I5' := I5.pinned (stat fr5) (T.obj _ _ st5)
  refine wpAny_passesOwn hp (thn (hg _ s5 σ3 H5 x u _ I5' r5 (step x H5 y5)) fun _ s6 zq => ?_)
  obtain ⟨σ6, H6, I6, q6⟩ := zq
  refine wpAny_passesOwn hp (thn (hb _ s6 σ6 H6 _ I6 q6) fun f s7 q7 => ?_)
  have again : ∀ {σ7 : St} {H7 : Hp}, Inv X (pins ++ wj3 fp s5.heap) σ7 H7 s7 -> N σ7 H7 -> ∃ m, m < n /\ ∃ i σ' H', Inv X pins σ' H' s7 /\ tn i s7.heap /\ (∀ b ∈ fp, H' b = none) /\ W i m σ' H' := fun {σ7 H7} I7 n7 => by
   obtain ⟨m', hm, w7⟩ := hN σ7 H7 n7
   refine ⟨m', hm, i + 1, σ7, H7, I7.unpinned, T.keep _ _ _ st5 fun b hb o e => (I7.pin (b, o) (List.mem_append_right _ (List.mem_append_right _ (qi2 hb e)))).1, fun b hb => ?_, w7⟩
   obtain ⟨o, e, d⟩ := T.obj _ _ st5 b hb
   exact (I7.pin (b, o) (List.mem_append_right _ (List.mem_append_right _ (qi2 hb e)))).2.1
  cases f with
  | next => obtain ⟨σ7, H7, I7, n7⟩ := q7; exact again I7 n7
  | cont => obtain ⟨σ7, H7, I7, n7⟩ := q7; exact again I7 n7
  | brk => obtain ⟨σ7, H7, I7, q7⟩ := q7; exact ⟨σ7, H7, I7.unpinned, q7⟩
  | ret v => obtain ⟨x7, σ7, H7, I7, r7, q7⟩ := q7; exact ⟨x7, σ7, H7, I7.unpinned, r7, q7⟩
abbrev PAt {α : Type} (P : Nat -> α -> Hp -> Prop) (i : Nat) : α -> Hp -> Prop := P i
theorem ql9 {g : TG} (Pv : Nat -> St -> Hp -> Prop) (h0 : Pv 0 σ H) (hl : ∀ i σ H, i <= xs.length -> Pv i σ H -> SqL K H a xs) (hs : ∀ i x σ H, xs[i]? = some x -> Pv i σ H -> g x σ H fun σ2 H2 => tb { D with nx := PAt Pv (i + 1), ct := PAt Pv (i + 1), bk := D.nx } σ2 H2) (hd : ∀ σ H, Pv xs.length σ H -> D.nx σ H) :
 ∃ W : Nat -> Nat -> St -> Hp -> Prop, (∃ m, W 0 m σ H) /\ ∀ i m σ H, W i m σ H ->
  ((Itl K a).stop i H /\ D.nx σ H) \/ ((Itl K a).go i H /\ ∃ N : St -> Hp -> Prop, (∀ σ' H', N σ' H' -> ∃ m', m' < m /\ W (i + 1) m' σ' H') /\ ∀ x H', (Itl K a).yld i H x H' -> g x σ H' fun σ2 H2 => tb { D with nx := N, ct := N, bk := D.nx } σ2 H2) := by
 refine ⟨fun i m σ H => m = xs.length - i /\ i <= xs.length /\ Pv i σ H, ⟨xs.length, by simp, Nat.zero_le _, h0⟩, ?_⟩
 rintro i m σ H ⟨rfl, hi, p⟩
 have q := hl i σ H hi p
 by_cases hlt : i < xs.length
 ·refine .inr ⟨⟨xs, xs[i], q, by simp [hlt]⟩, Pv (i + 1), fun σ' H' p' => ⟨xs.length - (i + 1), by omega, rfl, hlt, p'⟩, fun x H' y => ?_⟩
  obtain ⟨e, y⟩ := y
  subst e
  exact hs i x σ _ (y xs q) p
 ·have e : i = xs.length := by omega
  subst e
  exact .inl ⟨⟨xs, q, Nat.le_refl _⟩, hd σ H p⟩
theorem wx3 {g : TG} (Pv : Nat -> St -> Hp -> Prop) (h0 : Pv 0 σ H) (hl : ∀ i σ H, i <= xs.length -> Pv i σ H -> SqT K H a xs) (hs : ∀ i x σ H, xs[i]? = some x -> Pv i σ H -> g x σ H fun σ2 H2 => tb { D with nx := PAt Pv (i + 1), ct := PAt Pv (i + 1), bk := D.nx } σ2 H2) (hd : ∀ σ H, Pv xs.length σ H -> D.nx σ H) :
 ∃ W : Nat -> Nat -> St -> Hp -> Prop, (∃ m, W 0 m σ H) /\ ∀ i m σ H, W i m σ H ->
  ((Itt K a).stop i H /\ D.nx σ H) \/ ((Itt K a).go i H /\ ∃ N : St -> Hp -> Prop, (∀ σ' H', N σ' H' -> ∃ m', m' < m /\ W (i + 1) m' σ' H') /\ ∀ x H', (Itt K a).yld i H x H' -> g x σ H' fun σ2 H2 => tb { D with nx := N, ct := N, bk := D.nx } σ2 H2) := by
 refine ⟨fun i m σ H => m = xs.length - i /\ i <= xs.length /\ Pv i σ H, ⟨xs.length, by simp, Nat.zero_le _, h0⟩, ?_⟩
 rintro i m σ H ⟨rfl, hi, p⟩
 have q := hl i σ H hi p
 by_cases hlt : i < xs.length
 ·refine .inr ⟨⟨xs, xs[i], q, by simp [hlt]⟩, Pv (i + 1), fun σ' H' p' => ⟨xs.length - (i + 1), by omega, rfl, hlt, p'⟩, fun x H' y => ?_⟩
  obtain ⟨e, y⟩ := y
  subst e
  exact hs i x σ _ (y xs q) p
 ·have e : i = xs.length := by omega
  subst e
  exact .inl ⟨⟨xs, q, Nat.le_refl _⟩, hd σ H p⟩
theorem xw5 {lo : Int} {g : TG} (Pv : Nat -> St -> Hp -> Prop) (h0 : Pv 0 σ H) (hs : ∀ i σ H, i < n -> Pv i σ H -> g (.int (lo + i)) σ H fun σ2 H2 => tb { D with nx := PAt Pv (i + 1), ct := PAt Pv (i + 1), bk := D.nx } σ2 H2) (hd : ∀ σ H, Pv n σ H -> D.nx σ H) :
 ∃ W : Nat -> Nat -> St -> Hp -> Prop, (∃ m, W 0 m σ H) /\ ∀ i m σ H, W i m σ H ->
  ((Itr lo n).stop i H /\ D.nx σ H) \/ ((Itr lo n).go i H /\ ∃ N : St -> Hp -> Prop, (∀ σ' H', N σ' H' -> ∃ m', m' < m /\ W (i + 1) m' σ' H') /\ ∀ x H', (Itr lo n).yld i H x H' -> g x σ H' fun σ2 H2 => tb { D with nx := N, ct := N, bk := D.nx } σ2 H2) := by
 refine ⟨fun i m σ H => m = n - i /\ i <= n /\ Pv i σ H, ⟨n, by simp, Nat.zero_le _, h0⟩, ?_⟩
 rintro i m σ H ⟨rfl, hi, p⟩
 by_cases hlt : i < n
 ·refine .inr ⟨hlt, Pv (i + 1), fun σ' H' p' => ⟨n - (i + 1), by omega, rfl, hlt, p'⟩, fun x H' y => ?_⟩
  obtain ⟨e, y⟩ := y
  subst e y
  exact hs i σ _ hlt p
 ·have e : i = n := by omega
  subst e
  exact .inl ⟨Nat.le_refl _, hd σ H p⟩
abbrev R2 := V -> V -> Hp -> VK -> Prop
def OpR (X : Cx) (f : Value -> Value -> Sem Value) (r : R2) : Prop :=
 ∀ (pins : List (Addr × Obj)) (s : Shared) (σ : St) (H : Hp) (x y : V) (v u : Value) (Q : VK), Inv X pins σ H s -> G2 x v -> G2 y u -> r x y H Q ->
  wpAny (model X.prog X.w) X.A (f v u) (EP X pins σ Q) X.xe s
def UnR (X : Cx) (f : Value -> Sem Value) (r : V -> Hp -> VK -> Prop) : Prop :=
 ∀ (pins : List (Addr × Obj)) (s : Shared) (σ : St) (H : Hp) (x : V) (v : Value) (Q : VK), Inv X pins σ H s -> G2 x v -> r x H Q ->
  wpAny (model X.prog X.w) X.A (f v) (EP X pins σ Q) X.xe s
def Q7 (X : Cx) (f : Value) (r : List V -> Hp -> VK -> Prop) : Prop :=
 ∀ (pins : List (Addr × Obj)) (s : Shared) (σ : St) (H : Hp) (xs : List V) (us : List Value) (Q : VK), Inv X pins σ H s -> G3 xs us -> r xs H Q ->
  wpAny (model X.prog X.w) X.A (call f us) (EP X pins σ Q) X.xe s
def tOp (r : R2) (ta tb : TE) : TE := fun σ H Q => ta σ H fun x H1 => tb σ H1 fun y H2 => r x y H2 Q
def tUn (r : V -> Hp -> VK -> Prop) (ta : TE) : TE := fun σ H Q => ta σ H fun x H1 => r x H1 Q
def rI (C : Int -> Int -> Prop) (g : Int -> Int -> V) : R2 := fun x y H Q => ∃ i j, x = .int i /\ y = .int j /\ C i j /\ Q (g i j) H
def rI0 (g : Int -> Int -> V) : R2 := fun x y H Q => ∃ i j, x = .int i /\ y = .int j /\ Q (g i j) H
def rU (g : Int -> V) : V -> Hp -> VK -> Prop := fun x H Q => ∃ i, x = .int i /\ Q (g i) H
variable {tc : TE} {f : Value -> Value -> Sem Value} {i j : Int}
section
variable {a b : Expr} {tb : TE}
theorem yw7 (ha : PE X a ta) (hb : PE X b tb) {R : V -> V -> Hp -> Prop} (I : Inv X pins σ H s) (h : ta σ H fun x H1 => tb σ H1 fun y H2 => R x y H2) (hf : ∀ v u s2 x y H2, Inv X pins σ H2 s2 -> G2 x v -> G2 y u -> R x y H2 -> wpAny (model X.prog X.w) X.A (f v u) Q X.xe s2) :
 wpAny (model X.prog X.w) X.A (eval a X.env) (fun v s₁ => wpAny (model X.prog X.w) X.A (eval b X.env) (fun u s₂ => wpAny (model X.prog X.w) X.A (f v u) Q X.xe s₂) X.xe s₁) X.xe s := by
 refine thn (ha pins s σ H _ I h) fun v s1 zq => ?_
 obtain ⟨x, H1, I1, r1, q1⟩ := zq
 refine thn (hb pins s1 σ H1 _ I1 q1) fun u s2 zq => ?_
 obtain ⟨y, H2, I2, r2, q2⟩ := zq
 exact hf v u s2 x y H2 I2 r1 r2 q2
theorem L9 {op : Operator} {r : R2} (ho : OpR X (binaryOp op) r) (ha : PE X a ta) (hb : PE X b tb) : PE X (.BinOp a op b pos) (tOp r ta tb) := by
 intro pins s σ H Q I h
 exact wpAny_BinOp (yw7 ha hb I h fun v u s2 x y H2 I2 rx ry q => ho pins s2 σ H2 x y v u Q I2 rx ry q)
theorem yu2 {op : UnaryOp} {r : V -> Hp -> VK -> Prop} (ho : UnR X (unaryOp op) r) (ha : PE X a ta) : PE X (.UnaryOp op a pos) (tUn r ta) := by
 intro pins s σ H Q I h
 exact UnaryOp_ (thn (ha pins s σ H _ I h) fun v s1 ⟨x, H1, I1, r1, q1⟩ => ho pins s1 σ H1 x v Q I1 r1 q1)
theorem opI {C : Int -> Int -> Prop} {g : Int -> Int -> Int} (rule : ∀ (i j : Int) (t u : Tok) (s : Shared) (Q : Value -> Shared -> Prop) (E : Value -> Shared -> Prop), C i j -> Q (.int (g i j) s.toks) { s with toks := s.toks + 1 } -> wpAny (model X.prog X.w) X.A (f (.int i t) (.int j u)) Q E s) :
 OpR X f (rI C fun i j => .int (g i j)) := by
 intro pins s σ H x y v u Q I rx ry h
 obtain ⟨i, j, rfl, rfl, hc, q⟩ := h
 obtain ⟨t, rfl⟩ := rx
 obtain ⟨t', rfl⟩ := ry
 exact rule i j t t' s _ _ hc ⟨.int (g i j), H, I.tok _, ⟨_, rfl⟩, q⟩
theorem zj5 {g : Int -> Int -> Int} (rule : ∀ (i j : Int) (t u : Tok) (s : Shared) (Q : Value -> Shared -> Prop) (E : Value -> Shared -> Prop), Q (.int (g i j) s.toks) { s with toks := s.toks + 1 } -> wpAny (model X.prog X.w) X.A (f (.int i t) (.int j u)) Q E s) :
 OpR X f (rI0 fun i j => .int (g i j)) := by
 intro pins s σ H x y v u Q I rx ry h
 obtain ⟨i, j, rfl, rfl, q⟩ := h
 obtain ⟨t, rfl⟩ := rx
 obtain ⟨t', rfl⟩ := ry
 exact rule i j t t' s _ _ ⟨.int (g i j), H, I.tok _, ⟨_, rfl⟩, q⟩
theorem yn7 {g : Int -> Int -> Bool} (rule : ∀ (i j : Int) (t u : Tok) (s : Shared) (Q : Value -> Shared -> Prop) (E : Value -> Shared -> Prop), Q (.bool (g i j)) s -> wpAny (model X.prog X.w) X.A (f (.int i t) (.int j u)) Q E s) :
 OpR X f (rI0 fun i j => .bl (g i j)) := by
 intro pins s σ H x y v u Q I rx ry h
 obtain ⟨i, j, rfl, rfl, q⟩ := h
 obtain ⟨t, rfl⟩ := rx
 obtain ⟨t', rfl⟩ := ry
 exact rule i j t t' s _ _ ⟨.bl (g i j), H, I, rfl, q⟩
def xw6 (i j : Int) : Prop := 0 < j /\ j < 1073741824
def yc8 (i j : Int) : Prop := (-(2 ^ 64) < i /\ i < 2 ^ 64) \/ (-(2 ^ 64) < j /\ j < 2 ^ 64)
theorem yc8.ok (h : yc8 i j) : IntMulOk i j := by
 rcases h with ⟨h1, h2⟩ | ⟨h1, h2⟩
 ·exact .of_left (intBits_le_64 h1 h2)
 ·exact .of_right (intBits_le_64 h1 h2)
theorem yw8 : OpR X (binaryOp .Add) (rI0 fun i j => .int (i + j)) := zj5 fun _ _ _ _ _ _ _ q => add_int q
theorem yw9 : OpR X (binaryOp .Mult) (rI yc8 fun i j => .int (i * j)) := opI fun _ _ _ _ _ _ _ hc q => mul_int q hc.ok
theorem wx4 : OpR X (binaryOp .FloorDiv) (rI xw6 fun i j => .int (i / j)) := opI fun i j _ _ _ _ _ hc q => by
 have h1 : (0 : Int) < j := hc.1
 have h2 : j < 1073741824 := hc.2
 exact floordiv_int (by omega) (by rw [Int.fdiv_eq_ediv_of_nonneg i (by omega)]; exact q) (.inl (PyProof.noPylong_small (by omega)))
theorem qm0 : OpR X (binaryOp .Mod) (rI (fun _ j => 0 < j) fun i j => .int (i % j)) := opI fun i j _ _ _ _ _ hc q => by
 have h1 : (0 : Int) < j := hc
 exact mod_int' (by omega) (by rw [Int.fmod_eq_emod_of_nonneg i (by omega)]; exact q)
theorem unI {f : Value -> Sem Value} {g : Int -> Int} (rule : ∀ (i : Int) (t : Tok) (s : Shared) (Q : Value -> Shared -> Prop) (E : Value -> Shared -> Prop), Q (.int (g i) s.toks) { s with toks := s.toks + 1 } -> wpAny (model X.prog X.w) X.A (f (.int i t)) Q E s) :
 UnR X f (rU fun i => .int (g i)) := by
 intro pins s σ H x v Q I rx h
 obtain ⟨i, rfl, q⟩ := h
 obtain ⟨t, rfl⟩ := rx
 exact rule i t s _ _ ⟨.int (g i), H, I.tok _, ⟨_, rfl⟩, q⟩
theorem yc9 : UnR X (unaryOp .USub) (rU fun i => .int (-i)) := unI fun _ _ _ _ _ q => neg_int q
end
def yn8 : V -> V -> Bool
 | .non, .non => true | .non, .int _ => true | .int _, .non => true | .non, .bl _ => true | .bl _, .non => true | .non, .str _ => true | .str _, .non => true
 | .int _, .int _ => true | .bl _, .bl _ => true | .str _, .str _ => true | .byt _, .byt _ => true
 | .int _, .str _ => true | .str _, .int _ => true | .bl _, .str _ => true | .str _, .bl _ => true
 | _, _ => false
def rEq : R2 := fun x y H Q => yn8 x y = true /\ Q (.bl (decide (x = y))) H
def rNe : R2 := fun x y H Q => yn8 x y = true /\ Q (.bl (!decide (x = y))) H
theorem xr1 : decide (V.int i = V.int j) = (i == j) := by
 rw [Bool.eq_iff_iff]
 simp
theorem yd0 {i j : Bool} : decide (V.bl i = V.bl j) = (i == j) := by
 rw [Bool.eq_iff_iff]
 simp
theorem xr2 {i j : Str} : decide (V.str i = V.str j) = (i == j) := by
 rw [Bool.eq_iff_iff]
 simp
theorem xr3 {i j : Array UInt8} : decide (V.byt i = V.byt j) = (i.toList == j.toList) := by
 rw [Bool.eq_iff_iff]
 cases i
 cases j
 simp
variable {op : CmpOp}
section
variable {a b : Expr} {tb : TE}
theorem L0 {Q : VK} {k k' : Bool} (I : Inv X pins σ H s) (q : Q (.bl k) H) (e : k = k') : EP X pins σ Q (.bool k') s := by
 subst e
 exact ⟨.bl k, H, I, rfl, q⟩
theorem zd6 : OpR X (compareOp .Eq) rEq := by
 intro pins s σ H x y v u Q I rx ry h
 obtain ⟨hs, q⟩ := h
 cases x with
 | non =>
   cases rx
   cases y with
   | non => cases ry; exact PySem.EqNone.eq_none_none (L0 I q (by simp))
   | bl j => cases ry; exact PySem.EqNone.eq_none_bool (L0 I q (by simp))
   | int j => obtain ⟨t', rfl⟩ := ry; exact PySem.EqNone.eq_none_int (L0 I q (by simp))
   | str j => obtain ⟨t', rfl⟩ := ry; exact PySem.EqNone.eq_none_str (L0 I q (by simp))
   | _ => exact absurd (show false = true from hs) Bool.false_ne_true
 | bl i =>
   cases rx
   cases y with
   | non => cases ry; exact PySem.EqNone.eq_bool_none (L0 I q (by simp))
   | bl j => cases ry; exact eq_bool (L0 I q yd0)
   | str j => obtain ⟨t', rfl⟩ := ry; exact PySem.EqMixed.eq_bool_str (L0 I q (by simp))
   | _ => exact absurd (show false = true from hs) Bool.false_ne_true
 | int i =>
   obtain ⟨t, rfl⟩ := rx
   cases y with
   | non => cases ry; exact PySem.EqNone.eq_int_none (L0 I q (by simp))
   | int j => obtain ⟨t', rfl⟩ := ry; exact eq_int (L0 I q xr1)
   | str j => obtain ⟨t', rfl⟩ := ry; exact PySem.EqMixed.eq_int_str (L0 I q (by simp))
   | _ => exact absurd (show false = true from hs) Bool.false_ne_true
 | str i =>
   obtain ⟨t, rfl⟩ := rx
   cases y with
   | non => cases ry; exact PySem.EqNone.eq_str_none (L0 I q (by simp))
   | bl j => cases ry; exact PySem.EqMixed.eq_str_bool (L0 I q (by simp))
   | int j => obtain ⟨t', rfl⟩ := ry; exact PySem.EqMixed.eq_str_int (L0 I q (by simp))
   | str j => obtain ⟨t', rfl⟩ := ry; exact eq_str (L0 I q xr2)
   | _ => exact absurd (show false = true from hs) Bool.false_ne_true
 | byt i =>
   obtain ⟨t, rfl⟩ := rx
   cases y with
   | byt j => obtain ⟨t', rfl⟩ := ry; exact PySem.W.eq_bytes (L0 I q xr3)
   | _ => exact absurd (show false = true from hs) Bool.false_ne_true
 | _ => cases y <;> exact absurd (show false = true from hs) Bool.false_ne_true
theorem zd7 : OpR X (compareOp .NotEq) rNe := by
 intro pins s σ H x y v u Q I rx ry h
 obtain ⟨hs, q⟩ := h
 cases x with
 | non =>
   cases rx
   cases y with
   | non => cases ry; exact PySem.EqNone.ne_none_none (L0 I q (by simp))
   | bl j => cases ry; exact PySem.EqNone.ne_none_bool (L0 I q (by simp))
   | int j => obtain ⟨t', rfl⟩ := ry; exact PySem.EqNone.ne_none_int (L0 I q (by simp))
   | str j => obtain ⟨t', rfl⟩ := ry; exact PySem.EqNone.ne_none_str (L0 I q (by simp))
   | _ => exact absurd (show false = true from hs) Bool.false_ne_true
 | bl i =>
   cases rx
   cases y with
   | non => cases ry; exact PySem.EqNone.ne_bool_none (L0 I q (by simp))
   | bl j => cases ry; exact ne_bool (L0 I q (congrArg not yd0))
   | str j => obtain ⟨t', rfl⟩ := ry; exact PySem.EqMixed.ne_bool_str (L0 I q (by simp))
   | _ => exact absurd (show false = true from hs) Bool.false_ne_true
 | int i =>
   obtain ⟨t, rfl⟩ := rx
   cases y with
   | non => cases ry; exact PySem.EqNone.ne_int_none (L0 I q (by simp))
   | int j => obtain ⟨t', rfl⟩ := ry; exact ne_int (L0 I q (congrArg not xr1))
   | str j => obtain ⟨t', rfl⟩ := ry; exact PySem.EqMixed.ne_int_str (L0 I q (by simp))
   | _ => exact absurd (show false = true from hs) Bool.false_ne_true
 | str i =>
   obtain ⟨t, rfl⟩ := rx
   cases y with
   | non => cases ry; exact PySem.EqNone.ne_str_none (L0 I q (by simp))
   | bl j => cases ry; exact PySem.EqMixed.ne_str_bool (L0 I q (by simp))
   | int j => obtain ⟨t', rfl⟩ := ry; exact PySem.EqMixed.ne_str_int (L0 I q (by simp))
   | str j => obtain ⟨t', rfl⟩ := ry; exact ne_str (L0 I q (congrArg not xr2))
   | _ => exact absurd (show false = true from hs) Bool.false_ne_true
 | byt i =>
   obtain ⟨t, rfl⟩ := rx
   cases y with
   | byt j => obtain ⟨t', rfl⟩ := ry; exact PySem.W.ne_bytes (L0 I q (congrArg not xr3))
   | _ => exact absurd (show false = true from hs) Bool.false_ne_true
 | _ => cases y <;> exact absurd (show false = true from hs) Bool.false_ne_true
theorem zd8 : OpR X (compareOp .Lt) (rI0 fun i j => .bl (decide (i < j))) := yn7 fun _ _ _ _ _ _ _ q => lt_int q
theorem zd9 : OpR X (compareOp .LtE) (rI0 fun i j => .bl (decide (i <= j))) := yn7 fun _ _ _ _ _ _ _ q => le_int q
theorem ze0 : OpR X (compareOp .Gt) (rI0 fun i j => .bl (decide (j < i))) := yn7 fun _ _ _ _ _ _ _ q => gt_int q
theorem ze1 : OpR X (compareOp .GtE) (rI0 fun i j => .bl (decide (j <= i))) := yn7 fun _ _ _ _ _ _ _ q => ge_int q
theorem xw7 : OpR X (compareOp .Lt) (fun x y H Q => ∃ i j, x = .str i /\ y = .str j /\ Q (.bl (decide (i.cps.toList < j.cps.toList))) H) := by
 intro pins s σ H x y v u Q I rx ry h
 obtain ⟨i, j, rfl, rfl, q⟩ := h
 obtain ⟨t, rfl⟩ := rx
 obtain ⟨t', rfl⟩ := ry
 exact lt_str (L0 I q rfl)
theorem xw8 : OpR X (compareOp .In) (fun x y H Q => ∃ i j, x = .str i /\ y = .str j /\ Q (.bl (!(Builtin.Str.occurrences j i 0 j.length 1).isEmpty)) H) := by
 intro pins s σ H x y v u Q I rx ry h
 obtain ⟨i, j, rfl, rfl, q⟩ := h
 obtain ⟨t, rfl⟩ := rx
 obtain ⟨t', rfl⟩ := ry
 exact in_str (L0 I q rfl)
theorem yx0 : OpR X (compareOp .Is) (fun x y H Q => y = .non /\ Q (.bl (decide (x = .non))) H) := by
 intro pins s σ H x y v u Q I rx ry h
 obtain ⟨rfl, q⟩ := h
 cases ry
 refine is_none_gen (L0 I q ?_)
 cases x <;> first
  | (cases rx; rfl)
  | (obtain ⟨t, rfl⟩ := rx; rfl)
theorem yn9 : OpR X (compareOp .IsNot) (fun x y H Q => y = .non /\ Q (.bl (!decide (x = .non))) H) := by
 intro pins s σ H x y v u Q I rx ry h
 obtain ⟨rfl, q⟩ := h
 cases ry
 refine isnot_none_gen (L0 I q ?_)
 cases x <;> first
  | (cases rx; rfl)
  | (obtain ⟨t, rfl⟩ := rx; rfl)
theorem OpR.or {r r' : R2} (h : OpR X f r) (h' : OpR X f r') : OpR X f (fun x y H Q => r x y H Q \/ r' x y H Q) := by
 intro pins s σ H x y v u Q I rx ry q
 rcases q with q | q
 ·exact h pins s σ H x y v u Q I rx ry q
 ·exact h' pins s σ H x y v u Q I rx ry q
theorem C8 (b : Expr) (h : autoParam (op ≠ .In) zAd) (h2 : autoParam (op ≠ .NotIn) zAd) : behindInMarks op b = false := by
 have e1 : (op == CmpOp.In) = false := by cases op <;> first | rfl | exact absurd rfl h
 have e2 : (op == CmpOp.NotIn) = false := by cases op <;> first | rfl | exact absurd rfl h2
 cases b <;> simp [behindInMarks, e1, e2]
theorem T8 {r : R2} (ho : OpR X (compareOp op) r) (ha : PE X a ta) (hb : PE X b tb) (hm : behindInMarks op b = false) : PE X (.Compare a [op] [b] pos) (tOp r ta tb) := by
 intro pins s σ H Q I h
 exact wpAny_Compare1 (yw7 ha hb I h fun v u s2 x y H2 I2 rx ry q => ho pins s2 σ H2 x y v u Q I2 rx ry q) hm
def D5 (t : TE) : TT := fun σ H Q => t σ H fun x H' => ∃ k, x = .bl k /\ Q k H'
theorem C0 {r : R2} (ho : OpR X (compareOp op) r) (ha : PE X a ta) (hb : PE X b tb) (hm : behindInMarks op b = false) : PT X (.Compare a [op] [b] pos) (D5 (tOp r ta tb)) := by
 intro pins s σ H Q I h
 refine wpAny_isTrue_Compare1 (thn (ha pins s σ H _ I h) fun v s1 ⟨x, H1, I1, r1, q1⟩ => thn (hb pins s1 σ H1 _ I1 q1) fun u s2 ⟨y, H2, I2, r2, q2⟩ =>
  thn (ho pins s2 σ H2 x y v u _ I2 r1 r2 q2) fun c s3 ⟨z, H3, I3, r3, k, e, q3⟩ => ?_) hm
 subst e
 cases r3
 exact wpAny_truthy_bool ⟨H3, I3, q3⟩
def wx5 (r r' : R2) (ta tb tc : TE) : TE := fun σ H Q => ta σ H fun x H1 => tb σ H1 fun y H2 => r x y H2 fun z H3 => ∃ k, z = .bl k /\
 (if k = true then tc σ H3 fun w' H4 => r' y w' H4 Q else Q (.bl false) H3)
theorem xf0 {op' : CmpOp} {r r' : R2} (ho : OpR X (compareOp op) r) (ho' : OpR X (compareOp op') r') (ha : PE X a ta) (hb : PE X b tb) (hc : PE X c tc) (hm : lastMarks [op, op'] [b, c] = false := by with_unfolding_all rfl) : PE X (.Compare a [op, op'] [b, c] pos) (wx5 r r' ta tb tc) := by
 intro pins s σ H Q I h
 refine Compare_chain (thn (ha pins s σ H _ I h) fun v s1 ⟨x, H1, I1, r1, q1⟩ => chain_link (thn (hb pins s1 σ H1 _ I1 q1) fun u s2 ⟨y, H2, I2, r2, q2⟩ =>
  thn (ho pins s2 σ H2 x y v u _ I2 r1 r2 q2) fun d s3 ⟨z, H3, I3, r3, k, e, q3⟩ => ?_)) hm
 subst e
 cases r3
 refine wpAny_truthy_bool ?_
 cases k with
 | false => exact ite_ff ⟨.bl false, H3, I3, rfl, q3⟩
 | true => exact ite_tt (chain_last (thn (hc pins s3 σ H3 _ I3 q3) fun w' s4 ⟨z', H4, I4, r4, q4⟩ => ho' pins s4 σ H4 y z' u w' Q I4 r2 r4 q4))
theorem qz5 : (sizeLine : Nat) < 2 ^ 63 := by rw [sizeLine_eq]; decide
theorem xm2 : OpR X (binaryOp .Add) (fun x y H Q => ∃ i j, x = .str i /\ y = .str j /\ i.length + j.length <= sizeLine /\ Q (.str (i ++ j)) H) := by
 intro pins s σ H x y v u Q I rx ry h
 obtain ⟨i, j, rfl, rfl, hz, q⟩ := h
 obtain ⟨t, rfl⟩ := rx
 obtain ⟨t', rfl⟩ := ry
 exact wpAny_with_toks (n := 1) I.tk (add_str (fun t' tk ht => ⟨.str (i ++ j), H, I.tok _ ht, ⟨_, rfl⟩, q⟩) hz)
theorem qd0 {x : V} (r : G3 [x] us) : ∃ u, us = [u] /\ G2 x u := by
 cases r with
 | cons r1 r2 => cases r2; exact ⟨_, rfl, r1⟩
theorem wu8 {x : V} (r : G3 [x, y] us) : ∃ u w', us = [u, w'] /\ G2 x u /\ G2 y w' := by
 cases r with
 | cons r1 r2 =>
   cases r2 with
   | cons r3 r4 => cases r4; exact ⟨_, _, rfl, r1, r3⟩
theorem xw9 (hc : X.calm = true) : Q7 X (.builtin "max") (fun xs H Q => ∃ i j, xs = [.int i, .int j] /\ Q (.int (if j > i then j else i)) H) := by
 intro pins s σ H xs us Q I r h
 obtain ⟨i, j, rfl, q⟩ := h
 obtain ⟨u, w', rfl, ⟨t, rfl⟩, ⟨t', rfl⟩⟩ := wu8 r
 refine wpAny_with_toks (n := 1) I.tk (max_two_ints (I.ok.hd hc) fun h' tk k ht => ⟨_, H, I.kept k ht, ?_, q⟩)
 by_cases hj : j > i
 ·rw [if_pos hj, if_pos hj]; exact ⟨_, rfl⟩
 ·rw [if_neg hj, if_neg hj]; exact ⟨_, rfl⟩
theorem xx0 (hc : X.calm = true) : Q7 X (.builtin "min") (fun xs H Q => ∃ i j, xs = [.int i, .int j] /\ Q (.int (if j < i then j else i)) H) := by
 intro pins s σ H xs us Q I r h
 obtain ⟨i, j, rfl, q⟩ := h
 obtain ⟨u, w', rfl, ⟨t, rfl⟩, ⟨t', rfl⟩⟩ := wu8 r
 refine wpAny_with_toks (n := 1) I.tk (min_two_ints (I.ok.hd hc) fun h' tk k ht => ⟨_, H, I.kept k ht, ?_, q⟩)
 by_cases hj : j < i
 ·rw [if_pos hj, if_pos hj]; exact ⟨_, rfl⟩
 ·rw [if_neg hj, if_neg hj]; exact ⟨_, rfl⟩
theorem xx1 : Q7 X (.type "int") (fun xs H Q => (∃ i, xs = [.int i] /\ Q (.int i) H) \/ ∃ k, xs = [.bl k] /\ Q (.int (if k then 1 else 0)) H) := by
 intro pins s σ H xs us Q I r h
 rcases h with ⟨i, rfl, q⟩ | ⟨k, rfl, q⟩
 ·obtain ⟨u, rfl, t, rfl⟩ := qd0 r
  exact call_int_int ⟨.int i, H, I, ⟨_, rfl⟩, q⟩
 ·obtain ⟨u, rfl, r1⟩ := qd0 r
  cases r1
  exact call_int_bool ⟨.int (if k then 1 else 0), H, I.tok _, ⟨_, rfl⟩, q⟩
end
structure yx1 (h : Heap) (x dx C : Addr) (mA : Str -> Option Value) : Prop where
 obj : h.get? x = some (PySem.W.instObj C dx)
 ns : h.Ns1 dx mA
 ne : dx ≠ x
variable {dx : Addr} {mA : Str -> Option Value}
theorem xx2 (n : h.Ns1 dx mA) : ∃ od, h.get? dx = some od /\ ∀ name, PySem.W.lookIn name od = some (mA name) := by
 obtain ⟨o, es, ep, ho, hd, hk, _, hm⟩ := n
 refine ⟨o, ho, fun name => ?_⟩
 have e := hm name
 unfold nsFind findBy at e
 rw [<- Array.find?_toList] at e
 unfold PySem.W.lookIn
 rw [hd]
 dsimp only
 split
 ·rename_i y q
  rw [q] at e
  exact congrArg some e
 ·rename_i q
  rw [q] at e
  have a : es.toList.any (·.refKey) = false := by
   rw [List.any_eq_false]
   intro y hy
   obtain ⟨z, t, hkey⟩ := hk y (Array.mem_toList_iff.mp hy)
   simp [DictEntry.refKey, hkey]
  have a' : ¬ es.toList.any (·.refKey) = true := by rw [a]; exact Bool.false_ne_true
  rw [if_neg a']
  exact congrArg some e
variable {C : Addr}
theorem yx1.look {x : Addr} (I : yx1 h x dx C mA) : ∃ od, PySem.W.InstAt h x (PySem.W.instObj C dx) C (some od) /\ ∀ name, PySem.W.lookIn name od = some (mA name) :=
 let ⟨od, ho, hl⟩ := xx2 I.ns
 ⟨od, ⟨I.obj, rfl, rfl, ho⟩, hl⟩
theorem qr3.some_of {o : Option Value} (r : qr3 (some v) o) : ∃ u, o = some u /\ G2 v u := by
 cases o with
 | none => exact (show False from r).elim
 | some u => exact ⟨u, rfl, r⟩
theorem xx3 (r : G2 v u) : PySem.W.handedIn u = true := by
 cases v with
 | non => cases (show u = Value.none from r); rfl
 | bl b => cases (show u = Value.bool b from r); rfl
 | int i => obtain ⟨t, e⟩ := (show ∃ t, u = Value.int i t from r); cases e; rfl
 | str x => obtain ⟨t, e⟩ := (show ∃ t, u = Value.str x t from r); cases e; rfl
 | byt b => obtain ⟨t, e⟩ := (show ∃ t, u = Value.bytes b t from r); cases e; rfl
 | flt b => obtain ⟨t, e⟩ := (show ∃ t, u = Value.float b t from r); cases e; rfl
 | ref a => cases (show u = Value.ref a from r); rfl
 | ty n => cases (show u = Value.type n from r); rfl
section
variable {fs fs' : List (Str × V)}
theorem yo0 (hok : HOk P w H h) (e : H a = some (.ins C dx fs)) : ∃ mA, yx1 h a dx C mA /\ (∀ f, qr3 (fs.lookup f) (mA f)) /\ PySem.Within mA (fs.map (·.1)) /\ fs.length <= 1000 /\ H dx = some (.own a) := by
 obtain ⟨d, z, ne, ob, mA, n, r, q⟩ := (show N1 P w H h a (.ins C dx fs) from hok a _ e)
 exact ⟨mA, ⟨ob, n, ne⟩, r, q, z, d⟩
end
structure Cls (K : Fg) (C : Addr) : Prop where
 pg : PySem.W.plainGet K C Str.empty = true
 hd : PySem.W.hasDictIn K C = true
 po : PySem.W.plainOver K C = true
 sa : PySem.W.findIn K (.ref C) "__setattr__" = some (some (.builtin "object.__setattr__"))
theorem Cls.get (c : Cls K C) (f : Str) : PySem.W.plainGet K C f = true := c.pg
variable {env : Env} {prog : Program}
section
variable {fs : List (Str × V)} {f : Str}
theorem yo1 {f : Str} (hb : attributeBase e f env (eval e env) = eval e env) (h : wpAny (model prog w) A (eval e env) (fun o s₁ => wpAny (model prog w) A (getAttr o f true) Q E s₁) E s) : wpAny (model prog w) A (eval (.Attribute e f pos) env) Q E s :=
 Attribute_any_ h (by rw [arm_eval_Attribute, hb])
end
section
variable {c : Value} {b : Bool}
inductive qt6 (K : Fg) (H : Hp) : V -> Value -> Prop where
 | non : qt6 K H .non (.type "NoneType")
 | bl (x : Bool) : qt6 K H (.bl x) (.type "bool")
 | int (i : Int) : qt6 K H (.int i) (.type "int")
 | str (x : Str) : qt6 K H (.str x) (.type "str")
 | flt (x : UInt64) : qt6 K H (.flt x) (.type "float")
 | lst {a : Addr} {xs : List V} (e : H a = some (.lst xs)) : qt6 K H (.ref a) (.type "list")
 | frz {a : Addr} {o : Obj} {xs : List V} (e : H a = some (.frz o (.lst xs))) : qt6 K H (.ref a) (.type "list")
 | tup {a : Addr} {xs : List V} (e : H a = some (.tup xs)) : qt6 K H (.ref a) (.type "tuple")
 | dK {a : Addr} {kvs : List (Key × V)} (e : H a = some (.dK kvs)) : qt6 K H (.ref a) (.type "dict")
 | dT {a : Addr} {kvs : List (List Key × V)} (e : H a = some (.dT kvs)) : qt6 K H (.ref a) (.type "dict")
 | ins {a C dx : Addr} {fs : List (Str × V)} (e : H a = some (.ins C dx fs)) (cl : Cls K C) (ha : PySem.W.findIn K (.ref C) "__class__" = some (some (.builtin "object.__class__")))
  (hn : PySem.W.specialIn K (.builtin "object.__class__") "__get__" = some (some (.builtin "getset_descriptor.__get__"))) (htk : PySem.W.takesIn K (.builtin "object.__class__") = some true)
  (hm : PySem.W.mroIn K C (.type "object") = some true) : qt6 K H (.ref a) (.ref C)
theorem xx4 {x : V} {t : Value} (I : Inv X pins σ H s) (rx : G2 x u) (ty : qt6 X.K H x t) (e : PySem.W.kitOne X.K t c = some b) (h : ∀ tk, Q (.bool b) { s with toks := tk }) :
 wpAny (model X.prog X.w) A (call (.builtin "isinstance") [u, c]) Q E s := by
 cases ty with
 | non => cases (show u = Value.none from rx); exact PySem.W.kia_one PySem.W.kitx_none I.kIn True.intro e (fun z => nomatch z) h
 | bl y => cases (show u = Value.bool y from rx); exact PySem.W.kia_one PySem.W.kitx_bool I.kIn True.intro e (fun z => nomatch z) h
 | int i => obtain ⟨t, q⟩ := (show ∃ t, u = Value.int i t from rx); cases q; exact PySem.W.kia_one PySem.W.kitx_int I.kIn True.intro e (fun z => nomatch z) h
 | str y => obtain ⟨t, q⟩ := (show ∃ t, u = Value.str y t from rx); cases q; exact PySem.W.kia_one PySem.W.kitx_str I.kIn True.intro e (fun z => nomatch z) h
 | flt y => obtain ⟨t, q⟩ := (show ∃ t, u = Value.float y t from rx); cases q; exact PySem.W.kia_one PySem.W.kitx_float I.kIn True.intro e (fun z => nomatch z) h
 | @lst a xs ea =>
   cases (show u = Value.ref a from rx)
   obtain ⟨_, _, n, _, h1⟩ := (show N1 X.prog X.w H s.heap a (.lst xs) from I.hok a _ ea)
   exact PySem.W.kia_one PySem.W.kitx_list I.kIn ⟨_, h1, rfl⟩ e (fun z => nomatch z) h
 | @frz a ob xs ea =>
   cases (show u = Value.ref a from rx)
   obtain ⟨_, _, _, n, _, h1⟩ := (show N1 X.prog X.w H s.heap a (.frz ob (.lst xs)) from I.hok a _ ea)
   exact PySem.W.kia_one PySem.W.kitx_list I.kIn ⟨_, h1, rfl⟩ e (fun z => nomatch z) h
 | @tup a xs ea =>
   cases (show u = Value.ref a from rx)
   obtain ⟨_, _, _, p⟩ := (show N1 X.prog X.w H s.heap a (.tup xs) from I.hok a _ ea)
   obtain ⟨o, h1, h2, _⟩ := p
   exact PySem.W.kia_one PySem.W.kitx_tuple I.kIn ⟨o, h1, h2⟩ e (fun z => nomatch z) h
 | @dK a kvs ea =>
   cases (show u = Value.ref a from rx)
   obtain ⟨_, _, vs, _, p⟩ := (show N1 X.prog X.w H s.heap a (.dK kvs) from I.hok a _ ea)
   obtain ⟨o, es, ep, h1, h2, _⟩ := p
   exact PySem.W.kia_one PySem.W.kitx_dict I.kIn ⟨o, h1, h2.1⟩ e (fun z => nomatch z) h
 | @dT a kvs ea =>
   cases (show u = Value.ref a from rx)
   obtain ⟨_, _, xs, _, o, es, ep, h1, h2, _⟩ := (show N1 X.prog X.w H s.heap a (.dT kvs) from I.hok a _ ea)
   exact PySem.W.kia_one PySem.W.kitx_dict I.kIn ⟨o, h1, h2.1⟩ e (fun z => nomatch z) h
 | @ins a C dx fs ea cl ha hn htk hm =>
   cases (show u = Value.ref a from rx)
   obtain ⟨mA, O, _⟩ := yo0 I.hok ea
   obtain ⟨od, J, _⟩ := O.look
   exact PySem.W.kia_one (PySem.W.kitx_own (cl.get _) cl.hd ha hn htk hm) I.kIn J e (fun z => nomatch z) h
end
structure qa4 (k : Nat) (A : Around) : Prop where
 hd : A.handled = none
 dp : A.depth + 3 * k + 5 < recursionLimit
 un : A.units + 16 * k + 200 < cLine
theorem qa4.mono {j k : Nat} (r : qa4 k A) (h : j <= k) : qa4 j A := ⟨r.hd, by have := r.dp; omega, by have := r.un; omega⟩
theorem qa4.deeper {k : Nat} (r : qa4 (k + 1) A) (env : Env) : qa4 k (A.deeper env) :=
 ⟨r.hd, by have := r.dp; show A.depth + 1 + 3 * k + 5 < _; omega, by have := r.un; show A.units + 3 + 16 * k + 200 < _; omega⟩
variable {kw : List (Str × Value)}
theorem xm3 : (A.under (.builtin "type.__call__" ⟨.ref C :: us, kw⟩)).depth = A.depth + 1 := by
 first | rfl | simp [Around.under, Code.weight, Code.isCreation, Code.isGuard, Code.isCaller, Code.frames, Code.isFrame, guardIds]
theorem xm4 : (A.under (.builtin "type.__call__" ⟨.ref C :: us, kw⟩)).units = A.units + 1 := by
 first | rfl | simp [Around.under, Code.cUnits, Code.frames, Code.isFrame]
theorem qa4.make {k : Nat} (r : qa4 (k + 1) A) (C : Addr) (us : List Value) (kw : List (Str × Value)) : qa4 k (A.under (.builtin "type.__call__" ⟨.ref C :: us, kw⟩)) :=
 ⟨r.hd, by have := r.dp; rw [xm3]; omega, by have := r.un; rw [xm4]; omega⟩
theorem qa4.depth {k : Nat} (r : qa4 k A) : A.depth < recursionLimit := by have := r.dp; omega
theorem qa4.units {k : Nat} (r : qa4 k A) : A.units + 64 < cLine := by have := r.un; omega
def B7 : TA := fun _ H Q => Q [] H
def A9 (ta : TE) (tr : TA) : TA := fun σ H Q => ta σ H fun x H1 => tr σ H1 fun xs H2 => Q (x :: xs) H2
variable {t : TA}
theorem B0 : PA X [] B7 := fun _ _ _ _ H Q I h => Calls.spliced_nil ⟨[], H, I, .nil, h⟩
theorem A6 (ha : PE X e te) (hr : PA X es t) (hs : autoParam (starEach (e :: es) X.env = (false, eval e X.env) :: starEach es X.env) zAr) : PA X (e :: es) (A9 te t) := by
 intro pos pins s σ H Q I h
 rw [hs]
 show wpAny _ _ (spliced ((false, eval e X.env) :: backTo pos (starEach es X.env))) _ _ s
 refine Calls.spliced_cons (thn (ha pins s σ H _ I h) fun u s1 zq => ?_)
 obtain ⟨x, H1, I1, r1, q1⟩ := zq
 exact thn (hr pos pins s1 σ H1 _ I1 q1) fun us s2 ⟨xs, H2, I2, r2, q2⟩ => ⟨x :: xs, H2, I2, .cons r1 r2, q2⟩
def xm5 (t : TA) : TE := fun σ H Q => t σ H fun xs H1 => xs.length <= sizeLine /\ ∀ p, H1 p = none -> Q (.ref p) (upd H1 p (.tup xs))
def O9 (t : TA) : TE := fun σ H Q => t σ H fun xs H1 => xs.length <= sizeLine /\ ∀ p, H1 p = none -> Q (.ref p) (upd H1 p (.lst xs))
theorem wj4 {x1} (h : PA X es t) : PE X (.Tuple es x1 pos) (xm5 t) := by
 intro pins s σ H Q I hq
 refine wpAny_Tuple_spliced (thn (h pos pins s σ H _ I hq) fun us s1 ⟨xs, H1, I1, r, z, q⟩ => ⟨by rw [<- r.length]; exact z, ?_⟩)
 have hf : H1 s1.heap.objs.size = none := I1.hok.fresh (Nat.le_refl _)
 refine ⟨.ref s1.heap.objs.size, upd H1 s1.heap.objs.size (.tup xs), I1.laid (t' := s1.toks) (fun b u e => Heap.get?_push_of_some _ e) (Nat.le_refl _) ?_, rfl, q _ hf⟩
 exact ⟨z, us, r, ⟨_, Heap.get?_push_size _ rfl, rfl, _, rfl⟩⟩
theorem E9 (h : PA X es t) : PE X (.List es pos) (O9 t) := by
 intro pins s σ H Q I hq
 refine wpAny_List_spliced (thn (h pos pins s σ H _ I hq) fun us s1 ⟨xs, H1, I1, r, z, q⟩ => ⟨by rw [<- r.length]; exact z, ?_⟩)
 have hf : H1 s1.heap.objs.size = none := I1.hok.fresh (Nat.le_refl _)
 refine ⟨.ref s1.heap.objs.size, upd H1 s1.heap.objs.size (.lst xs), I1.laid (t' := s1.toks) (fun b u e => Heap.get?_push_of_some _ e) (Nat.le_refl _) ?_, rfl, q _ hf⟩
 exact ⟨z, us, 0, r, Heap.get?_push_size _ rfl⟩
abbrev Sp := List V -> Hp -> VK -> XK -> Prop
abbrev CXT := List Env -> Hp -> Shared -> XK -> Value -> Shared -> Prop
structure xm6 (P : Program) (w : World) (K : Fg) (mg : Str -> Option Value) (base : Heap) (A : Around) (outer : List Env) (s : Shared) (H : Hp) : Prop where
 frames : A.frames = some outer
 mod : Mod K mg base
 bs : ∀ b o, base.get? b = some o -> s.heap.get? b = some o /\ H b = none
 bsz : base.objs.size <= s.heap.objs.size
 funs : s.heap.FunFrames base outer
 frf : ∀ b ∈ frs outer, H b = none
 hok : HOk P w H s.heap
 bare : AllBare s.gens
 tk : 0 < s.toks
def CE (outer : List Env) (P : Program) (w : World) (H : Hp) (s : Shared) (Q : VK) (u : Value) (s' : Shared) : Prop :=
 ∃ v H', 0 < s'.toks /\ s'.os = s.os /\ AllBare s'.gens /\ Un (frs outer) [] H H' s.heap s'.heap /\ HOk P w H' s'.heap /\ G2 v u /\ Q v H'
def CR (CX : CXT) (outer : List Env) (P : Program) (w : World) (H : Hp) (s : Shared) (Q : VK) (E : XK) (r : Result) (s' : Shared) : Prop :=
 match r with
 | .ok (.ret u) => CE outer P w H s Q u s'
 | .ok _ => False
 | .error e => CX outer H s E e s'
structure N5 (P : Program) (w : World) (K : Fg) (mg : Str -> Option Value) (base : Heap) (CX : CXT) (k : Nat) (f : Addr) (fd : FuncData) (ps : List Str) (sp : Sp) : Prop where
 len : ∀ vs H Q E, sp vs H Q E -> vs.length = ps.length
 run : ∀ (A : Around) (outer : List Env) (s : Shared) (H : Hp) (args : Args) (us : List Value) (vs : List V) (Q : VK) (E : XK), qa4 k A -> xm6 P w K mg base A outer s H -> BindsTo s fd args (ps.zip us) -> G3 vs us -> sp vs H Q E ->
  codeAny (model P w) A (.call (.ref f) args) (CR CX outer P w H s Q E) s
variable {mg : Str -> Option Value} {outer : List Env}
theorem xm6.make {base : Heap} (e : xm6 P w K mg base A outer s H) (C : Addr) (us : List Value) (kw : List (Str × Value)) :
 xm6 P w K mg base (A.under (.builtin "type.__call__" ⟨.ref C :: us, kw⟩)) outer s H := ⟨by first | exact e.frames | (simpa [Around.under, Code.envs, Code.isFrame, pushEnvs] using e.frames), e.mod, e.bs, e.bsz, e.funs, e.frf, e.hok, e.bare, e.tk⟩
theorem Inv.env0 (I : Inv X pins σ H s) : xm6 X.prog X.w X.K X.mg X.base X.A X.stack s H :=
 ⟨I.ok.frames, I.ok.mod, I.bs, Nat.le_trans I.ok.bsz I.sz, I.stack, I.stkFree, I.hok, I.bare, I.tk⟩
theorem Inv.after {Q : VK} (I : Inv X pins σ H s) (h : CE X.stack X.prog X.w H s Q u s') : EP X pins σ Q u s' := by
 obtain ⟨v, H', ht, os, bare, un, hok, r, q⟩ := h
 obtain ⟨hh, g, d, t, os'⟩ := s'
 obtain rfl : os' = s.os := os
 exact ⟨v, H', I.call (h' := hh) (g' := g) (d' := d) (t' := t) (ch := []) un hok bare (fun b z => absurd z (by simp)) ht, r, q⟩
def D9 (sp : Sp) (dvs : List V) (E : XK) (t : TA) : TE := fun σ H Q => t σ H fun vs H1 => sp (vs ++ dvs) H1 Q E
def qq6 (K : Fg) (fd : FuncData) (ps : List Str) (ds : List Value) : Prop :=
 ∀ (s : Shared) (us : List Value), K.In s.heap -> (us ++ ds).length = ps.length -> BindsTo s fd ⟨us, []⟩ (ps.zip (us ++ ds))
variable {fd : FuncData} {ps : List Str}
theorem qq6.all (h : ∀ us : List Value, us.length = ps.length -> bindArgs fd ⟨us, []⟩ = pure (ps.zip us)) : qq6 K fd ps [] := fun s us _ hl => by
 rw [List.append_nil] at hl ⊢
 exact .of_eq (h us hl)
def wx6 (CX : CXT) (X : Cx) (E : XK) : Prop := ∀ (pins : List (Addr × Obj)) (σ : St) (H : Hp) (s : Shared) (e : Value) (s' : Shared), Inv X pins σ H s -> CX X.stack H s E e s' -> X.xe e s'
variable {CX : CXT} {apos : Pos} {dvs : List V} {m : Str} {sp : Sp}
section
variable {k : Nat} {f : Addr} {ds : List Value} {E : XK} {p : Pos} {o : Expr}
theorem yx2 {Q : VK} {vs : List V} (F : N5 X.prog X.w X.K X.mg X.base CX k f fd ps sp) (hr : qa4 k X.A) (hb : qq6 X.K fd ps ds) (hd : G3 dvs ds) (hx : wx6 CX X E) (I : Inv X pins σ H s) (r : G3 vs us) (h : sp (vs ++ dvs) H Q E) : wpAny (model X.prog X.w) X.A (call (.ref f) us) (EP X pins σ Q) X.xe s := by
 have r2 : G3 (vs ++ dvs) (us ++ ds) := r.append hd
 have hl : (us ++ ds).length = ps.length := by rw [<- r2.length]; exact F.len _ _ _ _ h
 refine wpAny_call (codeAny_mono (F.run X.A X.stack s H ⟨us, []⟩ (us ++ ds) (vs ++ dvs) Q E hr I.env0 (hb s us I.kIn hl) r2 h) fun r s' hq => ?_)
 cases r with
 | error e => exact hx pins σ H s e s' I hq
 | ok fl =>
   cases fl with
   | ret u => exact I.after hq
   | next => exact False.elim hq
   | brk => exact False.elim hq
   | cont => exact False.elim hq
theorem C1 (F : N5 X.prog X.w X.K X.mg X.base CX k f fd ps sp) (hr : qa4 k X.A) (hg : Gl X x) (hm : X.mg x = some (.ref f)) (hk : PySem.W.keepIn X.K (.ref f) = true) (hb : qq6 X.K fd ps ds) (hd : G3 dvs ds) (hx : wx6 CX X E) (ha : PA X (e :: es) t) (hdb : autoParam ((x == ("__debug__" : Str)) = false) zAd) (he : autoParam (starEach (e :: es) X.env = (false, eval e X.env) :: starEach es X.env) zAr) (hpl : autoParam ((backTo pos (starEach es X.env)).any (·.1) = false) zAr) :
 PE X (.Call (.Name x p) (e :: es) [] pos) (D9 sp dvs E t) := by
 intro pins s σ H Q I h
 refine wpAny_Call_Name_kw (qo6 I hg hm ?_ hdb)
 refine PySem.W.callWith_K (h₀ := X.base) I.ok.mod.kin hk (thn (ha pos pins s σ H _ I h) fun us s1 ⟨vs, H1, I1, r, q⟩ => ⟨I1.kIn, ?_⟩) he hpl
 exact yx2 F hr hb hd hx I1 r q
end
section
variable {k : Nat} {f : Addr} {ks : List Str} {E : XK} {p kpos : Pos} {o : Expr} {kws : List Keyword} {tk : TA} {nm : Option Str}
variable {g : List Value -> List Value -> List Value} {gV : List V -> List V -> List V}
end
structure E4 (N P : List Str) (sc : Scope) : Prop where
 kind : sc.kind = .function
 co : sc.isCoroutine = false
 gen : sc.isGenerator = false
 nd : N.Nodup
 pre : N.take P.length = P
 par : ∀ x ∈ P, sc.names.lookup x = some .local \/ sc.names.lookup x = some .cell
 nofree : ∀ y ∈ sc.names, y.2 ≠ .free
theorem wu9 {kindOf : Str -> Option NameKind} {x : Str} : ∀ {binds : List (Str × Value)} {m : Str -> Option Value}, (∀ v, (x, v) ∉ binds) -> bindL kindOf binds m x = m x
 | [], _, _ => rfl
 | (n, v) :: r, m, h => by
   unfold bindL
   rw [wu9 fun w hw => h w (List.mem_cons_of_mem _ hw)]
   split
   ·have : x ≠ n := by rintro rfl; exact h v List.mem_cons_self
    simp [this]
   ·rfl
theorem wv0 {kindOf : Str -> Option NameKind} {x : Str} : ∀ {binds : List (Str × Value)} {m : Str -> Option Value}, (∀ v, (x, v) ∉ binds) -> bindC kindOf binds m x = m x
 | [], _, _ => rfl
 | (n, v) :: r, m, h => by
   unfold bindC
   rw [wv0 fun w hw => h w (List.mem_cons_of_mem _ hw)]
   split
   ·rfl
   ·have : x ≠ n := by rintro rfl; exact h v List.mem_cons_self
    simp [this]
theorem wv1 {kindOf : Str -> Option NameKind} {x : Str} {v : Value} : ∀ {P : List Str} {vs : List Value} {i : Nat} {m : Str -> Option Value}, P.Nodup -> P[i]? = some x -> vs[i]? = some v -> kindOf x = some .local ->
 bindL kindOf (P.zip vs) m x = some v
 | [], _, _, _, _, h, _, _ => by simp at h
 | _ :: _, [], _, _, _, _, h, _ => by simp at h
 | p :: P, w :: vs, 0, m, nd, h1, h2, hk => by
   simp at h1 h2; subst h1; subst h2
   show bindL kindOf ((p, w) :: P.zip vs) m p = _
   unfold bindL
   rw [wu9 fun v hv => (List.nodup_cons.mp nd).1 (List.of_mem_zip hv).1, if_pos hk]
   simp
 | p :: P, w :: vs, i + 1, m, nd, h1, h2, hk => by
   show bindL kindOf ((p, w) :: P.zip vs) m x = _
   unfold bindL
   exact wv1 (i := i) (List.nodup_cons.mp nd).2 (by simpa using h1) (by simpa using h2) hk
theorem wv2 {kindOf : Str -> Option NameKind} {x : Str} {v : Value} : ∀ {P : List Str} {vs : List Value} {i : Nat} {m : Str -> Option Value}, P.Nodup -> P[i]? = some x -> vs[i]? = some v -> kindOf x ≠ some .local ->
 bindC kindOf (P.zip vs) m x = some v
 | [], _, _, _, _, h, _, _ => by simp at h
 | _ :: _, [], _, _, _, _, h, _ => by simp at h
 | p :: P, w :: vs, 0, m, nd, h1, h2, hk => by
   simp at h1 h2; subst h1; subst h2
   show bindC kindOf ((p, w) :: P.zip vs) m p = _
   unfold bindC
   rw [wv0 fun v hv => (List.nodup_cons.mp nd).1 (List.of_mem_zip hv).1, if_neg hk]
   simp
 | p :: P, w :: vs, i + 1, m, nd, h1, h2, hk => by
   show bindC kindOf ((p, w) :: P.zip vs) m x = _
   unfold bindC
   exact wv2 (i := i) (List.nodup_cons.mp nd).2 (by simpa using h1) (by simpa using h2) hk
def I9 (N : List Str) (vs : List V) : St := vs.map some ++ List.replicate (N.length - vs.length) none
def qt7 (CX : CXT) (P : Program) (w : World) (K : Fg) (mg : Str -> Option Value) (base : Heap) (N : List Str) (qual : Str) (scope : Scope) (f : Addr) (cd : Value) (A : Around) (outer : List Env) (s : Shared) (H : Hp) (E : XK) : Cx where
 prog := P
 w := w
 K := K
 mg := mg
 base := base
 A := A.deeper (envOfC qual scope s.heap.objs.size f cd)
 N := N
 s₀ := s
 H₀ := H
 env := envOfC qual scope s.heap.objs.size f cd
 outer := outer
 stack := envOfC qual scope s.heap.objs.size f cd :: outer
 ex := []
 calm := true
 fn := fun _ => true
 pn := []
 xe := fun e s' => wpAny (model P w) (A.deeper (envOfC qual scope s.heap.objs.size f cd)) (leaving (envOfC qual scope s.heap.objs.size f cd) e) (fun _ s'' => CX outer H s E e s'') (fun e' s'' => CX outer H s E e' s'') s'
theorem xf1 {sc : Scope} (h : sc.names.lookup x = some .cell) : ∃ c, (cellsFrom n sc.names []).lookup x = some c := by
 have q := PySem.W.cellsFrom_some sc.names n [] (.inl h)
 exact Option.isSome_iff_exists.mp q
variable {cd : Value} {qual : Str} {scope : Scope}
theorem xx5 {base : Heap} {f : Addr} {s1 : Shared} {E : XK} {vs : List V} (S : E4 N ps scope) (hd : A.handled = none) (e0 : xm6 P w K mg base A outer s H) (hl : vs.length = ps.length) (r : G3 vs us) (x : InCallC s s.heap.objs.size (bindL (envOfC qual scope s.heap.objs.size f cd).kindOf (ps.zip us) fun _ => none) (cellsFrom (s.heap.objs.size + 1) scope.names []) (bindC (envOfC qual scope s.heap.objs.size f cd).kindOf (ps.zip us) fun _ => none) s1) (ht : 0 < s1.toks) :
 Inv (qt7 CX P w K mg base N qual scope f cd A outer s H E) [] (I9 N vs) H s1 := by
 have hpl : ps.length <= N.length := by have := congrArg List.length S.pre; rw [List.length_take] at this; omega
 obtain ⟨h1, tk, rfl, hk⟩ := x.done
 have noA : ∀ b : Addr, b ∉ (qt7 CX P w K mg base N qual scope f cd A outer s H E).ex := fun b z => absurd (show b ∈ ([] : List Addr) from z) (by simp)
 refine ⟨⟨e0.mod, S.kind, rfl, rfl, Nat.le_refl _, fun y z c h1 h2 => ?_, fun y hy => ?_, fun y c _ h => ?_, fun _ => hd, Around.frames_deeper e0.frames, .inr ⟨rfl, rfl⟩, fun b z => absurd z (noA b), e0.bs, e0.bsz, fun b _ _ => noA b, fun b z => absurd z (noA b), e0.funs, e0.frf⟩,
  rfl, e0.bare, Un.kept hk, ⟨_, x.toInCall.ns, fun i y v h1 h2 h3 => ?_⟩, fun y c h => ⟨_, x.cell y c h⟩, e0.hok.fresh (Nat.le_refl _), fun y c h => ?_, fun p hp => absurd (show p ∈ ([] : List (Addr × Obj)) from hp) (by simp), e0.hok.kept hk, ?_, ht⟩
 ·exact name_of_addr x.apart (PySem.mem_of_lookup h1) (PySem.mem_of_lookup h2)
 ·have hy : scope.names.lookup y = some .cell \/ scope.names.lookup y = some .free := hy
  rcases hy with hy | hy
  ·exact xf1 hy
  ·exact absurd rfl (S.nofree _ (PySem.mem_of_lookup hy))
 ·exact Nat.le_of_lt (x.above y c (PySem.mem_of_lookup h))
 ·have hi : i < vs.length := by
   unfold I9 at h2
   by_cases hi : i < vs.length
   ·exact hi
   ·rw [List.getElem?_append_right (by simpa using hi)] at h2
    rw [List.getElem?_replicate] at h2
    split at h2 <;> cases h2
  have ha : vs[i]? = some v := by
   unfold I9 at h2
   rw [List.getElem?_append_left (by simpa using hi), List.getElem?_map] at h2
   cases e : vs[i]? with
   | none => rw [e] at h2; cases h2
   | some a => rw [e] at h2; cases h2; rfl
  obtain ⟨u, hu, rv⟩ := r.get ha
  have hp : ps[i]? = some y := by
   rw [<- S.pre, List.getElem?_take_of_lt (by omega)]; exact h1
  have ndP : ps.Nodup := by rw [<- S.pre]; exact S.nd.sublist (List.take_sublist _ _)
  refine ⟨u, rv, ?_⟩
  rcases S.par y (List.mem_of_getElem? hp) with k | k
  ·exact .inl ⟨k, wv1 ndP hp hu k⟩
  ·obtain ⟨c, e⟩ := xf1 (n := s.heap.objs.size + 1) k
   refine .inr ⟨.inl k, c, e, ?_⟩
   have q := x.cell y c e
   rw [wv2 ndP hp hu (by show scope.names.lookup y ≠ _; rw [k]; decide)] at q
   exact q
 ·exact e0.hok.fresh (Nat.le_of_lt (x.above y c (PySem.mem_of_lookup h)))
 ·unfold I9
  show _ = N.length
  rw [List.length_append, List.length_map, List.length_replicate]
  omega
variable {an od : Option Addr} {cdv ct doc oc pm : Value} {name : Str} {osl : Array (Option Value)}
theorem yu3 {base : Heap} {k : Nat} {f : Addr} {params : Arguments} {dV kV : Value} (lk : K.lookup f = some ⟨oc, od, .func (PySem.W.fnOf name qual params body scope dV kV doc pm an cdv ct), osl⟩) (hcd : PySem.W.codeIn K cdv qual = true) (S : E4 N ps scope) (len : ∀ vs H Q E, sp vs H Q E -> vs.length = ps.length) (hbody : ∀ (A : Around) (outer : List Env) (s : Shared) (H : Hp) (vs : List V) (Q : VK) (E : XK), qa4 k (A.deeper (envOfC qual scope s.heap.objs.size f cdv)) -> sp vs H Q E ->
  ∃ t, PSs (qt7 CX P w K mg base N qual scope f cdv A outer s H E) body t /\ t { nx := fun _ H' => Q .non H', rt := Q } (I9 N vs) H) :
 N5 P w K mg base CX (k + 1) f (PySem.W.fnOf name qual params body scope dV kV doc pm an cdv ct) ps sp := by
 refine ⟨len, fun A outer s H args us vs Q E hr e0 hb r hsp => ?_⟩
 have hl := len _ _ _ _ hsp
 have KX : K.In s.heap := e0.mod.kin.keeps fun b o e => (e0.bs b o e).1
 have lim : s.heap.NoLimit := e0.mod.nolimit.keeps fun b o e => (e0.bs b o e).1
 have hkind : ∀ y ∈ ps.zip us, scope.names.lookup y.1 = some .local \/ (scope.names.lookup y.1 = some .cell /\ ((cellsFrom (s.heap.objs.size + 1) scope.names []).lookup y.1).isSome = true) := fun ⟨n, v⟩ hy => by
  rcases S.par n (List.of_mem_zip hy).1 with q | q
  ·exact .inl q
  ·exact .inr ⟨q, PySem.W.cellsFrom_some _ _ _ (.inl q)⟩
 refine codeAny_call_function hr.depth (KX _ _ lk) rfl S.co S.gen rfl (PySem.W.codeRec_of KX hcd) (hb _ _ _ _ ?_)
 refine wpAny_with_toks (n := 1) e0.tk (wpAny_newFunctionEnv_cells S.kind hkind fun env he s1 x htk => ?_)
 subst he
 refine ⟨lim.keeps x.toInCall.keep, codeAny_func ?_⟩
 obtain ⟨t, ht, hq⟩ := hbody A outer s H vs Q E (hr.deeper _) hsp
 have I : Inv (qt7 CX P w K mg base N qual scope f cdv A outer s H E) [] (I9 N vs) H s1 := xx5 S hr.hd e0 hl r x htk
 refine wpAny_mono (ht [] s1 (I9 N vs) H _ I hq) (fun fl s' hs => ?_) fun e s' hs => hs
 have fin : ∀ {σ' : St} {H' : Hp} {v : V} {u : Value}, Inv (qt7 CX P w K mg base N qual scope f cdv A outer s H E) [] σ' H' s' -> G2 v u -> Q v H' -> CE outer P w H s Q u s' :=
  fun {σ' H' v u} J rv q => ⟨v, H', J.tk, J.os, J.bare, J.base, J.hok, rv, q⟩
 cases fl with
 | ret u =>
   obtain ⟨v, σ', H', J, rv, q⟩ := hs
   exact fin J rv q
 | next =>
   obtain ⟨σ', H', J, q⟩ := hs
   exact fin (v := V.non) (u := Value.none) J rfl q
 | brk =>
   obtain ⟨_, _, _, q⟩ := hs
   exact False.elim q
 | cont =>
   obtain ⟨_, _, _, q⟩ := hs
   exact False.elim q
variable {T : String}
section
variable {p : Pos} {id : String} {r : List V -> Hp -> VK -> Prop}
def tCB (r : List V -> Hp -> VK -> Prop) (t : TA) : TE := fun σ H Q => t σ H fun vs H1 => r vs H1 Q
theorem D6 (hc : Q7 X (.builtin id) r) (hg : Gl X x) (hm : X.mg x = none) (hv : bootBuiltins x = some (.builtin id)) (ha : PA X (e :: es) t) (hn : autoParam (x ≠ "__name__") zAd) (hdb : autoParam ((x == ("__debug__" : Str)) = false) zAd) (he : autoParam (starEach (e :: es) X.env = (false, eval e X.env) :: starEach es X.env) zAr) (hpl : autoParam ((backTo pos (starEach es X.env)).any (·.1) = false) zAr) : PE X (.Call (.Name x p) (e :: es) [] pos) (tCB r t) := by
 intro pins s σ H Q I h
 refine wpAny_Call_Name_kw (ql7 I hg hm hv ?_ hn hdb)
 exact PyProof.Rows.callWith_builtin1 (thn (ha pos pins s σ H _ I h) fun us s1 ⟨vs, H1, I1, r1, q1⟩ => hc pins s1 σ H1 vs us Q I1 r1 q1) he hpl
theorem N0 (hc : Q7 X (.type T) r) (hg : Gl X x) (hm : X.mg x = none) (hv : bootBuiltins x = some (.type T)) (ha : PA X (e :: es) t) (hn : autoParam (x ≠ "__name__") zAd) (hdb : autoParam ((x == ("__debug__" : Str)) = false) zAd) (he : autoParam (starEach (e :: es) X.env = (false, eval e X.env) :: starEach es X.env) zAr) (hpl : autoParam ((backTo pos (starEach es X.env)).any (·.1) = false) zAr) : PE X (.Call (.Name x p) (e :: es) [] pos) (tCB r t) := by
 intro pins s σ H Q I h
 refine wpAny_Call_Name_kw (ql7 I hg hm hv ?_ hn hdb)
 exact PyProof.Rows.callWith_type1 (thn (ha pos pins s σ H _ I h) fun us s1 ⟨vs, H1, I1, r1, q1⟩ => hc pins s1 σ H1 vs us Q I1 r1 q1) he hpl
end
namespace HT
open PySem PyProof.Rows
section
open PySem.SeqAt
open PySem.AutoSeq1 (wpAny_loadPart')
open PySem.MeetsSeq PySem.MeetsSeq2 PySem.MeetsSeq3
end
section
variable {prog : Program} {w : World} {A : Around} {E : Value -> Shared -> Prop} {s : Shared}
theorem yo2 {t b : Addr} {vs ws : List Value} {Q : Value -> Shared -> Prop} (ht : IsTup s.heap t vs.toArray) (hb : IsTup s.heap b ws.toArray) (hv : vs ≠ [])
 (h1 : ws = [] -> Q (.ref t) s) (h2 : ws ≠ [] -> Q (.ref s.heap.objs.size) { s with heap := s.heap.push { cls := .type "tuple", data := .seq (vs ++ ws).toArray } })
 (hsz : vs.length + ws.length <= sizeLine) : wpAny (model prog w) A (binaryOp .Add (.ref t) (.ref b)) Q E s := by
 obtain ⟨⟨cls, dd, data, sl⟩, ho, hc, n, hd⟩ := id ht
 obtain ⟨⟨cls2, dd2, data2, sl2⟩, ho2, hc2, n2, hd2⟩ := id hb
 simp only at hc hd hc2 hd2
 subst hc hd hc2 hd2
 have e : vs.toArray ++ ws.toArray = (vs ++ ws).toArray := by simp
 by_cases hw : ws = []
 ·exact concat_meets ⟨_, ho, rfl⟩ ⟨_, ho2, rfl⟩ noFill_tuple_add seq_tuple_add PySem.F.slot_tuple_add PySem.F.entry_tuple_add (PySem.F.args_tuple_add_2 _ _)
   (tuple_addW1 t b vs.toArray ws.toArray n n2 dd dd2 sl sl2 (by simpa using hv) (by simp [hw])) ⟨ho, ho2, h1 hw⟩
 ·refine concat_meets ⟨_, ho, rfl⟩ ⟨_, ho2, rfl⟩ noFill_tuple_add seq_tuple_add PySem.F.slot_tuple_add PySem.F.entry_tuple_add (PySem.F.args_tuple_add_2 _ _)
   (tuple_addW2 t b vs.toArray ws.toArray n n2 dd dd2 sl sl2 (by simpa using hv) (by simpa using hw) (by rw [List.size_toArray, List.size_toArray]; exact hsz)) ⟨ho, ho2, ?_⟩
  rw [e]
  exact h2 hw
def sIx (n d : Nat) : Option Int -> Nat
 | none => d
 | some v => if v < 0 then (v + (n : Int)).toNat else min v.toNat n
theorem xm7 (n d : Nat) (hd : d <= n) (o : Option Int) : sIx n d o <= n := by
 cases o with
 | none => exact hd
 | some v =>
   show (if v < 0 then (v + (n : Int)).toNat else min v.toNat n) <= n
   by_cases hv : v < 0
   ·rw [if_pos hv]; omega
   ·rw [if_neg hv]; exact Nat.min_le_right _ _
theorem xr4 (v : Int) (n d : Nat) : (if v < 0 then max (v + (n : Int)) 0 else min v (n : Int)) = ((sIx n d (some v) : Nat) : Int) := by
 show (if v < 0 then max (v + (n : Int)) 0 else min v (n : Int)) = (((if v < 0 then (v + (n : Int)).toNat else min v.toNat n) : Nat) : Int)
 by_cases hv : v < 0
 ·simp only [if_pos hv]; omega
 ·simp only [if_neg hv]; omega
theorem xm8 (lo hi : Option Int) (n : Nat) : Builtin.Slice.sliceAdjust lo hi 1 (n : Int) = (((sIx n 0 lo : Nat) : Int), ((sIx n n hi : Nat) : Int)) := by
 have h1 : ¬ ((1 : Int) < 0) := by omega
 unfold Builtin.Slice.sliceAdjust
 simp only [h1, if_false]
 refine Prod.ext ?_ ?_
 ·cases lo with
  | none => rfl
  | some v => exact xr4 v n 0
 ·cases hi with
  | none => rfl
  | some v => exact xr4 v n n
theorem xm9 (i j : Nat) : Builtin.Slice.slicePlaces (i : Int) (j : Int) 1 = j - i := by
 unfold Builtin.Slice.slicePlaces
 have h1 : (1 : Int) > 0 := by omega
 simp only [h1, if_true, Int.ediv_one]
 split <;> omega
theorem wj5 {v : Value} {o : Option Int} {Q : Option Int -> Shared -> Prop} (p : IsPart v o) (h : Q o s) : wpAny (model prog w) A (Builtin.Slice.slicePartIndex v) Q E s := by
 cases p with
 | none => exact slicePart_none h
 | int i t => exact slicePart_int h
theorem qh2 {sl : Addr} {vl vu : Value} {lo hi : Option Int} {n : Nat} {Q : Int × Int × Nat -> Shared -> Prop} (hs : s.heap.IsSliceOf sl vl vu .none) (pl : IsPart vl lo) (pu : IsPart vu hi)
 (h : Q (((sIx n 0 lo : Nat) : Int), 1, sIx n n hi - sIx n 0 lo) s) : wpAny (model prog w) A (Builtin.Slice.sliceApplied (.ref sl) (pure (n : Int))) Q E s := by
 obtain ⟨os, hos, hcs, hds⟩ := id hs
 unfold Builtin.Slice.sliceApplied Builtin.Slice.sliceFields
 refine wpAny_bind (wpAny_bind (wpAny_field hos hds (x := vl) rfl (wpAny_bind (wpAny_field hos hds (x := vu) rfl (wpAny_bind (wpAny_field hos hds (x := .none) rfl (wpAny_pure ?_)))))))
 refine wpAny_bind (slicePart_none ?_)
 show wpAny _ _ (if ((1 : Int) == 0) = true then _ else _) _ _ s
 rw [if_neg (by decide)]
 refine wpAny_bind (wj5 pl (wpAny_bind (wj5 pu (wpAny_bind (wpAny_pure ?_)))))
 show wpAny _ _ (match Builtin.Slice.sliceAdjust lo hi 1 (n : Int) with | (lo, hi) => pure (lo, (1 : Int), Builtin.Slice.slicePlaces lo hi 1)) _ _ s
 rw [xm8 lo hi n]
 show wpAny _ _ (pure (((sIx n 0 lo : Nat) : Int), (1 : Int), Builtin.Slice.slicePlaces ((sIx n 0 lo : Nat) : Int) ((sIx n n hi : Nat) : Int) 1)) _ _ s
 rw [xm9]
 exact wpAny_pure h
theorem yd1 (xs : Array Value) (i k : Nat) : ((List.range k).filterMap fun (m : Nat) => xs[((i : Int) + (m : Int) * 1).toNat]?).toArray = ((xs.toList.drop i).take k).toArray := by
 have e : (fun (m : Nat) => xs[((i : Int) + (m : Int) * 1).toNat]?) = fun m => xs[i + m]? := by
  funext m
  have : ((i : Int) + (m : Int) * 1).toNat = i + m := by omega
  rw [this]
 rw [e]
 have := pick_run xs i k
 rw [List.filterMap_map] at this
 have e2 : ((fun x => xs[x]?) ∘ fun x => i + x) = fun m => xs[i + m]? := rfl
 rw [e2] at this
 rw [this]
theorem qt8 {t sl : Addr} {items : Array Value} {vl vu : Value} {lo hi : Option Int} {Q : Value -> Shared -> Prop} (ht : IsTup s.heap t items) (hs : s.heap.IsSliceOf sl vl vu .none) (pl : IsPart vl lo) (pu : IsPart vu hi)
 (hw : ¬ (sIx items.size 0 lo = 0 /\ sIx items.size items.size hi = items.size))
 (h : Q (.ref s.heap.objs.size) { s with heap := s.heap.push { cls := .type "tuple", data := .seq ((items.toList.drop (sIx items.size 0 lo)).take (sIx items.size items.size hi - sIx items.size 0 lo)).toArray } })
 (hsz : items.size <= sizeLine) : wpAny (model prog w) A (getItem (.ref t) (.ref sl)) Q E s := by
 have htake : sizeOk (.seq ((items.toList.drop (sIx items.size 0 lo)).take (sIx items.size items.size hi - sIx items.size 0 lo)).toArray) := by
  show ((items.toList.drop (sIx items.size 0 lo)).take (sIx items.size items.size hi - sIx items.size 0 lo)).toArray.size <= sizeLine
  rw [List.size_toArray, List.length_take, List.length_drop, Array.length_toList]
  omega
 have hj : sIx items.size items.size hi <= items.size := xm7 _ _ (Nat.le_refl _) hi
 obtain ⟨os, hos, hcs, hds⟩ := id hs
 have hTs : s.TypeIs (.ref sl) "slice" := ⟨os, hos, hcs⟩
 unfold getItem
 try with_reducible refine wpAny_holding ?_
 first | refine wpAny_bind (wpAny_pure ?_) | skip
 refine wpAny_bind (wpAny_sequenceKey ht.typeIs (by decide) ?_)
 refine wpAny_bind (wpAny_callSpecial?_slot (name := Str.ofString "__getitem__") ht.typeIs PyProof.Rows.slot_tuple_getitem
  (wpAny_call_entry PyProof.Rows.slot_tuple_getitem ht.typeIs entry_tuple_getitem ?_ (args_tuple_getitem _ _)))
 show wpAny _ _ (Builtin.Tuple.tupleItemsOf (.ref t) >>= _) _ _ s
 refine wpAny_bind (tupleItemsOf_ ht ?_)
 refine wpAny_bind (wpAny_typeOf hTs ?_)
 rw [if_pos (by decide)]
 refine wpAny_bind (qh2 hs pl pu ?_)
 have hno : ¬ ((((sIx items.size 0 lo : Nat) : Int) == 0 && (1 : Int) == 1 && (sIx items.size items.size hi - sIx items.size 0 lo) == items.size) = true) := by
  intro q
  rw [Bool.and_eq_true, Bool.and_eq_true] at q
  have q1 : ((sIx items.size 0 lo : Nat) : Int) = 0 := eq_of_beq q.1.1
  have q2 : sIx items.size items.size hi - sIx items.size 0 lo = items.size := eq_of_beq q.2
  exact hw ⟨by omega, by omega⟩
 show wpAny _ _ (if (((sIx items.size 0 lo : Nat) : Int) == 0 && (1 : Int) == 1 && (sIx items.size items.size hi - sIx items.size 0 lo) == items.size) = true then _ else _) _ _ s
 rw [if_neg hno, yd1]
 first
  | exact wpAny_bind (m := Builtin.Tuple.tupleExact _) (wpAny_newObj_type (wpAny_pure ⟨_, rfl, wpAny_pure h⟩) htake)
  | exact wpAny_bind (m := Builtin.Tuple.tupleExact _) (wpAny_newObj_type (wpAny_bind (wpAny_pure (wpAny_pure ⟨_, rfl, wpAny_pure h⟩))) htake)
  | exact wpAny_bind (wpAny_bind (m := Builtin.Tuple.tupleExact _) (wpAny_newObj_type (wpAny_pure (wpAny_pure ⟨_, rfl, wpAny_pure h⟩)) htake))
  | exact wpAny_bind (wpAny_bind (m := Builtin.Tuple.tupleExact _) (wpAny_newObj_type (wpAny_pure ⟨_, rfl, wpAny_pure h⟩) htake))
end
end HT
abbrev TO := St -> Hp -> (Option Int -> Hp -> Prop) -> Prop
def PO (X : Cx) (e : Option Expr) (t : TO) : Prop :=
 ∀ (pins : List (Addr × Obj)) (s : Shared) (σ : St) (H : Hp) (Q : Option Int -> Hp -> Prop), Inv X pins σ H s -> t σ H Q ->
  wpAny (model X.prog X.w) X.A (evalPart e X.env) (fun u s' => ∃ o H', Inv X pins σ H' s' /\ IsPart u o /\ Q o H') X.xe s
def P8 : TO := fun _ H Q => Q none H
def qa6 (t : TE) : TO := fun σ H Q => t σ H fun x H1 => ∃ i, x = .int i /\ Q (some i) H1
variable {p2 : Pos} {r : V -> Option Int -> Option Int -> Hp -> VK -> Prop}
section
variable {lo hi : Option Expr} {tl th : TO}
theorem S5 : PO X none P8 := by
 intro pins s σ H Q I h
 rw [evalPart_none]
 exact wpAny_pure ⟨none, H, I, .none, h⟩
theorem S6 (h : PE X e te) : PO X (some e) (qa6 te) := by
 intro pins s σ H Q I hw
 rw [evalPart_some]
 refine thn (h pins s σ H _ I hw) fun u s1 zq => ?_
 obtain ⟨x, H1, I1, r1, q1⟩ := zq
 obtain ⟨i, rfl, q⟩ := q1
 obtain ⟨t, rfl⟩ := r1
 exact ⟨some i, H1, I1, .int i t, q⟩
def SlR (X : Cx) (r : V -> Option Int -> Option Int -> Hp -> VK -> Prop) : Prop :=
 ∀ (pins : List (Addr × Obj)) (s : Shared) (σ : St) (H : Hp) (x : V) (v vl vu : Value) (lo hi : Option Int) (sl : Addr) (Q : VK), Inv X pins σ H s -> G2 x v -> s.heap.IsSliceOf sl vl vu .none -> IsPart vl lo -> IsPart vu hi -> r x lo hi H Q ->
  ∃ T id, typeLookup (.type T) "__getitem__" = pure (some (.builtin id)) /\ s.TypeIs v T /\ wpAny (model X.prog X.w) X.A (getItem v (.ref sl)) (EP X pins σ Q) X.xe s
theorem SlR.or {r' : V -> Option Int -> Option Int -> Hp -> VK -> Prop} (h : SlR X r) (h' : SlR X r') : SlR X (fun x lo hi H Q => r x lo hi H Q \/ r' x lo hi H Q) := by
 intro pins s σ H x v vl vu lo hi sl Q I rx hs pl pu q
 rcases q with q | q
 ·exact h pins s σ H x v vl vu lo hi sl Q I rx hs pl pu q
 ·exact h' pins s σ H x v vl vu lo hi sl Q I rx hs pl pu q
def tSl (r : V -> Option Int -> Option Int -> Hp -> VK -> Prop) (te : TE) (tl th : TO) : TE := fun σ H Q => te σ H fun x H1 => tl σ H1 fun l H2 => th σ H2 fun u H3 => r x l u H3 Q
theorem Q1 (hr : SlR X r) (he : PE X e te) (hl : PO X lo tl) (hu : PO X hi th) : PE X (.Subscript e (.Slice lo hi none p2) pos) (tSl r te tl th) := by
 intro pins s σ H Q I h
 refine Subscript_ (thn (he pins s σ H _ I h) fun v s1 zq => ?_)
 obtain ⟨x, H1, I1, r1, q1⟩ := zq
 refine wpAny_Slice (thn (hl pins s1 σ H1 _ I1 q1) fun vl s2 ⟨l, H2, I2, pl, q2⟩ => thn (hu pins s2 σ H2 _ I2 q2) fun vu s3 zq => ?_)
 obtain ⟨u, H3, I3, pu, q3⟩ := zq
 rw [evalPart_none]
 refine wpAny_pure ?_
 have I4 : Inv X pins σ H3 { s3 with heap := s3.heap.push { cls := .type "slice", data := .fields #[vl, vu, .none] } } := I3.kept (t' := s3.toks) fun b ob q => Heap.get?_push_of_some _ q
 obtain ⟨T, id, hT, ht, hg⟩ := hr pins { s3 with heap := s3.heap.push { cls := .type "slice", data := .fields #[vl, vu, .none] } } σ H3 x v vl vu l u s3.heap.objs.size Q I4 r1 (Heap.IsSliceOf.new ..) pl pu q3
 show wpAny (model X.prog X.w) X.A (subscriptTail e (.Slice lo hi none p2) v (.ref s3.heap.objs.size)) (EP X pins σ Q) X.xe { s3 with heap := s3.heap.push { cls := .type "slice", data := .fields #[vl, vu, .none] } }
 exact tail_any (ops := [.ref s3.heap.objs.size, v]) ht hT hg (by with_unfolding_all rfl)
def ql6 (xs : List V) (lo hi : Option Int) : List V := (xs.drop (HT.sIx xs.length 0 lo)).take (HT.sIx xs.length xs.length hi - HT.sIx xs.length 0 lo)
theorem wd3 (xs : List V) (lo hi : Option Int) : (ql6 xs lo hi).length <= xs.length := by
 unfold ql6
 rw [List.length_take, List.length_drop]
 omega
def ze2 (K : Fg) : V -> Option Int -> Option Int -> Hp -> VK -> Prop := fun x lo hi H Q => ∃ a xs, x = .ref a /\ SqT K H a xs /\
 ¬ (HT.sIx xs.length 0 lo = 0 /\ HT.sIx xs.length xs.length hi = xs.length) /\ ∀ p, H p = none -> Q (.ref p) (upd H p (.tup (ql6 xs lo hi)))
theorem yx3 : SlR X (ze2 X.K) := by
 intro pins s σ H x v vl vu lo hi sl Q I rx hs pl pu h
 obtain ⟨a, xs, rfl, hx, hw, q⟩ := h
 cases rx
 obtain ⟨its, r, ht, hz⟩ := I.tuple hx
 have hlen : its.toArray.size = xs.length := by rw [List.size_toArray]; exact r.length.symm
 refine ⟨"tuple", _, PyProof.Rows.slot_tuple_getitem.lookup, ht.typeIs, ?_⟩
 refine HT.qt8 ht hs pl pu (by rw [hlen]; exact hw) ?_ (by rw [hlen]; exact hz)
 rw [hlen]
 refine ⟨.ref s.heap.objs.size, _, I.laid (t' := s.toks) (o := .tup (ql6 xs lo hi)) (fun b ob q => Heap.get?_push_of_some _ q) (Nat.le_refl _) ?_, rfl, q _ (I.hok.fresh (Nat.le_refl _))⟩
 exact ⟨Nat.le_trans (wd3 xs lo hi) hz, _, (r.drop (HT.sIx xs.length 0 lo)).take (HT.sIx xs.length xs.length hi - HT.sIx xs.length 0 lo), IsTup.new _ _⟩
def yu4 (K : Fg) : R2 := fun x y H Q => ∃ a b xs ys, x = .ref a /\ y = .ref b /\ SqT K H a xs /\ SqT K H b ys /\ xs ≠ [] /\ xs.length + ys.length <= sizeLine /\
 (ys = [] -> Q (.ref a) H) /\ (ys ≠ [] -> ∀ p, H p = none -> Q (.ref p) (upd H p (.tup (xs ++ ys))))
theorem G3.nil_iff (r : G3 xs us) : us = [] ↔ xs = [] := by
 cases r with
 | nil => simp
 | cons _ _ => simp
theorem yo3 : OpR X (binaryOp .Add) (yu4 X.K) := by
 intro pins s σ H x y v u Q I rx ry h
 obtain ⟨a, b, xs, ys, rfl, rfl, ha, hb, hx, hz, q1, q2⟩ := h
 cases rx
 cases ry
 obtain ⟨its, r1, p1, _⟩ := I.tuple ha
 obtain ⟨its2, r2, p2, _⟩ := I.tuple hb
 refine HT.yo2 p1 p2 (fun z => hx (r1.nil_iff.mp z)) (fun z => ⟨.ref a, H, I, rfl, q1 (r2.nil_iff.mp z)⟩) (fun z => ?_) (by rw [<- r1.length, <- r2.length]; exact hz)
 refine ⟨.ref s.heap.objs.size, _, I.laid (t' := s.toks) (o := .tup (xs ++ ys)) (fun b ob q => Heap.get?_push_of_some _ q) (Nat.le_refl _) ?_, rfl, q2 (fun w => z (r2.nil_iff.mpr w)) _ (I.hok.fresh (Nat.le_refl _))⟩
 exact ⟨by rw [List.length_append]; exact hz, _, r1.append r2, IsTup.new _ _⟩
end
def ixN (n : Nat) (i : Int) : Option Nat := if 0 <= i then (if i < n then some i.toNat else none) else if -(n : Int) <= i then some (i + n).toNat else none
def atI {α : Type} (xs : List α) (i : Int) : Option α := (ixN xs.length i).bind fun j => xs[j]?
theorem xr5 {j : Nat} (h : ixN n i = some j) : seqIndex? i n = some j /\ j < n /\ -(n : Int) <= i /\ i < n := by
 unfold ixN at h
 by_cases h0 : 0 <= i
 ·rw [if_pos h0] at h
  by_cases h1 : i < n
  ·rw [if_pos h1] at h
   have e : i.toNat = j := Option.some.inj h
   exact ⟨by rw [seqIndex_of h0 h1, e], by omega, by omega, h1⟩
  ·rw [if_neg h1] at h; cases h
 ·rw [if_neg h0] at h
  by_cases h1 : -(n : Int) <= i
  ·rw [if_pos h1] at h
   have e : (i + n).toNat = j := Option.some.inj h
   exact ⟨by rw [seqIndex_neg (by omega) h1, e], by omega, h1, by omega⟩
  ·rw [if_neg h1] at h; cases h
theorem wx7 {xs : List α} {v : α} (h : atI xs i = some v) : ∃ j, seqIndex? i xs.length = some j /\ xs[j]? = some v /\ j < xs.length /\ -(xs.length : Int) <= i /\ i < xs.length := by
 unfold atI at h
 cases e : ixN xs.length i with
 | none => rw [e] at h; cases h
 | some j =>
   rw [e] at h
   obtain ⟨h1, h2, h3, h4⟩ := xr5 e
   exact ⟨j, h1, h, h2, h3, h4⟩
theorem C5 {xs : List α} {j : Nat} {v : α} (h : xs[j]? = some v) : atI xs (j : Int) = some v := by
 have hj : j < xs.length := (List.getElem?_eq_some_iff.mp h).1
 have e : ixN xs.length (j : Int) = some j := by
  unfold ixN
  rw [if_pos (by omega), if_pos (by omega)]; simp
 unfold atI; rw [e]; exact h
def yo4 (b : Expr) : Prop := ∀ o i, subscripted b false o i = operate [o, i] (getItem o i)
def IxR (X : Cx) (r : R2) : Prop :=
 ∀ (value slice : Expr) (pins : List (Addr × Obj)) (s : Shared) (σ : St) (H : Hp) (x y : V) (v u : Value) (Q : VK), Inv X pins σ H s -> G2 x v -> G2 y u -> r x y H Q ->
  subscripted slice false v u = operate [v, u] (getItem v u) -> wpAny (model X.prog X.w) X.A (subscriptTail value slice v u) (EP X pins σ Q) X.xe s
def MtR (X : Cx) (id : String) (r : V -> List V -> Hp -> VK -> Prop) : Prop :=
 ∀ (pins : List (Addr × Obj)) (s : Shared) (σ : St) (H : Hp) (x : V) (xs : List V) (v : Value) (us : List Value) (Q : VK), Inv X pins σ H s -> G2 x v -> G3 xs us -> r x xs H Q ->
  wpAny (model X.prog X.w) X.A (call (.builtin id) (v :: us)) (EP X pins σ Q) X.xe s
variable {its its' : List Value} {p : Addr} {cpos : Pos}
section
variable {a b : Expr} {tb : TE}
theorem IxR.or {r r' : R2} (h : IxR X r) (h' : IxR X r') : IxR X (fun x y H Q => r x y H Q \/ r' x y H Q) := by
 intro value slice pins s σ H x y v u Q I rx ry q hs
 rcases q with q | q
 ·exact h value slice pins s σ H x y v u Q I rx ry q hs
 ·exact h' value slice pins s σ H x y v u Q I rx ry q hs
theorem D7 {r : R2} (hr : IxR X r) (ha : PE X a ta) (hb : PE X b tb) (hs : yo4 b) : PE X (.Subscript a b pos) (tOp r ta tb) := by
 intro pins s σ H Q I h
 exact Subscript_ (yw7 ha hb I h fun v u s2 x y H2 I2 rx ry q => hr a b pins s2 σ H2 x y v u Q I2 rx ry q (hs _ _))
def ze3 (K : Fg) : R2 := fun x y H Q => ∃ p xs i v, x = .ref p /\ y = .int i /\ SqL K H p xs /\ atI xs i = some v /\ Q v H
def ze4 (K : Fg) : R2 := fun x y H Q => ∃ p xs i v, x = .ref p /\ y = .int i /\ SqT K H p xs /\ atI xs i = some v /\ Q v H
def ze5 : R2 := fun x y H Q => ∃ z i c, x = .str z /\ y = .int i /\ z.length <= sizeLine /\ atI z.cps.toList i = some c /\ Q (.str ⟨#[c]⟩) H
theorem yo5 : IxR X (ze3 X.K) := by
 intro value slice pins s σ H x y v u Q I rx ry h hs
 obtain ⟨p, xs, i, z, rfl, rfl, hq, he, q⟩ := h
 cases rx
 obtain ⟨t, rfl⟩ := ry
 obtain ⟨its, r, pl, hz⟩ := I.list hq
 obtain ⟨j, h1, h2, h3, h4, h5⟩ := wx7 he
 obtain ⟨w, ew, rw'⟩ := r.get h2
 have hl := r.length
 have hn := qz5
 have fin : EP X pins σ Q w s := ⟨z, H, I, rw', q⟩
 by_cases h0 : 0 <= i
 ·have hj : i.toNat = j := by
   rw [seqIndex_of h0 h5] at h1
   exact Option.some.inj h1
  exact item_listR pl.isList h0 (by omega) (by rw [hj]; simpa using ew) fin hs
 ·have hj : (i + (its.toArray.size : Int)).toNat = j := by
   rw [seqIndex_neg (by omega) h4] at h1
   rw [List.size_toArray, <- hl]
   exact Option.some.inj h1
  exact subscriptTail_builtinR (x := w) pl.isList.typeIs slot_list_getitem.lookup
   (wpAny_getItem_list_neg (Q := fun r s' => r = w /\ EP X pins σ Q r s') pl.isList (by omega) (by rw [List.size_toArray] <;> omega) (by omega) (by rw [hj]; simpa using ew) ⟨rfl, fin⟩) hs
theorem yx4 : IxR X (ze4 X.K) := by
 intro value slice pins s σ H x y v u Q I rx ry h hs
 obtain ⟨p, xs, i, z, rfl, rfl, hq, he, q⟩ := h
 cases rx
 obtain ⟨t, rfl⟩ := ry
 obtain ⟨its, r, pl, hz⟩ := I.tuple hq
 obtain ⟨j, h1, h2, h3, h4, h5⟩ := wx7 he
 obtain ⟨w, ew, rw'⟩ := r.get h2
 have hl := r.length
 have hn := qz5
 have fin : EP X pins σ Q w s := ⟨z, H, I, rw', q⟩
 exact subscriptTail_builtinR (x := w) pl.typeIs slot_tuple_getitem.lookup
  (getItem_tuple (j := j) (Q := fun r s' => r = w /\ EP X pins σ Q r s') pl (by omega) (by omega) (by rw [List.size_toArray, <- hl]; exact h1) (by simpa using ew) ⟨rfl, fin⟩) hs
theorem yx5 : IxR X ze5 := by
 intro value slice pins s σ H x y v u Q I rx ry h hs
 obtain ⟨z, i, c, rfl, rfl, hz, he, q⟩ := h
 obtain ⟨t, rfl⟩ := rx
 obtain ⟨t', rfl⟩ := ry
 obtain ⟨j, h1, h2, h3, h4, h5⟩ := wx7 he
 have hl : z.cps.toList.length = z.length := by simp [Str.length]
 rw [hl] at h1 h4 h5
 have hn := qz5
 exact tail_any (typeIs_str s z t) slot_str_getitem.lookup (getItem_str (c := c) (by
  have e1 : decide (i < -(2 ^ 63 : Int)) = false := decide_eq_false (by omega)
  have e2 : decide (i >= 2 ^ 63) = false := decide_eq_false (by omega)
  rw [e1, e2, Bool.or_false]) (by rw [h1]; simpa using h2) ⟨.str ⟨#[c]⟩, H, I.tok _, ⟨_, rfl⟩, q⟩) hs
def rIx (K : Fg) : R2 := fun x y H Q => ze3 K x y H Q \/ ze4 K x y H Q \/ ze5 x y H Q
theorem yx6 : IxR X (rIx X.K) := yo5.or (yx4.or yx5)
theorem xn0 (its : List Value) (n j : Nat) (u : Value) : Obj.mapSeq (·.setIfInBounds j u) { cls := .type "list", data := .seq its.toArray n } = { cls := .type "list", data := .seq (its.set j u).toArray n } := by
 simp [Obj.mapSeq]
theorem Inv.lst {pins : List (Addr × Obj)} {σ : St} {H : Hp} {s : Shared} {p : Addr} {xs : List V} (I : Inv X pins σ H s) (h : H p = some (.lst xs)) :
 ∃ (its : List Value) (n : Nat), G3 xs its /\ s.heap.get? p = some { cls := .type "list", data := .seq its.toArray n } /\ xs.length <= sizeLine := by
 obtain ⟨z, its, n, r, e⟩ := I.hok p _ h
 exact ⟨its, n, r, e, z⟩
theorem Inv.lstUpd {n' : Nat} {f : Obj -> Obj} (I : Inv X pins σ H s) (h : H p = some (.lst xs)) (ho : s.heap.get? p = some { cls := .type "list", data := .seq its.toArray n }) (hf : f { cls := .type "list", data := .seq its.toArray n } = { cls := .type "list", data := .seq its'.toArray n' }) (r : G3 ys its') (hz : ys.length <= sizeLine) (t' : Nat) (ht : autoParam (0 < t') zAt) :
 Inv X pins σ (upd H p (.lst ys)) { s with heap := s.heap.update p f, toks := t' } := by
 have e : (s.heap.update p f).get? p = some { cls := .type "list", data := .seq its'.toArray n' } := by
  rw [Heap.get?_update_self f ho (by rw [hf] <;> rfl), hf]
 refine I.write (x := p) (e := p) (by rw [h]; trivial) (.inl rfl) (fun b u hb q => (Heap.get?_update_other _ _ (Ne.symm hb)).trans q) ⟨_, e⟩ ?_
 exact ⟨hz, its', n', r, e⟩
def yd2 : V -> V -> V -> Hp -> (Hp -> Prop) -> Prop := fun o i v H Q => ∃ p xs k j, o = .ref p /\ i = .int k /\ H p = some (.lst xs) /\ ixN xs.length k = some j /\ Q (upd H p (.lst (xs.set j v)))
theorem yd3 : yw6 X yd2 := by
 intro pins s σ H o i v ov iv u Q I ro ri rv h
 obtain ⟨p, xs, k, j, rfl, rfl, hp, hj, q⟩ := h
 cases ro
 obtain ⟨t, rfl⟩ := ri
 obtain ⟨its, n, r, ho, hz⟩ := I.lst hp
 obtain ⟨h1, h2, h3, h4⟩ := xr5 hj
 have hl := r.length
 have hn := qz5
 have I' : Inv X pins σ (upd H p (.lst (xs.set j v))) { s with heap := s.heap.update p (Obj.mapSeq (·.setIfInBounds j u)) } :=
  I.lstUpd hp ho (xn0 its n j u) (r.set rv j) (by rw [List.length_set]; exact hz) s.toks
 by_cases h0 : 0 <= k
 ·have hk : k.toNat = j := by
   rw [seqIndex_of h0 h4] at h1
   exact Option.some.inj h1
  exact PySem.W.ki_setAt ho h0 (by omega) (by rw [List.size_toArray, <- hl]; exact h4) (by rw [hk]; exact ⟨_, I', q⟩)
 ·have hk : (k + (its.toArray.size : Int)).toNat = j := by
   rw [seqIndex_neg (by omega) h3] at h1
   rw [List.size_toArray, <- hl]
   exact Option.some.inj h1
  exact PySem.W.ki_setBack ho (by omega) (by rw [List.size_toArray, <- hl]; exact h3) (by omega) (by rw [hk]; exact ⟨_, I', q⟩)
theorem qi3 (lo hi : Option Int) (n : Nat) : (sliceBounds lo hi none n).1 = ((HT.sIx n 0 lo : Nat) : Int) /\ (sliceBounds lo hi none n).2.1 = ((HT.sIx n n hi : Nat) : Int) /\ (sliceBounds lo hi none n).2.2 = 1 := by
 refine ⟨?_, ?_, rfl⟩
 ·cases lo with
  | none => simp [sliceBounds, HT.sIx]
  | some i =>
    simp only [sliceBounds, HT.sIx, Option.getD_none, show (1 : Int) > 0 by decide, if_true]
    by_cases h : i < 0
    ·simp only [h, if_true] <;> omega
    ·simp only [h, if_false] <;> omega
 ·cases hi with
  | none => simp [sliceBounds, HT.sIx]
  | some i =>
    simp only [sliceBounds, HT.sIx, Option.getD_none, show (1 : Int) > 0 by decide, if_true]
    by_cases h : i < 0
    ·simp only [h, if_true] <;> omega
    ·simp only [h, if_false] <;> omega
theorem wq5 (its : List Value) (lo hi : Option Int) : slicePick its.toArray lo hi none = ((its.drop (HT.sIx its.length 0 lo)).take (HT.sIx its.length its.length hi - HT.sIx its.length 0 lo)).toArray := by
 obtain ⟨h1, h2, h3⟩ := qi3 lo hi its.toArray.size
 unfold slicePick
 rw [h1, h2, h3]
 simp only [sliceRange_one, pick_run, List.size_toArray] <;> rfl
def ze6 (K : Fg) : V -> Option Int -> Option Int -> Hp -> VK -> Prop := fun x lo hi H Q => ∃ a xs, x = .ref a /\ SqL K H a xs /\ ∀ p, H p = none -> Q (.ref p) (upd H p (.lst (ql6 xs lo hi)))
theorem yo6 : SlR X (ze6 X.K) := by
 intro pins s σ H x v vl vu lo hi sl Q I rx hs pl pu h
 obtain ⟨a, xs, rfl, hx, q⟩ := h
 cases rx
 obtain ⟨its, r, ht, hz⟩ := I.list hx
 have hlen := r.length
 refine ⟨"list", _, slot_list_getitem.lookup, ht.isList.typeIs, ?_⟩
 refine wpAny_getItem_list_slice ht.isList hs pl pu .none (by simp) ?_ (by rw [List.size_toArray] <;> omega)
 rw [wq5, <- hlen]
 refine ⟨.ref s.heap.objs.size, _, I.laid (t' := s.toks) (o := .lst (ql6 xs lo hi)) (fun b ob q => Heap.get?_push_of_some _ q) (Nat.le_refl _) ?_, rfl, q _ (I.hok.fresh (Nat.le_refl _))⟩
 exact ⟨Nat.le_trans (wd3 xs lo hi) hz, _, 0, (r.drop (HT.sIx xs.length 0 lo)).take (HT.sIx xs.length xs.length hi - HT.sIx xs.length 0 lo), Heap.get?_push_size _ rfl⟩
def qe3 : V -> Bool
 | .non => true
 | .bl _ => true
 | .int _ => true
 | .str _ => true
 | _ => false
def eqV : V -> V -> Bool
 | .non, .non => true
 | .bl a, .bl b => a == b
 | .bl a, .int b => (if a then 1 else 0) == b
 | .int a, .bl b => a == (if b then 1 else 0)
 | .int a, .int b => a == b
 | .str a, .str b => a == b
 | _, _ => false
theorem yx7 {x : V} {v : Value} (ry : G2 y u) (rx : G2 x v) (fy : qe3 y = true) (fx : qe3 x = true) : SeqAt.EqAt A s u v (eqV y x) := by
 cases y with
 | non =>
   cases ry
   cases x with
   | non => cases rx; exact SeqAt.EqAt.same _
   | bl b => cases rx; exact SeqAt.EqAt.none_bool b
   | int b => obtain ⟨t, rfl⟩ := rx; exact SeqAt.EqAt.none_int b t
   | str b => obtain ⟨t, rfl⟩ := rx; exact SeqAt.EqAt.none_str b t
   | _ => exact absurd (show false = true from fx) Bool.false_ne_true
 | bl a =>
   cases ry
   cases x with
   | non => cases rx; exact SeqAt.EqAt.bool_none a
   | bl b => cases rx; exact SeqAt.EqAt.bool_bool a b
   | int b => obtain ⟨t, rfl⟩ := rx; exact SeqAt.EqAt.bool_int a b t
   | str b => obtain ⟨t, rfl⟩ := rx; exact SeqAt.EqAt.bool_str a b t
   | _ => exact absurd (show false = true from fx) Bool.false_ne_true
 | int a =>
   obtain ⟨t', rfl⟩ := ry
   cases x with
   | non => cases rx; exact SeqAt.EqAt.int_none a t'
   | bl b => cases rx; exact SeqAt.EqAt.int_bool a t' b
   | int b => obtain ⟨t, rfl⟩ := rx; exact SeqAt.EqAt.int_int a t' b t
   | str b => obtain ⟨t, rfl⟩ := rx; exact SeqAt.EqAt.int_str a t' b t
   | _ => exact absurd (show false = true from fx) Bool.false_ne_true
 | str a =>
   obtain ⟨t', rfl⟩ := ry
   cases x with
   | non => cases rx; exact SeqAt.EqAt.str_none a t'
   | bl b => cases rx; exact SeqAt.EqAt.str_bool a t' b
   | int b => obtain ⟨t, rfl⟩ := rx; exact SeqAt.EqAt.str_int a t' b t
   | str b => obtain ⟨t, rfl⟩ := rx; exact SeqAt.EqAt.str_str a t' b t
   | _ => exact absurd (show false = true from fx) Bool.false_ne_true
 | _ => exact absurd (show false = true from fy) Bool.false_ne_true
def eqU (x : V) (u : Value) : Bool := match u with
 | .none => eqV .non x
 | .bool b => eqV (.bl b) x
 | .int i _ => eqV (.int i) x
 | .str z _ => eqV (.str z) x
 | _ => false
theorem yd4 {x : V} (r : G2 y u) (f : qe3 y = true) : eqU x u = eqV y x := by
 cases y with
 | non => cases r; rfl
 | bl b => cases r; rfl
 | int i => obtain ⟨t, rfl⟩ := r; rfl
 | str z => obtain ⟨t, rfl⟩ := r; rfl
 | _ => exact absurd (show false = true from f) Bool.false_ne_true
theorem qt9 {x : V} : ∀ {xs : List V} {us : List Value}, G3 xs us -> xs.all qe3 = true -> us.any (eqU x) = xs.any fun y => eqV y x
 | _, _, .nil, _ => rfl
 | y :: xs, u :: us, .cons r t, f => by
   rw [List.all_cons, Bool.and_eq_true] at f
   rw [List.any_cons, List.any_cons, yd4 r f.1, qt9 t f.2]
theorem qm1 {A : Around} {s : Shared} {x : V} {v : Value} (rx : G2 x v) (fx : qe3 x = true) : ∀ {xs : List V} {us : List Value}, G3 xs us -> xs.all qe3 = true -> ∀ u ∈ us, SeqAt.EqAt A s u v (eqU x u)
 | _, _, .nil, _ => fun u hu => by cases hu
 | y :: xs, u :: us, .cons r t, f => fun u' hu => by
   rw [List.all_cons, Bool.and_eq_true] at f
   rcases List.mem_cons.mp hu with rfl | hu
   ·rw [yd4 r f.1]; exact yx7 r rx f.1 fx
   ·exact qm1 rx fx t f.2 u' hu
def inV (x : V) (xs : List V) : Bool := xs.any fun y => eqV y x
def rIn (K : Fg) (neg : Bool) : R2 := fun x y H Q => ∃ p xs, y = .ref p /\ (SqL K H p xs \/ SqT K H p xs) /\ qe3 x = true /\ xs.all qe3 = true /\ Q (.bl (if neg then !inV x xs else inV x xs)) H
theorem xx6 : OpR X (compareOp .In) (rIn X.K false) := by
 intro pins s σ H x y v u Q I rx ry h
 obtain ⟨p, xs, rfl, hq, fx, fs, q⟩ := h
 cases ry
 rcases hq with hq | hq
 ·obtain ⟨its, r, pl, hz⟩ := I.list hq
  refine SeqAt.in_listAt (eqU x) pl.isList (fun w hw => qm1 rx fx r fs w (by simpa using hw)) ⟨.bl _, H, I, rfl, ?_⟩
  rw [show its.toArray.any (eqU x) = its.any (eqU x) by simp, qt9 r fs]
  exact q
 ·obtain ⟨its, r, pl, hz⟩ := I.tuple hq
  refine SeqAt.in_tupleAt (eqU x) pl (fun w hw => qm1 rx fx r fs w (by simpa using hw)) ⟨.bl _, H, I, rfl, ?_⟩
  rw [show its.toArray.any (eqU x) = its.any (eqU x) by simp, qt9 r fs]
  exact q
theorem wx8 : OpR X (compareOp .NotIn) (rIn X.K true) := by
 intro pins s σ H x y v u Q I rx ry h
 obtain ⟨p, xs, rfl, hq, fx, fs, q⟩ := h
 cases ry
 rcases hq with hq | hq
 ·obtain ⟨its, r, pl, hz⟩ := I.list hq
  refine SeqAt.notIn_listAt (eqU x) pl.isList (fun w hw => qm1 rx fx r fs w (by simpa using hw)) ⟨.bl _, H, I, rfl, ?_⟩
  rw [show its.toArray.any (eqU x) = its.any (eqU x) by simp, qt9 r fs]
  exact q
 ·obtain ⟨its, r, pl, hz⟩ := I.tuple hq
  refine SeqAt.notIn_tupleAt (eqU x) pl (fun w hw => qm1 rx fx r fs w (by simpa using hw)) ⟨.bl _, H, I, rfl, ?_⟩
  rw [show its.toArray.any (eqU x) = its.any (eqU x) by simp, qt9 r fs]
  exact q
theorem wx9 : OpR X (compareOp .NotIn) (fun x y H Q => ∃ i j, x = .str i /\ y = .str j /\ Q (.bl (!(!(Builtin.Str.occurrences j i 0 j.length 1).isEmpty))) H) := by
 intro pins s σ H x y v u Q I rx ry h
 obtain ⟨i, j, rfl, rfl, q⟩ := h
 obtain ⟨t, rfl⟩ := rx
 obtain ⟨t', rfl⟩ := ry
 exact notIn_str ⟨.bl _, H, I, rfl, q⟩
theorem wy0 : Q7 X (.builtin "len") (fun xs H Q => ∃ p ys, xs = [.ref p] /\ (SqL X.K H p ys \/ SqT X.K H p ys) /\ Q (.int ys.length) H) := by
 intro pins s σ H xs us Q I r h
 obtain ⟨p, ys, rfl, hq, q⟩ := h
 obtain ⟨u, rfl, rx⟩ := qd0 r
 cases rx
 have hn := qz5
 rcases hq with hq | hq
 ·obtain ⟨its, r', pl, hz⟩ := I.list hq
  have hlen := r'.length
  exact Calls.call_len_list pl.isList (by simp only [List.size_toArray] <;> omega) ⟨.int ys.length, H, I.tok _, ⟨s.toks + 1, by rw [List.size_toArray, hlen]⟩, q⟩
 ·obtain ⟨its, r', pl, hz⟩ := I.tuple hq
  have hlen := r'.length
  exact len_tuple pl (by simp only [List.size_toArray] <;> omega) ⟨.int ys.length, H, I.tok _, ⟨s.toks + 1, by rw [List.size_toArray, hlen]⟩, q⟩
theorem wy1 : Q7 X (.builtin "len") (fun xs H Q => ∃ z, xs = [.str z] /\ z.length <= sizeLine /\ Q (.int z.length) H) := by
 intro pins s σ H xs us Q I r h
 obtain ⟨z, rfl, hz, q⟩ := h
 obtain ⟨u, rfl, t, rfl⟩ := qd0 r
 have hn := qz5
 exact len_str (by omega) ⟨.int z.length, H, I.tok _, ⟨_, rfl⟩, q⟩
theorem Q7.or {f : Value} {r r' : List V -> Hp -> VK -> Prop} (h : Q7 X f r) (h' : Q7 X f r') : Q7 X f (fun xs H Q => r xs H Q \/ r' xs H Q) := by
 intro pins s σ H xs us Q I rs q
 rcases q with q | q
 ·exact h pins s σ H xs us Q I rs q
 ·exact h' pins s σ H xs us Q I rs q
theorem wq6 : Q7 X (.type "tuple") (fun xs H Q => ∃ p ys, xs = [.ref p] /\ ((SqL X.K H p ys /\ ∀ l, H l = none -> Q (.ref l) (upd H l (.tup ys))) \/ (SqT X.K H p ys /\ Q (.ref p) H))) := by
 intro pins s σ H xs us Q I r h
 obtain ⟨p, ys, rfl, h⟩ := h
 obtain ⟨u, rfl, rx⟩ := qd0 r
 cases rx
 rcases h with ⟨hq, q⟩ | ⟨hq, q⟩
 ·obtain ⟨its, r', pl, hz⟩ := I.list hq
  have hlen := r'.length
  refine call_tuple_list pl.isList (fun h' kp => ?_) (by simp only [List.size_toArray] <;> omega)
  have I1 : Inv X pins σ H { s with heap := h' } := I.kept (t' := s.toks) kp
  have I2 : Inv X pins σ (upd H h'.objs.size (.tup ys)) { s with heap := h'.push { cls := .type "tuple", data := .seq its.toArray } } :=
   I1.laid (t' := s.toks) (fun b o e => Heap.get?_push_of_some _ e) (Nat.le_refl _) (show N1 X.prog X.w _ _ _ (.tup ys) from ⟨hz, its, r', IsTup.new _ _⟩)
  exact ⟨.ref h'.objs.size, _, I2, rfl, q _ (I1.hok.fresh (Nat.le_refl _))⟩
 ·obtain ⟨its, r', pl, hz⟩ := I.tuple hq
  exact call_tuple_same pl ⟨.ref p, H, I, rfl, q⟩
def tyV (K : Fg) (T : String) (x : V) (H : Hp) : Prop := match x with
 | .str _ => T = "str"
 | .int _ => T = "int"
 | .ref p => (T = "list" /\ ∃ xs, SqL K H p xs) \/ (T = "tuple" /\ ∃ o, K.lookup p = some o /\ o.cls = .type "tuple" /\ o.dict = none) \/
  (T = "dict" /\ ((∃ kvs, H p = some (.dK kvs)) \/ ∃ kvs, H p = some (.dT kvs))) \/ (T = "set" /\ ∃ S n, H p = some (.set S n))
 | _ => False
theorem yd5 {x : V} {v : Value} (I : Inv X pins σ H s) (r : G2 x v) (ty : tyV X.K T x H) :
 s.TypeIs v T /\ ∀ a, v = .ref a -> ∃ ob, s.heap.get? a = some ob /\ ob.dict = none := by
 cases x with
 | str z =>
   obtain ⟨t, rfl⟩ := r
   cases (show T = "str" from ty)
   exact ⟨typeIs_str s z t, fun _ e => nomatch e⟩
 | int i =>
   obtain ⟨t, rfl⟩ := r
   cases (show T = "int" from ty)
   exact ⟨typeIs_int s i t, fun _ e => nomatch e⟩
 | ref p =>
   cases r
   rcases ty with ⟨rfl, xs, hq⟩ | ⟨rfl, o, hk, hc, hd⟩ | ⟨rfl, hk⟩ | ⟨rfl, S, n, hk⟩
   ·obtain ⟨its, _, pl, _⟩ := I.list hq
    refine ⟨pl.isList.typeIs, fun a e => ?_⟩
    cases e
    obtain ⟨o, n, e, c, hd, _⟩ := pl
    exact ⟨o, e, hd⟩
   ·refine ⟨⟨o, I.kIn p o hk, hc⟩, fun a e => ?_⟩
    cases e
    exact ⟨o, I.kIn _ o hk, hd⟩
   ·have z : ∃ o, s.heap.get? p = some o /\ o.ExactDict := by
     rcases hk with ⟨kvs, hk⟩ | ⟨kvs, hk⟩
     ·obtain ⟨_, _, _, _, o, _, _, e, ex, _⟩ := I.hok p _ hk
      exact ⟨o, e, ex⟩
     ·obtain ⟨_, _, _, _, o, _, _, e, ex, _⟩ := I.hok p _ hk
      exact ⟨o, e, ex⟩
    obtain ⟨o, e, ex⟩ := z
    refine ⟨⟨o, e, ex.1⟩, fun a e2 => ?_⟩
    cases e2
    exact ⟨o, e, ex.2.1⟩
   ·obtain ⟨o, _, _, _, e, ex, _⟩ := I.hok p _ hk
    refine ⟨⟨o, e, ex.1⟩, fun a e2 => ?_⟩
    cases e2
    exact ⟨o, e, ex.2.1⟩
 | _ => exact False.elim ty
def yx8 (K : Fg) (T : String) (r : V -> List V -> Hp -> VK -> Prop) (to : TE) : TE := fun σ H Q => to σ H fun x H1 => tyV K T x H1 /\ r x [] H1 Q
def tBM (K : Fg) (T : String) (r : V -> List V -> Hp -> VK -> Prop) (to : TE) (t : TA) : TE := fun σ H Q => to σ H fun x H1 => tyV K T x H1 /\ t σ H1 fun xs H2 => r x xs H2 Q
variable {o : Expr} {id : String} {r : V -> List V -> Hp -> VK -> Prop}
theorem yx9 (pa : PlainAttrs T) (slot : Slot T name id) (hty : typeOf (.builtin id) = pure (.type "method_descriptor")) (hm : MtR X id r) (ho : PE X o to) (hbase : autoParam (attributeBase o name X.env (eval o X.env) = eval o X.env) zAr) (hline : autoParam ((apos.endLine == cpos.line) = true) zAr) : PE X (.Call (.Attribute o name apos) [] [] cpos) (yx8 X.K T r to) := by
 intro pins s σ H Q I h
 refine wpAny_Call_method0_late hbase hline (thn (ho pins s σ H _ I h) fun v s1 zq => ?_)
 obtain ⟨x, H1, I1, r1, ty, q1⟩ := zq
 obtain ⟨h1, h2⟩ := yd5 I1 r1 ty
 exact ⟨T, id, pa, slot, hty, h1, h2, Calls.callWith_builtin rfl (PySem.evalArgs_none (hm pins s1 σ H1 x [] v [] Q I1 r1 .nil q1))⟩
theorem T6 (pa : PlainAttrs T) (slot : Slot T name id) (hty : typeOf (.builtin id) = pure (.type "method_descriptor")) (hm : MtR X id r) (ho : PE X o to) (ha : PA X (e :: es) t) (hbase : autoParam (attributeBase o name X.env (eval o X.env) = eval o X.env) zAr) (hfew : ((backTo cpos (starEach (e :: es) X.env)).all (fun x => !x.1) && (backToKw cpos (keywordEach [] X.env)).all (fun x => x.1.isSome)
  && decide ((e :: es).length + ([] : List Keyword).length + (if ([] : List Keyword).isEmpty then 0 else 1) < 30)) = true := by rfl) (hline : autoParam ((apos.endLine == cpos.line) = true) zAr) (hs : autoParam (starEach (e :: es) X.env = (false, eval e X.env) :: starEach es X.env) zAr) (hplain : autoParam ((backTo cpos (starEach es X.env)).any (·.1) = false) zAr) :
 PE X (.Call (.Attribute o name apos) (e :: es) [] cpos) (tBM X.K T r to t) := by
 intro pins s σ H Q I h
 refine wpAny_Call_method_late hbase hfew hline rfl (thn (ho pins s σ H _ I h) fun v s1 zq => ?_)
 obtain ⟨x, H1, I1, r1, ty, q1⟩ := zq
 obtain ⟨h1, h2⟩ := yd5 I1 r1 ty
 refine ⟨T, id, pa, slot, hty, h1, h2, ?_⟩
 have hA := ha cpos pins s1 σ H1 _ I1 q1
 rw [hs] at hA ⊢
 refine Calls.callWith_builtin (by show (false || (backTo cpos (starEach es X.env)).any (·.1)) = false; rw [hplain] <;> rfl) (Calls.evalArgs_plain ?_)
 exact thn hA fun us s2 ⟨vs, H2, I2, r2, q2⟩ => hm pins s2 σ H2 x vs v us Q I2 r1 r2 q2
end
def MtM (X : Cx) (id : String) (r : V -> List V -> Hp -> VK -> Prop) : Prop :=
 ∀ (pins : List (Addr × Obj)) (s : Shared) (σ : St) (H : Hp) (x : V) (xs : List V) (v : Value) (us : List Value) (Q : VK), Inv X pins σ H s -> G2 x v -> G3 xs us -> r x xs H Q ->
  wpAny (model X.prog X.w) X.A (call (.builtin id) (v :: us)) (EP X pins σ Q) X.xe s
theorem G3.one {x : V} (r : G3 [x] us) : ∃ u, us = [u] /\ G2 x u := qd0 r
theorem G3.rep {xs : List V} {us : List Value} (h : G3 xs us) : ∀ k : Nat, G3 (List.replicate k xs).flatten (List.replicate k us).flatten
 | 0 => .nil
 | k + 1 => by
   rw [List.replicate_succ, List.replicate_succ, List.flatten_cons, List.flatten_cons]
   exact G3.append h (G3.rep h k)
theorem wv3 (its : List Value) : ∀ (k : Nat) (acc : List Value),
 List.foldl (fun x1 x2 => x1 ++ x2) acc.toArray (List.replicate k its.toArray) = (acc ++ (List.replicate k its).flatten).toArray
 | 0, acc => by simp
 | k + 1, acc => by
   have e : acc.toArray ++ its.toArray = (acc ++ its).toArray := by simp
   have e2 : (acc ++ its) ++ (List.replicate k its).flatten = acc ++ (List.replicate (k + 1) its).flatten := by
    rw [List.replicate_succ, List.flatten_cons, List.append_assoc]
   rw [<- e2, <- wv3 its k (acc ++ its), <- e, List.replicate_succ, List.foldl_cons]
variable {l : Addr} {zs : List V}
theorem Inv.lset {f : Array Value -> Array Value} (I : Inv X pins σ H s) (hH : H l = some (.lst xs)) (e : s.heap.get? l = some { cls := .type "list", data := .seq its.toArray n }) (hf : f its.toArray = its'.toArray) (hv : G3 ys its') (hz : ys.length <= sizeLine) (ht : autoParam (0 < t') zAt) :
 Inv X pins σ (upd H l (.lst ys)) { s with heap := s.heap.update l (Obj.mapSeq f), toks := t' } := by
 have q := PySem.IsL.update e f
 rw [hf] at q
 refine I.write (x := l) (e := l) (by rw [hH]; exact trivial) (.inl rfl) (fun b' u hb hu => (Heap.get?_update_other s.heap (Obj.mapSeq f) (Ne.symm hb)).trans hu) ⟨_, q⟩ ?_
 exact ⟨hz, its', _, hv, q⟩
theorem Inv.lnew (I : Inv X pins σ H s) (hv : G3 ys its) (hz : ys.length <= sizeLine) (ht : autoParam (0 < t') zAt) :
 Inv X pins σ (upd H s.heap.objs.size (.lst ys)) { s with heap := s.heap.push { cls := .type "list", data := .seq its.toArray }, toks := t' } :=
 I.laid (fun _ _ q => Heap.get?_push_of_some _ q) (Nat.le_refl _) ⟨hz, its, 0, hv, Heap.get?_push_size _ rfl⟩
theorem Inv.fresh (I : Inv X pins σ H s) : H s.heap.objs.size = none := I.hok.fresh (Nat.le_refl _)
theorem Inv.lstM (I : Inv X pins σ H s) (hH : H l = some (.lst xs)) : xs.length <= sizeLine /\ ∃ (its : List Value) (n : Nat), G3 xs its /\ xs.length = its.length /\ s.heap.get? l = some { cls := .type "list", data := .seq its.toArray n } := by
 obtain ⟨z, its, n, r, e⟩ := I.hok l _ hH
 exact ⟨z, its, n, r, r.length, e⟩
theorem yd6 (h : n <= sizeLine) : Builtin.List.listTooLong n = false := by
 unfold Builtin.List.listTooLong
 exact decide_eq_false (by omega)
def S7 : V -> List V -> Hp -> VK -> Prop := fun x vs H Q => ∃ l xs y, x = .ref l /\ vs = [y] /\ H l = some (.lst xs) /\ xs.length < sizeLine /\ Q .non (upd H l (.lst (xs ++ [y])))
theorem Q3 : MtM X "list.append" S7 := by
 intro pins s σ H x vs v us Q I rx rv h
 obtain ⟨l, xs, y, rfl, rfl, hH, hz, q⟩ := h
 cases rx
 obtain ⟨u, rfl, ru⟩ := rv.one
 obtain ⟨z, its, n, r, hl, e⟩ := I.lstM hH
 refine call_meets F.slot_list_append ⟨_, e, rfl⟩ F.entry_list_append (F.args_list_append_2 _ _) (PySem.list_append l its.toArray n u (by rw [List.size_toArray]; omega)) ⟨e, ?_⟩
 refine ⟨.non, _, I.lset (its' := its ++ [u]) hH e (by simp) (r.append (.cons ru .nil)) ?_, rfl, q⟩
 rw [List.length_append, List.length_singleton]
 omega
def ze7 : R2 := fun x y H Q => ∃ l b xs zs, x = .ref l /\ y = .ref b /\ H l = some (.lst xs) /\ H b = some (.lst zs) /\ xs.length + zs.length <= sizeLine /\ ∀ p, H p = none -> Q (.ref p) (upd H p (.lst (xs ++ zs)))
theorem yy0 : OpR X (binaryOp .Add) ze7 := by
 intro pins s σ H x y v u Q I rx ry h
 obtain ⟨l, b, xs, zs, rfl, rfl, hH, hB, hz, q⟩ := h
 cases rx
 cases ry
 obtain ⟨z, its, n, r, hl, e⟩ := I.lstM hH
 obtain ⟨z2, its2, n2, r2, hl2, e2⟩ := I.lstM hB
 refine PySem.P.add_list e e2 ?_ (by rw [List.size_toArray, List.size_toArray]; omega)
 have ea : its.toArray ++ its2.toArray = (its ++ its2).toArray := by simp
 rw [ea]
 exact ⟨.ref _, _, I.lnew (t' := s.toks) (r.append r2) (by rw [List.length_append]; omega), rfl, q _ I.fresh⟩
def ze8 : R2 := fun x y H Q => ∃ l k xs, x = .ref l /\ y = .int k /\ H l = some (.lst xs) /\ -(2 ^ 63) <= k /\ k < 2 ^ 63 /\ xs.length * k.toNat <= sizeLine /\
 ∀ p, H p = none -> Q (.ref p) (upd H p (.lst (List.replicate k.toNat xs).flatten))
theorem yo7 (xs : List α) (k : Nat) : (List.replicate k xs).flatten.length = k * xs.length := by
 induction k with
 | zero => simp
 | succ k ih => rw [List.replicate_succ, List.flatten_cons, List.length_append, ih, Nat.succ_mul, Nat.add_comm]
theorem yy1 : OpR X (binaryOp .Mult) ze8 := by
 intro pins s σ H x y v u Q I rx ry h
 obtain ⟨l, k, xs, rfl, rfl, hH, h1, h2, hz, q⟩ := h
 cases rx
 obtain ⟨t, rfl⟩ := ry
 obtain ⟨z, its, n, r, hl, e⟩ := I.lstM hH
 have hlen : its.toArray.size * k.toNat <= sizeLine := by rw [List.size_toArray, <- hl]; exact hz
 have hcap : ¬ its.toArray.size * k.toNat > (2 ^ 63 - 1) / 8 := by
  have : (sizeLine : Nat) <= (2 ^ 63 - 1) / 8 := by decide
  omega
 have hfit : ¬ (!Builtin.List.listFitsIndex k) = true := by
  rw [fitsIndex_both h1 h2]
  exact Bool.false_ne_true
 have hlong : ¬ Builtin.List.listTooLong (its.toArray.size * k.toNat) = true := by
  rw [yd6 hlen]
  exact Bool.false_ne_true
 have hnew : List.foldl (fun x1 x2 => x1 ++ x2) #[] (List.replicate (if its.toArray.isEmpty = true then 0 else k.toNat) its.toArray) = (List.replicate k.toNat its).flatten.toArray := by
  have f0 : ∀ m : Nat, List.foldl (fun x1 x2 => x1 ++ x2) #[] (List.replicate m its.toArray) = (List.replicate m its).flatten.toArray := fun m => by
   have := wv3 its m []
   rw [List.nil_append] at this
   exact this
  rw [f0]
  cases its with
  | nil => simp
  | cons a r' => rw [if_neg (by simp)]
 refine wpAny_binaryOp_repeat_ref (T := "list") (U := "int") (by decide) ⟨_, e, rfl⟩ (fun s' => typeIs_int s' k t) noFill_list_mul F.fills_int_mul F.slot_int_rmul repeat_list F.slot_int_index.lookup
  (call_meets F.slot_int_rmul (typeIs_int s k t) F.entry_int_rmul (F.args_int_rmul_2 _ _) (int___rmul___int_list k t l its.toArray n)
   ⟨e, rfl, ⟨_, e, rfl⟩, call_meets F.slot_list_mul ⟨_, e, rfl⟩ F.entry_list_mul (F.args_list_mul_2 _ _) (AutoListH.list___mul___list_int_3 l its.toArray n k t hfit hcap hlong) ⟨e, ?_⟩⟩)
 rw [hnew]
 exact ⟨.ref _, _, I.lnew (t' := s.toks) (r.rep k.toNat) (by rw [yo7, Nat.mul_comm]; exact hz), rfl, q _ I.fresh⟩
variable {κ : Type}
section
variable [DecidableEq κ]
def T4 (kvs : List (κ × V)) (k : κ) : Option V := (kvs.find? fun kv => decide (kv.1 = k)).map (·.2)
def qm2 (kvs : List (κ × V)) (k : κ) (v : V) : List (κ × V) :=
 if (kvs.any fun kv => decide (kv.1 = k)) = true then kvs.map (fun kv => if kv.1 = k then (kv.1, v) else kv) else kvs ++ [(k, v)]
theorem S0 {p : κ × V} {r : List (κ × V)} {k : κ} (e : p.1 = k) : T4 (p :: r) k = some p.2 := by simp [T4, List.find?_cons, e]
theorem S1 {p : κ × V} {r : List (κ × V)} {k : κ} (e : ¬ p.1 = k) : T4 (p :: r) k = T4 r k := by simp [T4, List.find?_cons, e]
theorem qm3 (k : κ) : ∀ kvs : List (κ × V), (kvs.any fun kv => decide (kv.1 = k)) = (T4 kvs k).isSome
 | [] => rfl
 | p :: r => by
   rw [List.any_cons]
   by_cases e : p.1 = k
   ·simp only [S0 e, decide_eq_true e, Bool.true_or, Option.isSome_some]
   ·rw [S1 e, decide_eq_false e, Bool.false_or]; exact qm3 k r
theorem xf2 (k j : κ) (y : V) : ∀ kvs : List (κ × V), T4 (kvs.map fun kv => if kv.1 = k then (kv.1, y) else kv) j = (T4 kvs j).map fun x => if j = k then y else x
 | [] => rfl
 | p :: r => by
   have ih := xf2 k j y r
   rw [List.map_cons]
   by_cases h : p.1 = k
   ·rw [if_pos h]
    by_cases e : p.1 = j
    ·rw [S0 (p := (p.1, y)) e, S0 e, Option.map_some, if_pos (e.symm.trans h)]
    ·rw [S1 (p := (p.1, y)) e, S1 e, ih]
   ·rw [if_neg h]
    by_cases e : p.1 = j
    ·rw [S0 (p := p) e, S0 e, Option.map_some, if_neg (fun z => h (e.trans z))]
    ·rw [S1 (p := p) e, S1 e, ih]
theorem wv4 (k j : κ) (y : V) : ∀ kvs : List (κ × V), T4 kvs k = none -> T4 (kvs ++ [(k, y)]) j = if j = k then some y else T4 kvs j
 | [], _ => by
   by_cases e : k = j
   ·rw [if_pos e.symm]; exact S0 (p := (k, y)) e
   ·rw [if_neg (fun z => e z.symm)]; exact S1 (p := (k, y)) e
 | p :: r, hn => by
   rw [List.cons_append]
   have hk : ¬ p.1 = k := fun z => by rw [S0 z] at hn; cases hn
   rw [S1 hk] at hn
   have ih := wv4 k j y r hn
   by_cases e : p.1 = j
   ·rw [S0 e, S0 e, if_neg (fun z => hk (e.trans z))]
   ·rw [S1 e, S1 e, ih]
theorem yd7 (kvs : List (κ × V)) (k j : κ) (y : V) : T4 (qm2 kvs k y) j = if j = k then some y else T4 kvs j := by
 unfold qm2
 by_cases a : (kvs.any fun kv => decide (kv.1 = k)) = true
 ·rw [if_pos a, xf2]
  rw [qm3] at a
  by_cases e : j = k
  ·obtain ⟨x, hx⟩ := Option.isSome_iff_exists.mp a
   rw [if_pos e, e, hx, Option.map_some, if_pos rfl]
  ·rw [if_neg e]
   cases T4 kvs j with
   | none => rfl
   | some x => rw [Option.map_some, if_neg e]
 ·rw [if_neg a]
  refine wv4 k j y kvs ?_
  rw [qm3] at a
  cases q : T4 kvs k with
  | none => rfl
  | some x => rw [q] at a; exact (a rfl).elim
theorem wd4 (kvs : List (κ × V)) (k : κ) (v : V) : (qm2 kvs k v).length <= kvs.length + 1 := by
 unfold qm2
 split
 ·rw [List.length_map]; omega
 ·rw [List.length_append, List.length_cons, List.length_nil]; omega
theorem qu0 {kvs : List (κ × V)} {k : κ} (v : V) (h : T4 kvs k = none) : qm2 kvs k v = kvs ++ [(k, v)] := by
 unfold qm2
 rw [qm3, h]
 exact if_neg (by decide)
theorem qr3.isSome_eq {o : Option V} {u : Option Value} (r : qr3 o u) : o.isSome = u.isSome := by
 cases o with
 | none => cases u with
   | none => rfl
   | some _ => exact (show False from r).elim
 | some _ => cases u with
   | none => exact (show False from r).elim
   | some _ => rfl
theorem qr3.getD {o : Option V} {u : Option Value} {d : V} {d' : Value} (r : qr3 o u) (rd : G2 d d') : G2 (o.getD d) (u.getD d') := by
 cases o with
 | none => cases u with
   | none => exact rd
   | some _ => exact (show False from r).elim
 | some _ => cases u with
   | none => exact (show False from r).elim
   | some _ => exact r
theorem KV.val {kvs : List (κ × V)} {vs : List (κ × Value)} (r : KV kvs vs) (k : κ) : qr3 (T4 kvs k) (valueAt vs k) := by
 unfold KV at r
 induction r with
 | nil => exact True.intro
 | @cons p q ps qs h t ih =>
   obtain ⟨h1, h2⟩ := h
   by_cases e : p.1 = k
   ·have e' : q.1 = k := h1.symm.trans e
    have b : valueAt (q :: qs) k = some q.2 := by simp [valueAt, List.find?_cons, e']
    rw [S0 e, b]; exact h2
   ·have e' : ¬ q.1 = k := fun z => e (h1.trans z)
    have b : valueAt (q :: qs) k = valueAt qs k := by simp [valueAt, List.find?_cons, e']
    rw [S1 e, b]; exact ih
theorem KV.any {kvs : List (κ × V)} {vs : List (κ × Value)} (r : KV kvs vs) (k : κ) : (kvs.any fun kv => decide (kv.1 = k)) = vs.any fun kv => decide (kv.1 = k) := by
 unfold KV at r
 induction r with
 | nil => rfl
 | cons h t ih => rw [List.any_cons, List.any_cons, ih, h.1]
theorem KV.repl {kvs : List (κ × V)} {vs : List (κ × Value)} (r : KV kvs vs) (k : κ) (ry : G2 y u) :
 KV (kvs.map fun kv => if kv.1 = k then (kv.1, y) else kv) (vs.map fun kv => if kv.1 = k then (kv.1, u) else kv) := by
 unfold KV at r ⊢
 induction r with
 | nil => exact .nil
 | @cons p q ps qs h t ih =>
   rw [List.map_cons, List.map_cons]
   refine .cons ?_ ih
   obtain ⟨h1, h2⟩ := h
   by_cases e : p.1 = k
   ·rw [if_pos e, if_pos (h1.symm.trans e)]; exact ⟨h1, ry⟩
   ·rw [if_neg e, if_neg (fun z => e (h1.trans z))]; exact ⟨h1, h2⟩
theorem KV.put {kvs : List (κ × V)} {vs : List (κ × Value)} (r : KV kvs vs) (k : κ) (ry : G2 y u) : KV (qm2 kvs k y) (stored vs k u) := by
 unfold qm2 stored
 rw [r.any k]
 by_cases e : (vs.any fun kv => decide (kv.1 = k)) = true
 ·rw [if_pos e, if_pos e]; exact r.repl k ry
 ·rw [if_neg e, if_neg e]; exact Paired.snoc r ⟨rfl, ry⟩
theorem KV.length {kvs : List (κ × V)} {vs : List (κ × Value)} (r : KV kvs vs) : kvs.length = vs.length := Paired.length r
end
theorem wv5 {k : Key} (r : G2 (kV k) u) : (P3 P w).is k u = true := by
 cases k with
 | inl i => obtain ⟨t, e⟩ := (show ∃ t, u = Value.int i t from r); subst e; exact xe7 P w i t
 | inr x => obtain ⟨t, e⟩ := (show ∃ t, u = Value.str x t from r); subst e; exact xe8 P w x t
theorem wv6 {P : Program} {w : World} : ∀ {ks : List Key} {us : List Value}, G3 (ks.map kV) us -> ItemsAre (P3 P w) ks us
 | [], _, r => by rw [List.map_nil] at r; cases r; exact .nil
 | k :: ks, _, r => by
   rw [List.map_cons] at r
   cases r with
   | cons h t => exact .cons (wv5 h) (wv6 t)
abbrev KT (H : Hp) : List (List Key × V) -> List (List Key × Addr × Value) -> Prop := Paired fun p q => p.1 = q.1 /\ H q.2.1 = some (.tup (p.1.map kV)) /\ G2 p.2 q.2.2
variable {kvs : List (List Key × V)}
theorem KT.val {xs : List (List Key × Addr × Value)} (r : KT H kvs xs) (k : List Key) : qr3 (T4 kvs k) ((atKey xs k).map (·.2)) := by
 induction r with
 | nil => exact True.intro
 | @cons p q ps qs h t ih =>
   obtain ⟨h1, _, h2⟩ := h
   by_cases e : p.1 = k
   ·have e' : q.1 = k := h1.symm.trans e
    have b : atKey (q :: qs) k = some q.2 := by simp [atKey, List.find?_cons, e']
    rw [S0 e, b]; exact h2
   ·have e' : ¬ q.1 = k := fun z => e (h1.trans z)
    have b : atKey (q :: qs) k = atKey qs k := by simp [atKey, List.find?_cons, e']
    rw [S1 e, b]; exact ih
theorem KT.repl {xs : List (List Key × Addr × Value)} (r : KT H kvs xs) (k : List Key) (ry : G2 y u) :
 KT H (kvs.map fun kv => if kv.1 = k then (kv.1, y) else kv) (xs.map (putAt k u)) := by
 induction r with
 | nil => exact .nil
 | @cons p q ps qs h t ih =>
   rw [List.map_cons, List.map_cons]
   refine .cons ?_ ih
   obtain ⟨h1, h2, h3⟩ := h
   unfold putAt
   by_cases e : p.1 = k
   ·rw [if_pos e, if_pos (h1.symm.trans e)]; exact ⟨h1, h2, ry⟩
   ·rw [if_neg e, if_neg (fun z => e (h1.trans z))]; exact ⟨h1, h2, h3⟩
theorem KT.put {xs : List (List Key × Addr × Value)} (r : KT H kvs xs) (k : List Key) (hb : H b = some (.tup (k.map kV))) (ry : G2 y u) :
 KT H (qm2 kvs k y) (storedH xs k b u) := by
 have e : (kvs.any fun kv => decide (kv.1 = k)) = (atKey xs k).isSome := by
  rw [qm3, (r.val k).isSome_eq, Option.isSome_map]
 unfold qm2 storedH
 rw [e]
 by_cases q : (atKey xs k).isSome = true
 ·rw [if_pos q, if_pos q]; exact r.repl k ry
 ·rw [if_neg q, if_neg q]; exact Paired.snoc r ⟨rfl, hb, ry⟩
theorem KT.keeps {xs : List (List Key × Addr × Value)} (r : KT H kvs xs) (ht : ∀ b ys, H b = some (.tup ys) -> H' b = some (.tup ys)) : KT H' kvs xs :=
 Paired.mapP r fun _ _ z => ⟨z.1, ht _ _ z.2.1, z.2.2⟩
theorem yu5 {u : HO} (ok : HOk P w H h) (e : Rd H a u) : N1 P w H h a u := e.ok ok
theorem wd5 {kvs : List (Key × V)} (ok : HOk P w H h) (e : Rd H a (.dK kvs)) : kvs.length <= sizeLine /\ (a == sysModules) = false /\ ∃ vs, KV kvs vs /\ h.DictOf (P3 P w) a vs :=
 show N1 P w H h a (.dK kvs) from yu5 ok e
theorem yd8 {kvs : List (Key × V)} (ok : HOk P w H h) (e : H a = some (.dK kvs)) : kvs.length <= sizeLine /\ (a == sysModules) = false /\ ∃ vs, KV kvs vs /\ h.DictOf (P3 P w) a vs := wd5 ok (.inl e)
theorem qz6 {ks : List Key} (ok : HOk P w H h) (e : H a = some (.tup (ks.map kV))) : (tupleKind (P3 P w)).is h ks a := by
 obtain ⟨_, its, r, o, h1, h2, n, h3⟩ := (show N1 P w H h a (.tup (ks.map kV)) from ok a _ e)
 exact ⟨o, its.toArray, n, h1, h2, h3, by simpa using wv6 r⟩
theorem wj6 (ok : HOk P w H h) (e : Rd H a (.dT kvs)) : kvs.length <= sizeLine /\ (a == sysModules) = false /\
 ∃ xs, KT H kvs xs /\ h.DictOfH (tupleKind (P3 P w)) a xs := by
 obtain ⟨z, y, xs, r, o, es, ep, h1, h2, h3, h4, h5⟩ := (show N1 P w H h a (.dT kvs) from yu5 ok e)
 refine ⟨z, y, xs, r, o, es, ep, h1, h2, h3, h4, fun x hx => ?_, h5⟩
 have all : ∀ {l : List (List Key × V)} {m : List (List Key × Addr × Value)}, KT H l m -> ∀ x ∈ m, (tupleKind (P3 P w)).is h x.1 x.2.1 := by
  intro l m q
  induction q with
  | nil => intro x hx; exact nomatch hx
  | @cons p q ps qs hq t ih =>
    intro x hx
    rcases List.mem_cons.mp hx with e | hx
    ·subst e
     exact qz6 ok (by rw [<- hq.1]; exact hq.2.1)
    ·exact ih x hx
 exact all r x hx
theorem ze9 (ok : HOk P w H h) (e : H a = some (.dT kvs)) : kvs.length <= sizeLine /\ (a == sysModules) = false /\
 ∃ xs, KT H kvs xs /\ h.DictOfH (tupleKind (P3 P w)) a xs := wj6 ok (.inl e)
def qq1 (H : Hp) (a : Addr) (y : V) (r : Option V) : Prop :=
 (∃ kvs k, Rd H a (.dK kvs) /\ y = kV k /\ r = T4 kvs k) \/ ∃ kvs k b, Rd H a (.dT kvs) /\ y = .ref b /\ H b = some (.tup (k.map kV)) /\ r = T4 kvs k
def xx7 (H : Hp) (a : Addr) (y v : V) (H' : Hp) : Prop :=
 (∃ kvs k, H a = some (.dK kvs) /\ y = kV k /\ kvs.length < sizeLine /\ H' = upd H a (.dK (qm2 kvs k v))) \/
 ∃ kvs k b, H a = some (.dT kvs) /\ y = .ref b /\ H b = some (.tup (k.map kV)) /\ kvs.length < sizeLine /\ H' = upd H a (.dT (qm2 kvs k v))
theorem qq1.k {kvs : List (Key × V)} {k : Key} (e : H a = some (.dK kvs)) : qq1 H a (kV k) (T4 kvs k) := .inl ⟨kvs, k, .inl e, rfl, rfl⟩
theorem xx7.k {kvs : List (Key × V)} {k : Key} (e : H a = some (.dK kvs)) (hl : kvs.length < sizeLine) : xx7 H a (kV k) v (upd H a (.dK (qm2 kvs k v))) := .inl ⟨kvs, k, e, rfl, hl, rfl⟩
section
variable {r : Value} {o : Option V}
theorem Inv.big (I : Inv X pins σ H s) : sysModules < s.heap.objs.size := by
 have h : mainGlobals < s.heap.objs.size := (I.mod.glob.keeps I.bk).lt
 exact Nat.lt_trans (by decide) h
theorem xx8 (hu : A.units + 1 < cLine) (I : Inv X pins σ H s) (g : qq1 H a y (some v)) (ry : G2 y u) (h : ∀ w' s', Inv X pins σ H s' -> G2 v w' -> Q w' s') :
 wpAny (model X.prog X.w) A (getItem (.ref a) u) Q E s := by
 rcases g with ⟨kvs, k, e, ey, l⟩ | ⟨kvs, k, b, e, ey, eb, l⟩
 ·subst ey
  obtain ⟨z, hd, vs, rel, dd⟩ := wd5 I.hok e
  obtain ⟨w', hw, rw'⟩ := qr3.some_of (v := v) (o := valueAt vs k) (by rw [l]; exact rel.val k)
  exact wpAny_getItem_of (wv5 ry) dd.mapOf hw (h w' _ (I.tok _) rw')
 ·subst ey
  cases (show u = Value.ref b from ry)
  obtain ⟨z, hd, xs, rel, dd⟩ := wj6 I.hok e
  obtain ⟨w', hw, rw'⟩ := qr3.some_of (v := v) (o := (atKey xs k).map (·.2)) (by rw [l]; exact rel.val k)
  obtain ⟨p, hp, hp2⟩ := Option.map_eq_some_iff.mp hw
  refine wpAny_getItem_heap (tupleKind_room_in1 hu) (qz6 I.hok eb) dd hp ?_
  rw [hp2]
  exact h w' _ (I.tok _) rw'
theorem zj6 (hu : A.units + 1 < cLine) (I : Inv X pins σ H s) (g : qq1 H a y o) (ry : G2 y u) (h : ∀ s', Inv X pins σ H s' -> Q (.bool o.isSome) s') :
 wpAny (model X.prog X.w) A (compareOp .In u (.ref a)) Q E s := by
 rcases g with ⟨kvs, k, e, ey, l⟩ | ⟨kvs, k, b, e, ey, eb, l⟩
 ·subst ey
  obtain ⟨z, hd, vs, rel, dd⟩ := wd5 I.hok e
  refine wpAny_in_of (wv5 ry) hd dd.mapOf ?_
  rw [<- (rel.val k).isSome_eq, <- l]
  exact h _ (I.tok _)
 ·subst ey
  cases (show u = Value.ref b from ry)
  obtain ⟨z, hd, xs, rel, dd⟩ := wj6 I.hok e
  refine wpAny_in_heap (tupleKind_room_in1 hu) (qz6 I.hok eb) hd dd ?_
  have q := (rel.val k).isSome_eq
  rw [Option.isSome_map] at q
  rw [<- q, <- l]
  exact h _ (I.tok _)
theorem yo8 (hu : A.units + 1 < cLine) (I : Inv X pins σ H s) (g : qq1 H a y o) (ry : G2 y u) (h : ∀ s', Inv X pins σ H s' -> Q (.bool (!o.isSome)) s') :
 wpAny (model X.prog X.w) A (compareOp .NotIn u (.ref a)) Q E s := by
 rcases g with ⟨kvs, k, e, ey, l⟩ | ⟨kvs, k, b, e, ey, eb, l⟩
 ·subst ey
  obtain ⟨z, hd, vs, rel, dd⟩ := wd5 I.hok e
  refine wpAny_notIn_of (wv5 ry) hd dd.mapOf ?_
  rw [<- (rel.val k).isSome_eq, <- l]
  exact h _ (I.tok _)
 ·subst ey
  cases (show u = Value.ref b from ry)
  obtain ⟨z, hd, xs, rel, dd⟩ := wj6 I.hok e
  refine wpAny_notIn_heap (tupleKind_room_in1 hu) (qz6 I.hok eb) hd dd ?_
  have q := (rel.val k).isSome_eq
  rw [Option.isSome_map] at q
  rw [<- q, <- l]
  exact h _ (I.tok _)
theorem xr6 {ob : HO} (I : Inv X pins σ H s) (mu : Mut (H a)) (hs : Heap.SameBut a s.heap h') (he : ∃ q, h'.get? a = some q) (new : N1 X.prog X.w (upd H a ob) h' a ob) (ht : autoParam (0 < t') zAt) :
 Inv X pins σ (upd H a ob) { s with heap := h', toks := t' } :=
 I.write (x := a) (e := a) mu (.inl rfl) (fun b q hb z => (hs.2 b hb).trans z) he new
theorem yy2 {kvs : List (Key × V)} {vs : List (Key × Value)} (z : kvs.length <= sizeLine) (hd : (a == sysModules) = false) (rel : KV kvs vs) (dd : h'.DictOf (P3 P w) a vs) :
 N1 P w H' h' a (.dK kvs) := ⟨z, hd, vs, rel, dd⟩
theorem xx9 {Q : Unit -> Shared -> Prop} (hu : A.units + 1 < cLine) (I : Inv X pins σ H s) (g : xx7 H a y v H') (ry : G2 y u) (rv : G2 v r) (h : ∀ s', Inv X pins σ H' s' -> Q () s') :
 wpAny (model X.prog X.w) A (setItem (.ref a) u r) Q E s := by
 rcases g with ⟨kvs, k, e, ey, l, eH⟩ | ⟨kvs, k, b, e, ey, eb, l, eH⟩
 ·subst ey eH
  obtain ⟨z, hd, vs, rel, dd⟩ := yd8 I.hok e
  have hz : vs.length <= sizeLine := by rw [<- rel.length]; exact z
  have hl : (qm2 kvs k v).length <= sizeLine := by have := wd4 kvs k v; omega
  refine wpAny_setItem_pairs (hsz := hz) (wv5 ry) dd fun h' dd' hs => h _ ?_
  have he : ∃ q, h'.get? a = some q := let ⟨q, _, _, hq, _⟩ := dd'; ⟨q, hq⟩
  exact xr6 I (by rw [e]; exact True.intro) hs he (yy2 hl hd (rel.put k rv) dd')
 ·subst ey eH
  cases (show u = Value.ref b from ry)
  obtain ⟨z, hd, xs, rel, dd⟩ := ze9 I.hok e
  have hz : xs.length <= sizeLine := by rw [<- Paired.length rel]; exact z
  have hl : (qm2 kvs k v).length <= sizeLine := by have := wd4 kvs k v; omega
  refine wpAny_setItem_heap (hsz := hz) (tupleKind_room_in1 hu) (qz6 I.hok eb) dd fun h' dd' hs => h _ ?_
  obtain ⟨q, es, ep, hq, h2, h3, h4, _, h5⟩ := dd'
  refine xr6 I (by rw [e]; exact True.intro) hs ⟨q, hq⟩ ⟨hl, hd, _, (rel.put k eb rv).keeps fun c ys ec => ?_, q, es, ep, hq, h2, h3, h4, h5⟩
  rw [C4 (zd5 ec e (fun z => nomatch z))]
  exact ec
end
section
variable {kvs : List (Key × V)} {k : Key}
theorem zf0 (I : Inv X pins σ H s) (e : Rd H a (.dK kvs)) (h : ∀ t s', Inv X pins σ H s' -> Q (.int kvs.length t) s') : wpAny (model X.prog X.w) A (call (.builtin "len") [.ref a]) Q E s := by
 obtain ⟨z, hd, vs, rel, dd⟩ := wd5 I.hok e
 refine call_len_dict hd dd (by rw [<- rel.length]; rw [sizeLine_eq] at z; omega) ?_
 rw [<- rel.length]
 exact h _ _ (I.tok _)
end
def zf1 (i : Expr) : Prop := ∀ ov iv, subscripted i false ov iv = operate [ov, iv] (getItem ov iv)
variable {value : Expr}
theorem yo9 {slice : Expr} {id : String} (hl : typeLookup (.type T) "__getitem__" = pure (some (.builtin id))) (hs : zf1 slice) (h : wpAny (model prog w) A (eval value env) (fun o s₁ => wpAny (model prog w) A (eval slice env) (fun i s₂ => s₂.TypeIs o T /\ wpAny (model prog w) A (getItem o i) Q E s₂) E s₁) E s) :
 wpAny (model prog w) A (eval (.Subscript value slice pos) env) Q E s := by
 refine Subscript_ (wpAny_mono h (fun o s₁ h₁ => wpAny_mono h₁ (fun i s₂ h₂ => ?_) fun _ _ x => x) fun _ _ x => x)
 obtain ⟨hT, h₂⟩ := h₂
 unfold subscriptTail
 refine wpAny_bind ?_
 rw [getitemInPython_of_ne hT.not_modules]
 refine wpAny_bind (wpAny_specialOf hT hl ?_)
 have fin : wpAny (model prog w) A (subscripted slice false o i) (fun r s₃ => wpAny (model prog w) A (letTemporaryGo value o r >>= fun _ => pure r) Q E s₃) E s₂ := by
  rw [hs o i]
  exact wpAny_operating (wpAny_mono h₂ (fun r s₃ h₃ => wpAny_bind (wpAny_letTemporaryGo (wpAny_pure h₃))) fun _ _ x => x)
 first
  | exact wpAny_pure (wpAny_bind fin)
  | exact wpAny_bind (wpAny_pure (wpAny_bind fin))
  | exact wpAny_bind fin
theorem xf3 {o : Option V} (I : Inv X pins σ H s) (g : qq1 H a y o) : s.TypeIs (.ref a) "dict" := by
 rcases g with ⟨kvs, k, e, _, _⟩ | ⟨kvs, k, b, e, _, _, _⟩
 ·obtain ⟨_, _, vs, _, dd⟩ := wd5 I.hok e
  exact dd.typeIs
 ·obtain ⟨_, _, xs, _, dd⟩ := wj6 I.hok e
  exact dd.typeIs
def yd9 (td ty : TE) : TE := fun σ H Q => td σ H fun x H1 => ty σ H1 fun y H2 => ∃ a v, x = .ref a /\ qq1 H2 a y (some v) /\ Q v H2
variable {td tv ty : TE} {tpos : Pos}
section
variable {o i : Expr}
theorem yp0 (hu : X.A.units + 1 < cLine) (ho : PE X o td) (hi : PE X i ty) (hs : zf1 i) : PE X (.Subscript o i pos) (yd9 td ty) := by
 intro pins s σ H Q I h
 refine yo9 PySem.F.slot_dict_getitem.lookup hs (thn (ho pins s σ H _ I h) fun u s1 ⟨x, H1, I1, rx, q1⟩ => thn (hi pins s1 σ H1 _ I1 q1) fun iv s2 zq => ?_)
 obtain ⟨y, H2, I2, ry, a, v, ex, g, q2⟩ := zq
 subst ex
 obtain rfl : u = Value.ref a := rx
 exact ⟨xf3 I2 g, xx8 hu I2 g ry fun w' s3 I3 rw' => ⟨v, H2, I3, rw', q2⟩⟩
end
theorem ye0 (h : Heap) (hb : sysModules < h.objs.size) : N1 P w H (h.push { cls := .type "dict", data := .dict #[] }) h.objs.size (.dK []) :=
 ⟨Nat.zero_le _, beq_eq_false_iff_ne.mpr (Ne.symm (Nat.ne_of_lt hb)), [], .nil, Heap.DictOf.new h⟩
def xn1 : TE := fun _ H Q => ∀ p, H p = none -> Q (.ref p) (upd H p (.dK []))
theorem xf4 : PE X (.Dict [] [] pos) xn1 := fun pins s σ H Q I h =>
 wpAny_Dict_empty ⟨.ref s.heap.objs.size, _, I.laid (a := s.heap.objs.size) (o := .dK []) (t' := s.toks) (fun _ _ q => Heap.get?_push_of_some _ q) (Nat.le_refl _) (ye0 s.heap I.big), rfl, h _ (I.hok.fresh (Nat.le_refl _))⟩
structure M2 (X : Cx) (o : Expr) (m : Str) (apos : Pos) (e f : Expr) (cpos : Pos) : Prop where
 base : attributeBase o m X.env (eval o X.env) = eval o X.env
 few : ((backTo cpos (starEach [e, f] X.env)).all (fun x => !x.1) && (backToKw cpos (keywordEach [] X.env)).all (fun x => x.1.isSome)
  && decide (([e, f] : List Expr).length + ([] : List Keyword).length + (if ([] : List Keyword).isEmpty then 0 else 1) < 30)) = true
 line : (apos.endLine == cpos.line) = true
 trees : backTo cpos (starEach [e, f] X.env) = [(false, eval e X.env), (false, eval f X.env)]
def IsD (H : Hp) (a : Addr) : Prop := (∃ kvs, Rd H a (.dK kvs)) \/ ∃ kvs, Rd H a (.dT kvs)
theorem yy3 (I : Inv X pins σ H s) (d : IsD H a) :
 s.TypeIs (.ref a) "dict" /\ (∀ b, Value.ref a = .ref b -> ∃ ob, s.heap.get? b = some ob /\ ob.dict = none) /\ (a == sysModules) = false := by
 rcases d with ⟨kvs, e⟩ | ⟨kvs, e⟩
 ·obtain ⟨_, hd, vs, _, dd⟩ := wd5 I.hok e
  refine ⟨dd.typeIs, fun b q => ?_, hd⟩
  cases q
  obtain ⟨ob, _, _, h1, h2, _⟩ := dd
  exact ⟨ob, h1, h2.2.1⟩
 ·obtain ⟨_, hd, xs, _, dd⟩ := wj6 I.hok e
  refine ⟨dd.typeIs, fun b q => ?_, hd⟩
  cases q
  obtain ⟨ob, _, _, h1, h2, _⟩ := dd
  exact ⟨ob, h1, h2.2.1⟩
section
variable {d : V} {r : Value} {o : Option V}
theorem yy4 (hu : A.units + 1 < cLine) (I : Inv X pins σ H s) (g : qq1 H a y o) (ry : G2 y u) (rd : G2 d r) (h : ∀ w' s', Inv X pins σ H s' -> G2 (o.getD d) w' -> Q w' s') :
 wpAny (model X.prog X.w) A (call (.builtin "dict.get") [.ref a, u, r]) Q E s := by
 rcases g with ⟨kvs, k, e, ey, l⟩ | ⟨kvs, k, b, e, ey, eb, l⟩
 ·subst ey
  obtain ⟨z, hd, vs, rel, dd⟩ := wd5 I.hok e
  refine call_meetsIn PySem.F.slot_dict_get dd.typeIs PySem.F.entry_dict_get (PySem.F.args_dict_get_3 _ _ _) (meets_dict_get_default (P3 X.prog X.w) a (wv5 ry) hd r) ⟨_, dd.mapOf, h _ _ (I.tok _) ?_⟩
  rw [l]
  exact (rel.val k).getD rd
 ·subst ey
  cases (show u = Value.ref b from ry)
  obtain ⟨z, hd, xs, rel, dd⟩ := wj6 I.hok e
  refine call_meetsIn PySem.F.slot_dict_get dd.typeIs PySem.F.entry_dict_get (PySem.F.args_dict_get_3 _ _ _) (meetsH_dict_get_default (tupleKind (P3 X.prog X.w)) a b hd r) ⟨tupleKind_room_in1 hu, k, xs, qz6 I.hok eb, dd, h _ _ (I.tok _) ?_⟩
  rw [l]
  exact (rel.val k).getD rd
end
def wj7 (td ty tx : TE) : TE := fun σ H Q => td σ H fun x H1 => ∃ a, x = .ref a /\ IsD H1 a /\ ty σ H1 fun y H2 => tx σ H2 fun z H3 => ∃ o, qq1 H3 a y o /\ Q (o.getD z) H3
variable {tx : TE}
section
variable {o f : Expr}
theorem xf5 (hu : X.A.units + 1 < cLine) (ho : PE X o td) (he : PE X e ty) (hf : PE X f tx) (m : M2 X o "get" apos e f cpos) : PE X (.Call (.Attribute o "get" apos) [e, f] [] cpos) (wj7 td ty tx) := by
 intro pins s σ H Q I h
 refine wpAny_Call_method m.base m.few m.line PySem.F.plainAttrs_dict PySem.F.slot_dict_get PySem.F.type_dict_get (thn (ho pins s σ H _ I h) fun u s1 zq => ?_)
 obtain ⟨x, H1, I1, rx, a, ex, d, q1⟩ := zq
 subst ex
 obtain rfl : u = Value.ref a := rx
 obtain ⟨t1, t2, _⟩ := yy3 I1 d
 refine ⟨t1, t2, ?_⟩
 rw [m.trees]
 refine Calls.callWith_builtin rfl (Calls.evalArgs_plain (Calls.spliced_cons (thn (he pins s1 σ H1 _ I1 q1) fun iv s2 ⟨y, H2, I2, ry, q2⟩ =>
  Calls.spliced_cons (thn (hf pins s2 σ H2 _ I2 q2) fun fv s3 ⟨z, H3, I3, rz, ov, g, q3⟩ => Calls.spliced_nil ?_))))
 exact yy4 hu I3 g ry rz fun w' s4 I4 rw' => ⟨_, H3, I4, rw', q3⟩
end
namespace Att
open PySem PySem.W PySem.Calls PyProof.Rows
theorem wf1 {P : Params} {h : Heap} : ∀ (ns : List Int) (vs : List Value), WellAll P h vs (ns.map WData.int) -> IntsAre vs ns := by
 intro ns
 induction ns with
 | nil =>
   intro vs w
   rw [List.map_nil] at w
   cases w
   exact .nil
 | cons n ns ih =>
   intro vs w
   rw [List.map_cons] at w
   cases w with
   | cons a b =>
     cases a
     exact .cons _ _ (ih _ b)
theorem script_of {l : OpenLaw} {n : Nat} (hn : l.most = some n) {P : Params} {h : Heap} {args : List WData} {vals : List Value}
 (hpre : l.row.toRowW.claim.pre args = true) (hwl : WellAll P h vals args) :
 ∃ a vs ns, vals = [Value.ref a] /\ args = [WData.list (ns.map WData.int)] /\ h.get? a = some { cls := .type "list", data := .seq vs.toArray } /\ IntsAre vs ns /\ ns.length <= n := by
 have hsh : WShape.hasAll [] args [.list .int] = true := (pre_splitW hpre).1
 have hc : l.pre.holds [] { args := args } = true := (pre_splitW hpre).2
 obtain ⟨d, r, rfl, h1, h2⟩ := hasAllW_cons hsh
 obtain rfl := hasAllW_nil h2
 obtain ⟨xs, rfl, h3⟩ := hasW_list h1
 obtain ⟨ns, rfl⟩ := items_int h3
 have hlen : ns.length <= n := by
  unfold OpenLaw.pre at hc
  have h4 : (WTm.not (.lt (.lit (.int (n : Int))) (.len (.arg 0)))).holds [] { args := [.list (ns.map .int)] } = true := by
   have h4 := (holds_andW hc).1
   rw [hn] at h4
   exact h4
  have h5 := condW_of h4 (w_not (w_lt w_lit (w_len_list (w_arg rfl))))
  rw [List.length_map] at h5
  refine Nat.le_of_not_lt fun q => ?_
  have q' : (n : Int) < ((ns.length : Nat) : Int) := by omega
  first
   | (rw [decide_eq_true q'] at h5; exact absurd h5 (by decide))
   | (simp at h5; omega)
 cases hwl with
 | cons w1 w2 =>
   cases w2
   cases w1 with
   | list ho hall => exact ⟨_, _, ns, rfl, rfl, ho, wf1 ns _ hall, hlen⟩
theorem post_true (l : OpenLaw) (args : List WData) : l.row.toRowW.claim.post args (.bool true) args = true :=
 postW_of (r := l.row.toRowW) (X := (true == true))
  (show WShape.has [] (.bool true) .bool = true by first | rfl | decide | simp [WShape.has, WShape.arms, WShape.armsAll])
  (show (WTm.eq .res (.lit (.bool true))).value [] { args := args, res := some (.bool true), after := args } = some (.bool (true == true)) from w_eq_bool (w_res rfl) w_lit) rfl
end Att
theorem wv7 : ∀ {vs : List Value} {ns : List Int}, IntsAre vs ns -> G3 (ns.map V.int) vs
 | _, _, .nil => .nil
 | _, _, .cons n t h => .cons ⟨t, rfl⟩ (wv7 h)
def yy5 (H : Hp) : Prop := ∀ b, H b = none \/ ∃ o xs, H b = some (.frz o (.lst xs))
variable {vs : List Value}
theorem ye1 {mb : Str -> Option Value} {k : Nat} {fa : Addr} {s₁ : Shared} {ns : List Int} (KX : K.In s₁.heap) (hns : s₁.heap.Ns mainGlobals mg) (hb : s₁.heap.Ns builtinsNs mb) (hbb : ∀ x : Str, x ≠ "__name__" -> mb x = bootBuiltins x) (hlim : s₁.heap.NoLimit) (hg : s₁.gens = #[]) (htk : 0 < s₁.toks) (ha : s₁.heap.get? a = some { cls := .type "list", data := .seq vs.toArray }) (hi : IntsAre vs ns) (hl : ns.length <= sizeLine) (hr : qa4 k callerA) (F : ∀ base : Heap, K.In base -> base.Ns mainGlobals mg -> N5 P w K mg base CX k fa fd [x] sp) (hbind : ∀ (s : Shared) (u : Value), BindsTo s fd ⟨[u], []⟩ [(x, u)]) (hsp : ∀ H : Hp, yy5 H -> SqL K H a (ns.map V.int) -> sp [.ref a] H (fun v _ => v = .bl true) fun _ _ _ => False) (hCX : ∀ H e s', CX [] H s₁ (fun _ _ _ => False) e s' -> False) :
 codeAny (model P w) callerA (.call (.ref fa) ⟨[.ref a], []⟩) (fun r s' => r = .ok (.ret (.bool true)) /\ OldK s₁.heap s'.heap /\ s'.os = s₁.os /\ AllBare s'.gens) s₁ := by
 have rv := wv7 hi
 have lenV := hi.length
 have core : ∀ H : Hp, yy5 H -> SqL K H a (ns.map V.int) -> HOk P w H s₁.heap -> (∀ b, H b ≠ none -> b = a) -> (H a ≠ none -> K.lookup a = none) ->
  codeAny (model P w) callerA (.call (.ref fa) ⟨[.ref a], []⟩) (fun r s' => r = .ok (.ret (.bool true)) /\ OldK s₁.heap s'.heap /\ s'.os = s₁.os /\ AllBare s'.gens) s₁ := by
  intro H hO hS hok hA hK
  have base_of : ∀ {b : Addr} {o : Obj}, s₁.heap.get? b = some o -> H b = none -> (wx0 s₁.heap H).get? b = some o := fun e n => yc2 e n
  have noA : ∀ {b : Addr} {o : Obj} {es : Array DictEntry} {ep : Nat}, s₁.heap.get? b = some o -> o.data = .dict es ep -> H b = none := fun {b o es ep} e d => by
   cases q : H b with
   | none => rfl
   | some u =>
     have e' : b = a := hA b (by rw [q]; simp)
     subst e'
     rw [ha] at e; cases e
     have d' : Data.seq vs.toArray _ = Data.dict es ep := d
     cases d'
  have nsK : ∀ {b : Addr} {m : Str -> Option Value}, s₁.heap.Ns b m -> (wx0 s₁.heap H).Ns b m := fun {b m} ⟨o, es, ep, e, d, r⟩ => ⟨o, es, ep, base_of e (noA e d), d, r⟩
  have hKb : K.In (wx0 s₁.heap H) := fun b o e => base_of (KX b o e) (by
   cases q : H b with
   | none => rfl
   | some u =>
     have e' : b = a := hA b (by rw [q]; simp)
     subst e'
     rw [hK (by rw [q]; simp)] at e; cases e)
  have hM : Mod K mg (wx0 s₁.heap H) := ⟨hKb, nsK hns, ⟨mb, nsK hb, hbb⟩, let ⟨mc, h1, h2⟩ := hlim; ⟨mc, nsK h1, h2⟩⟩
  have e0 : xm6 P w K mg (wx0 s₁.heap H) callerA [] s₁ H := ⟨rfl, hM, fun b o e => yn6 e, Nat.le_of_eq (xw2 _ _), trivial, fun b hb => absurd (show b ∈ ([] : List Addr) from hb) (by simp), hok, .of_eq hg, htk⟩
  refine codeAny_mono ((F _ hKb (nsK hns)).run callerA [] s₁ H ⟨[.ref a], []⟩ [.ref a] [.ref a] _ _ hr e0 (hbind s₁ (.ref a)) (.cons rfl .nil) (hsp H hO hS)) fun r s' h => ?_
  cases r with
  | error e => exact (hCX H e s' h).elim
  | ok fl =>
    cases fl with
    | next => exact False.elim h
    | brk => exact False.elim h
    | cont => exact False.elim h
    | ret u =>
      obtain ⟨v, H', _, os, bare, un, hok', r', q⟩ := h
      have q' : v = .bl true := q
      subst q'
      obtain rfl : u = Value.bool true := r'
      refine ⟨rfl, OldK.of_keep fun b o e => ?_, os, bare⟩
      cases q : H b with
      | none => exact un.keep b o e q (by intro z; exact absurd (show b ∈ ([] : List Addr) from z) (by simp)) (by simp)
      | some u =>
        rcases hO b with z | ⟨ob, xs, z⟩
        ·rw [q] at z; cases z
        ·have z2 := un.frzs b ob _ z
         obtain ⟨e1, _⟩ := hok b _ z
         obtain ⟨e2, _⟩ := hok' b _ z2
         rw [e] at e1; cases e1
         exact e2
 cases hk : K.lookup a with
 | some o =>
   have e := KX a o hk
   rw [ha] at e
   cases e
   refine core (fun _ => none) (fun _ => .inl rfl) (.inr ⟨_, vs.toArray, _, hk, rfl, rfl, rfl, by rw [List.size_toArray, lenV]; exact hl, by simpa using rv⟩) (fun b u z => by have z' : (none : Option HO) = some u := z; cases z') (fun b z => absurd rfl z) fun z => absurd rfl z
 | none =>
   refine core (fun b => if b = a then some (.frz { cls := .type "list", data := .seq vs.toArray } (.lst (ns.map V.int))) else none) (fun b => ?_) (.inl (.inr ⟨{ cls := .type "list", data := .seq vs.toArray }, if_pos rfl⟩)) (fun b u z => ?_) (fun b z => ?_) fun _ => hk
   ·by_cases hb : b = a
    ·exact .inr ⟨_, _, if_pos hb⟩
    ·exact .inl (if_neg hb)
   ·by_cases hb : b = a
    ·have z' := (if_pos hb).symm.trans z
     cases z'
     subst hb
     exact ⟨ha, by rw [List.length_map]; exact hl, vs, _, rv, ha⟩
    ·have z' := (if_neg hb).symm.trans z
     cases z'
   ·by_cases hb : b = a
    ·exact hb
    ·exact absurd (if_neg hb) z
theorem wj8 : ∀ ns : List Int, PySem.W.ofPys (ns.map PyData.int) = ns.map PySem.W.WData.int
 | [] => by simp [PySem.W.ofPys]
 | n :: ns => by simp only [List.map_cons, PySem.W.ofPys, PySem.W.ofPy]; rw [wj8 ns]
variable {as : List Addr}
theorem yp1 {l : PySem.W.OpenLaw} {k : Nat} {q : Program} {loose : List Str} {XP : (Str -> Option Value) -> Heap -> Prop} {z t : Nat} {d : DefRec} {K : Params -> Fg} {CX : World -> CXT} {sp : World -> Sp} (hn : l.most = some n) (hn2 : n <= sizeLine) (hdf : d.params.defaults = []) (hr : qa4 k callerA) (hk : ∀ P, as = (K P).map (·.1)) (h0 : 0 < t) (F : ∀ (w : World) (mg : Str -> Option Value) (fa : Addr) (h : Heap), (K w.params).In h -> h.Ns mainGlobals mg -> mg d.name = some (.ref fa) ->
  ∃ fd : FuncData, (∀ (s : Shared) (u : Value), BindsTo s fd ⟨[u], []⟩ [(x, u)]) /\
   ∀ base : Heap, (K w.params).In base -> base.Ns mainGlobals mg -> N5 l.prog w (K w.params) mg base (CX w) k fa fd [x] (sp w)) (hsp : ∀ (w : World) (H : Hp) (a : Addr) (ns : List Int), ns.length <= n -> yy5 H -> SqL (K w.params) H a (ns.map V.int) -> sp w [.ref a] H (fun v _ => v = .bl true) fun _ _ _ => False) (hCX : ∀ (w : World) (H : Hp) (s : Shared) (e : Value) (s' : Shared), CX w [] H s (fun _ _ _ => False) e s' -> False) :
 PySem.W.WalkX q loose XP (PySem.W.X.obsZ as) (PySem.W.X.valZ K z t) l.row.toRowW d [] (fun f vs => PySem.call f vs) := by
 intro w s₀ s₁ mg mb G y fa o pm cd doc dV kV ho hd hcd hD hmg hg args vals aa L hpre hlay hrd hwl hlo
 obtain rfl : dV = .none := PySem.W.Dflts.none hD hdf
 obtain rfl : kV = .none := PySem.W.Dflts.noKw hD
 obtain ⟨a, vs, ns, rfl, rfl, hobj, hints, hlen⟩ := Att.script_of hn hpre hwl
 obtain ⟨_, KI, _, htk⟩ := PySem.W.X.z_facts hk y
 have KX := PySem.W.InK.keeps w _ _ KI L.keeps
 have tk : 0 < s₁.toks := Nat.lt_of_lt_of_le h0 (PySem.W.X.script_toks (ns := ns) (a := a) (by rw [PySem.W.ofPy, wj8]; exact L) htk)
 obtain ⟨fd, hb, hF⟩ := F w mg fa _ KX G.T.g hmg
 refine PySem.W.enter_call (codeAny_mono (ye1 KX G.T.g G.T.b G.T.builtins G.T.nolimit hg tk hobj hints (Nat.le_trans hlen hn2) hr hF hb (fun H hO hS => hsp w H a ns hlen hO hS) fun H e s' => hCX w H s₁ e s') fun r s' hq => ?_)
 obtain ⟨rfl, h2, h3, h4⟩ := hq
 exact ⟨.inl ⟨.bool true, .bool true, [], rfl, fun _ => rfl, .bool true, Att.post_true l _, fun _ => ⟨List.Pairwise.nil, fun _ hm => (nomatch hm)⟩⟩, h2, h3, h4⟩
def qu1 (s : Stmt) : Arguments := match s with
 | .FunctionDef _ a _ _ _ _ _ _ _ _ => a
 | _ => { posonlyargs := [], args := [], vararg := none, kwonlyargs := [], kw_defaults := [], kwarg := none, defaults := [] }
def qi4 (s : Stmt) : List Stmt := match s with
 | .FunctionDef _ _ b _ _ _ _ _ _ _ => b
 | _ => []
def B8 (s : Stmt) : Scope := match s with
 | .FunctionDef _ _ _ _ _ _ sc _ _ _ => sc
 | _ => { kind := .function, names := [], isGenerator := false, isCoroutine := false }
abbrev CX0 : CXT := fun _ _ _ _ _ _ => False
abbrev E0 : XK := fun _ _ _ => False
theorem E5 : wx6 CX0 X E0 := fun _ _ _ _ _ _ _ h => h.elim
structure Fun (K : Fg) (x qual : Str) (st : Stmt) (f : Addr) (fd : FuncData) : Prop where
 ex : ∃ (oc : Value) (od : Option Addr) (kV doc pm : Value) (an : Option Addr) (cdv ct : Value) (osl : Array (Option Value)),
  fd = PySem.W.fnOf x qual (qu1 st) (qi4 st) (B8 st) .none kV doc pm an cdv ct /\ K.lookup f = some ⟨oc, od, .func fd, osl⟩ /\ PySem.W.codeIn K cdv qual = true
 kp : PySem.W.keepIn K (.ref f) = true
section
variable {base : Heap}
theorem Fun.ok {f : Addr} {k : Nat} (F : Fun K x qual st f fd) (S : E4 N ps (B8 st)) (len : ∀ vs H Q E, sp vs H Q E -> vs.length = ps.length) (hbody : ∀ (cdv : Value) (A : Around) (outer : List Env) (s : Shared) (H : Hp) (vs : List V) (Q : VK) (E : XK), qa4 k (A.deeper (envOfC qual (B8 st) s.heap.objs.size f cdv)) -> sp vs H Q E ->
  ∃ t, PSs (qt7 CX0 P w K mg base N qual (B8 st) f cdv A outer s H E).nox (qi4 st) t /\ t { nx := fun _ H' => Q .non H', rt := Q } (I9 N vs) H) : N5 P w K mg base CX0 (k + 1) f fd ps sp := by
 obtain ⟨oc, od, kV, doc, pm, an, cdv, ct, osl, rfl, lk, hcd⟩ := F.ex
 refine yu3 lk hcd S len fun A outer s H vs Q E hr hsp => ?_
 obtain ⟨t, h, q⟩ := hbody cdv A outer s H vs Q E hr hsp
 exact ⟨t, h.nox, q⟩
theorem Fun.binds {f : Addr} (F : Fun K x qual st f fd) (h : ∀ (kV doc pm : Value) (an : Option Addr) (cdv ct : Value) (us : List Value), us.length = ps.length -> bindArgs (PySem.W.fnOf x qual (qu1 st) (qi4 st) (B8 st) .none kV doc pm an cdv ct) ⟨us, []⟩ = pure (ps.zip us)) : qq6 K fd ps [] := by
 obtain ⟨oc, od, kV, doc, pm, an, cdv, ct, osl, rfl, lk, hcd⟩ := F.ex
 exact .all (h kV doc pm an cdv ct)
theorem yy6 {f : Addr} {kV : Value} (l : K.lookup f = some ⟨oc, od, .func (PySem.W.fnOf x qual (qu1 st) (qi4 st) (B8 st) .none kV doc pm an cdv ct), osl⟩) (c : PySem.W.codeIn K cdv qual = true) (k : PySem.W.keepIn K (.ref f) = true) : Fun K x qual st f (PySem.W.fnOf x qual (qu1 st) (qi4 st) (B8 st) .none kV doc pm an cdv ct) := ⟨⟨oc, od, kV, doc, pm, an, cdv, ct, osl, rfl, l, c⟩, k⟩
end
theorem C6 {k : Nat} (hr : qa4 k A) : A.units + 1 < cLine := Nat.lt_of_le_of_lt (Nat.add_le_add_left (by decide : 1 <= 64) _) hr.units
theorem xy0 (h : n <= 1000) : n < sizeLine := Nat.lt_of_le_of_lt h (by decide)
theorem pv (i : Nat) (hN : autoParam (X.N[i]? = some x) zAr) (hv : Vis X.env.scope x := by first | exact Or.inl rfl | exact Or.inr (Or.inl rfl) | exact Or.inr (Or.inr rfl)) (hd : autoParam ((x == ("__debug__" : Str)) = false) zAd) (hcd : autoParam ((x == ("__classdict__" : Str)) = false) zAd) : PE X (.Name x pos) (B1 i) := yw5 hN hv hd hcd
theorem qz7 {A B : Prop} (h : B) : if false = true then A else B := by
 rw [if_neg Bool.false_ne_true]
 exact h
theorem wy2 {A B : Prop} (h : A) : if true = true then A else B := by
 rw [if_pos rfl]
 exact h
def A7 (H H' : Hp) : Prop := ∀ b o, H b = some o -> H' b = some o
theorem A7.refl (H : Hp) : A7 H H := fun _ _ h => h
theorem A7.seq (e : A7 H H') (h : SqL K H a xs) : SqL K H' a xs := by
 rcases h with (h | ⟨o, h⟩) | h
 ·exact .inl (.inl (e _ _ h))
 ·exact .inl (.inr ⟨o, e _ _ h⟩)
 ·exact .inr h
theorem xy1 : Q7 X (.builtin "len") (fun xs H Q => ∃ a kvs, xs = [V.ref a] /\ H a = some (.dK kvs) /\ Q (.int kvs.length) H) := by
 intro pins s σ H xs us Q I r h
 obtain ⟨a, kvs, rfl, ha, q⟩ := h
 obtain ⟨u, rfl, ru⟩ := qd0 r
 cases ru
 exact zf0 I (.inl ha) fun t s' I' => ⟨.int kvs.length, H, I', ⟨t, rfl⟩, q⟩
theorem noE {t : Sem α} {Q : α -> Shared -> Prop} (h : wpAny M A t Q (fun _ _ => False) s) : wpAny M A t Q E s :=
 wpAny_mono h (fun _ _ q => q) fun _ _ z => False.elim z
theorem qr4 {env : Env} : ∀ (names : List (Str × NameKind)) (acc : List (Str × Addr)), (∀ y ∈ names, y.2 = .free -> ∃ c, env.cells.lookup y.1 = some c) -> (∀ x c, acc.lookup x = some c -> env.cells.lookup x = some c) ->
 ∃ cl, (forIn names acc fun (x : Str × NameKind) (r : List (Str × Addr)) =>
  (if (x.2 == .free) = true then (do let a <- cellOf env x.1; pure (ForInStep.yield ((x.1, a) :: r))) else pure (ForInStep.yield r) : Sem (ForInStep (List (Str × Addr))))) = (pure cl : Sem (List (Str × Addr))) /\
  (∀ x c, cl.lookup x = some c -> env.cells.lookup x = some c) /\ (∀ x, (∃ c, acc.lookup x = some c) -> ∃ c, cl.lookup x = some c) /\ ∀ y ∈ names, y.2 = .free -> ∃ c, cl.lookup y.1 = some c
 | [], acc, _, h2 => ⟨acc, by rw [List.forIn_nil], h2, fun _ h => h, fun _ h => by cases h⟩
 | (n, k) :: r, acc, h1, h2 => by
   by_cases hk : k = .free
   ·subst hk
    obtain ⟨c, hc⟩ := h1 (n, .free) List.mem_cons_self rfl
    obtain ⟨cl, e, q1, q2, q3⟩ := qr4 r ((n, c) :: acc) (fun y hy => h1 y (List.mem_cons_of_mem _ hy)) (fun x d hd => by
     rw [List.lookup_cons] at hd
     cases hx : x == n with
     | true => rw [hx] at hd; cases hd; rw [beq_iff_eq.mp hx]; exact hc
     | false => rw [hx] at hd; exact h2 x d hd)
    refine ⟨cl, ?_, q1, fun x hx => q2 x ?_, fun y hy hf => ?_⟩
    ·rw [List.forIn_cons]
     have e0 : cellOf env n = pure c := by unfold cellOf; rw [hc]
     simp only [beq_self_eq_true, if_true, e0]
     exact e
    ·rw [List.lookup_cons]
     cases x == n with
     | true => exact ⟨c, rfl⟩
     | false => exact hx
    ·rcases List.mem_cons.mp hy with rfl | hy
     ·exact q2 n ⟨c, by rw [List.lookup_cons]; simp⟩
     ·exact q3 y hy hf
   ·obtain ⟨cl, e, q1, q2, q3⟩ := qr4 r acc (fun y hy => h1 y (List.mem_cons_of_mem _ hy)) h2
    refine ⟨cl, ?_, q1, q2, fun y hy hf => ?_⟩
    ·rw [List.forIn_cons]
     have hb : (k == NameKind.free) = false := by simpa using hk
     simp only [hb, Bool.false_eq_true, if_false]
     exact e
    ·rcases List.mem_cons.mp hy with rfl | hy
     ·exact absurd hf hk
     ·exact q3 y hy hf
theorem qq7 (h : ∀ y ∈ scope.names, y.2 = .free -> ∃ c, env.cells.lookup y.1 = some c) :
 ∃ cl, closureFor scope env = pure cl /\ (∀ x c, cl.lookup x = some c -> env.cells.lookup x = some c) /\ ∀ y ∈ scope.names, y.2 = .free -> ∃ c, cl.lookup y.1 = some c := by
 obtain ⟨cl, e, q1, _, q3⟩ := qr4 (env := env) scope.names [] h (fun x c hc => by simp at hc)
 refine ⟨cl, ?_, q1, q3⟩
 unfold closureFor
 simp only []
 rw [show (forIn scope.names ([] : List (Str × Addr)) fun (x : Str × NameKind) (r : List (Str × Addr)) =>
  (match x with | (name, kind) => if (kind == .free) = true then (do let a <- cellOf env name; pure (ForInStep.yield ((name, a) :: r))) else pure (ForInStep.yield r) : Sem (ForInStep (List (Str × Addr))))) = (pure cl : Sem (List (Str × Addr))) from e]
 rfl
theorem qa7 {env : Env} : ∀ {names : List (Str × NameKind)} {x : Str}, names.lookup x = some .free ->
 (names.map fun (n, k) => if (k == NameKind.free && env.scope.kind == .function && env.kindOf n == some .cell) then (n, NameKind.cell) else (n, k)).lookup x = some .cell \/
 (names.map fun (n, k) => if (k == NameKind.free && env.scope.kind == .function && env.kindOf n == some .cell) then (n, NameKind.cell) else (n, k)).lookup x = some .free
 | [], _, h => by simp at h
 | (n, k) :: r, x, h => by
   have ih := @qa7 env r x
   show List.lookup x ((if (k == NameKind.free && env.scope.kind == .function && env.kindOf n == some .cell) = true then (n, NameKind.cell) else (n, k)) :: _) = _ \/ List.lookup x ((if (k == NameKind.free && env.scope.kind == .function && env.kindOf n == some .cell) = true then (n, NameKind.cell) else (n, k)) :: _) = _
   cases hx : x == n with
   | true =>
     simp only [List.lookup_cons, hx] at h
     cases h
     by_cases hc : (NameKind.free == NameKind.free && env.scope.kind == .function && env.kindOf n == some .cell) = true
     ·rw [if_pos hc]; exact .inl (by simp only [List.lookup_cons, hx])
     ·rw [if_neg hc]; exact .inr (by simp only [List.lookup_cons, hx])
   | false =>
     simp only [List.lookup_cons, hx] at h
     by_cases hc : (k == NameKind.free && env.scope.kind == .function && env.kindOf n == some .cell) = true
     ·rw [if_pos hc]; simp only [List.lookup_cons, hx]; exact ih h
     ·rw [if_neg hc]; simp only [List.lookup_cons, hx]; exact ih h
theorem T5 {env : Env} : ∀ {names : List (Str × NameKind)} {x : Str} {k : NameKind},
 (names.map fun (n, k) => if (k == NameKind.free && env.scope.kind == .function && env.kindOf n == some .cell) then (n, NameKind.cell) else (n, k)).lookup x = some k ->
 names.lookup x = some k \/ (k = .cell /\ names.lookup x = some .free)
 | [], _, _, h => by simp at h
 | (n, j) :: r, x, k, h => by
   have ih := @T5 env r x k
   have h : List.lookup x ((if (j == NameKind.free && env.scope.kind == .function && env.kindOf n == some .cell) = true then (n, NameKind.cell) else (n, j)) :: _) = some k := h
   by_cases hc : (j == NameKind.free && env.scope.kind == .function && env.kindOf n == some .cell) = true
   ·rw [if_pos hc] at h
    cases hx : x == n with
    | true =>
      simp only [List.lookup_cons, hx] at h ⊢
      cases h
      have : j = .free := by
       cases j <;> simp at hc ⊢
      exact .inr ⟨rfl, by rw [this]⟩
    | false => simp only [List.lookup_cons, hx] at h ⊢; exact ih h
   ·rw [if_neg hc] at h
    cases hx : x == n with
    | true => simp only [List.lookup_cons, hx] at h ⊢; exact .inl h
    | false => simp only [List.lookup_cons, hx] at h ⊢; exact ih h
variable {elt : Expr} {ifs : List Expr}
theorem qm4 {R : Result -> Shared -> Prop} {target : Expr} {it acc : Value} (I : Nat -> Shared -> Prop) (turn : ∀ n s, I n s -> wpAny (model prog w) A (pyNext it) (fun r s₁ => match r with
  | none => R (.ok .next) s₁
  | some v => wpAny (model prog w) A (letOwnedTupleGo target it v) (fun _ s₁' => wpAny (model prog w) A (assign target env v) (fun _ s₂ =>
   wpAny (model prog w) A (forIn ifs true fun c r => if r = true then do let ok <- isTrue c env (eval c env); pure (ForInStep.yield ok) else pure (ForInStep.yield r)) (fun ok s₃ =>
    if ok = true then wpAny (model prog w) A (eval elt env) (fun x s₄ =>
     wpAny (model prog w) A (call (.builtin "list.append") [acc, x]) (fun _ s₅ => ∃ m, m < n /\ I m s₅) (notedBy (model prog w) A env fun e s' => R (.error e) s') s₄) (notedBy (model prog w) A env fun e s' => R (.error e) s') s₃
    else ∃ m, m < n /\ I m s₃) (notedBy (model prog w) A env fun e s' => R (.error e) s') s₂) (notedBy (model prog w) A env fun e s' => R (.error e) s') s₁') (notedBy (model prog w) A env fun e s' => R (.error e) s') s₁)
  (notedBy (model prog w) A env fun e s' => R (.error e) s') s) (n : Nat) (h : I n s) :
 codeAny (model prog w) A (.compLoop (.ListComp elt [⟨target, iter, ifs, 0⟩] scope pos) 0 it acc env) R s := by
 refine codeAny_loop rfl I (fun n s hI => ?_) n h
 show wpAny _ A ((compTurn (.ListComp elt [⟨target, iter, ifs, 0⟩] scope pos) 0 it acc env).onRaise (fun x => do noteFrame x env; theTreesLotGoes x)) _ _ s
 refine wpAny_noted ?_
 rw [compTurn_list]
 refine wpAny_bind (wpAny_standAt (wpAny_bind (wpAny_mono (turn n s hI) (fun r s₁ h₁ => ?_) fun _ _ h' => h')))
 cases r with
 | none => exact wpAny_pure h₁
 | some v =>
   refine wpAny_bind (wpAny_mono h₁ (fun _ s₁' h₁' => ?_) fun _ _ h' => h')
   refine wpAny_bind (wpAny_mono h₁' (fun _ s₂ h₂ => wpAny_bind (wpAny_mono h₂ (fun ok s₃ h₃ => ?_) fun _ _ h' => h')) fun _ _ h' => h')
   cases ok with
   | false => exact wpAny_pure ⟨rfl, h₃⟩
   | true =>
     exact wpAny_bind (wpAny_bind (wpAny_mono h₃ (fun x s₄ h₄ => wpAny_bind (wpAny_mono h₄ (fun _ s₅ h₅ => wpAny_pure (wpAny_pure ⟨rfl, h₅⟩)) fun _ _ h' => h')) fun _ _ h' => h'))
def blk (X : Cx) (N : List Str) (scope : Scope) (cl : List (Str × Addr)) (C : Addr) (s₂ : Shared) (H₂ : Hp) (fp : List Addr) (pn : List (Addr × Obj)) : Cx :=
 { X with N := N, s₀ := s₂, H₀ := H₂, env := compEnvC scope cl C X.env, outer := X.stack, stack := X.stack, ex := fp, fn := fun _ => false, pn := pn, xe := fun _ _ => False }
def qm5 (fr : List (Option Nat)) (σ : St) : St := fr.map fun o => match o with | some i => (σ[i]?).join | none => none
variable {fr : List (Option Nat)}
theorem xf6 {j : Nat} (h : (qm5 fr σ)[j]? = some (some v)) : ∃ i, fr[j]? = some (some i) /\ σ[i]? = some (some v) := by
 unfold qm5 at h
 rw [List.getElem?_map] at h
 cases e : fr[j]? with
 | none => rw [e] at h; cases h
 | some o =>
   rw [e] at h
   cases o with
   | none => cases h
   | some i =>
     refine ⟨i, rfl, ?_⟩
     have h' : (σ[i]?).join = some v := Option.some.inj h
     cases e2 : σ[i]? with
     | none => rw [e2] at h'; cases h'
     | some x => rw [e2] at h'; cases x with
       | none => cases h'
       | some y => cases h'; rfl
def ye2 (fr : List (Option Nat)) (g : TG) : Prop := ∀ (x : V) (σ : St) (H : Hp) (Q : St -> Hp -> Prop), g x σ H Q -> g x σ H fun σ2 H2 => Q σ2 H2 /\ ∀ (j i : Nat), fr[j]? = some (some i) -> σ2[j]? = σ[j]?
def xr7 (fr : List (Option Nat)) (g : TGs) : Prop := ∀ (xs : List V) (σ : St) (H : Hp) (Q : St -> Hp -> Prop), g xs σ H Q -> g xs σ H fun σ2 H2 => Q σ2 H2 /\ ∀ (j i : Nat), fr[j]? = some (some i) -> σ2[j]? = σ[j]?
theorem O5 {i : Nat} (h : autoParam (fr[i]? = some none) zAr) : ye2 fr (C3 i) := fun x σ H Q q => ⟨q, fun j k hj => by
 have : i ≠ j := by rintro rfl; rw [h] at hj; cases hj
 rw [List.getElem?_set_ne this]⟩
theorem yy7 : xr7 fr xl6 := fun xs σ H Q ⟨e, q⟩ => ⟨e, q, fun _ _ _ => rfl⟩
theorem xr8 {i : Nat} {u : TGs} (h : fr[i]? = some none) (hu : xr7 fr u) : xr7 fr (qc9 (C3 i) u) := fun xs σ H Q ⟨v, r, e, q⟩ => by
 refine ⟨v, r, e, ?_⟩
 have q : u r (σ.set i (some v)) H Q := q
 have e2 := hu _ _ _ _ q
 have k : ∀ j k, fr[j]? = some (some k) -> (σ.set i (some v))[j]? = σ[j]? := fun j k hj => by
  have : i ≠ j := by rintro rfl; rw [h] at hj; cases hj
  rw [List.getElem?_set_ne this]
 have e3 : (fun (σ2 : St) (H2 : Hp) => Q σ2 H2 /\ ∀ (j k : Nat), fr[j]? = some (some k) -> σ2[j]? = σ[j]?) = (fun (σ2 : St) (H2 : Hp) => Q σ2 H2 /\ ∀ (j k : Nat), fr[j]? = some (some k) -> σ2[j]? = (σ.set i (some v))[j]?) := by
  funext σ2 H2
  refine propext ⟨fun ⟨a, b⟩ => ⟨a, fun j m hj => (b j m hj).trans (k j m hj).symm⟩, fun ⟨a, b⟩ => ⟨a, fun j m hj => (b j m hj).trans (k j m hj)⟩⟩
 show u r (σ.set i (some v)) H _
 rw [e3]
 exact e2
theorem yy8 {u : TGs} (hu : xr7 fr u) : ye2 fr (xl7 K n u) := fun x σ H Q ⟨a, xs, e1, e2, e3, q⟩ => ⟨a, xs, e1, e2, e3, hu _ _ _ _ q⟩
def PTs (X : Cx) (ifs : List Expr) (t : TT) : Prop :=
 ∀ (pins : List (Addr × Obj)) (s : Shared) (σ : St) (H : Hp) (Q : Bool -> Hp -> Prop), Inv X pins σ H s -> t σ H Q ->
  wpAny (model X.prog X.w) X.A (forIn ifs true fun c r => if r = true then do let ok <- isTrue c X.env (eval c X.env); pure (ForInStep.yield ok) else pure (ForInStep.yield r)) (TP X pins σ Q) X.xe s
def tTT : TT := fun _ H Q => Q true H
theorem R7 : PTs X [] tTT := fun _ _ _ H _ I h => wpAny_tests_nil ⟨H, I, h⟩
theorem qu2 {t : TT} (h : PT X c t) : PTs X [c] t := fun pins s σ H Q I hq => wpAny_tests_one (h pins s σ H Q I hq)
structure qo7 (X : Cx) (scope : Scope) (N : List Str) (fr : List (Option Nat)) : Prop where
 kind : scope.kind = .function
 nocell : ∀ y ∈ scope.names, y.2 ≠ .cell
 names : ∀ y ∈ scope.names, y.2 = .local -> scope.names.lookup y.1 = some .local
 free : ∀ y ∈ scope.names, y.2 = .free -> X.env.scope.names.lookup y.1 = some .cell \/ X.env.scope.names.lookup y.1 = some .free
 len : N.length = fr.length
 at_ : ∀ (j i : Nat) (x : Str), fr[j]? = some (some i) -> N[j]? = some x -> X.N[i]? = some x /\ scope.names.lookup x = some .free
def xr9 (osc : Scope) (ON : List Str) (scope : Scope) (N : List Str) (fr : List (Option Nat)) : Bool :=
 decide (scope.kind = .function) && scope.names.all (fun y => decide (y.2 ≠ .cell)) && scope.names.all (fun y => decide (y.2 ≠ .local) || decide (scope.names.lookup y.1 = some .local)) &&
 scope.names.all (fun y => decide (y.2 ≠ .free) || decide (osc.names.lookup y.1 = some .cell) || decide (osc.names.lookup y.1 = some .free)) && decide (N.length = fr.length) &&
 (fr.zip N).all (fun p => match p.1 with | some i => decide (ON[i]? = some p.2) && decide (scope.names.lookup p.2 = some .free) | none => true)
theorem G6 {osc : Scope} {ON : List Str} (h : xr9 osc ON scope N fr = true) (e1 : X.env.scope = osc) (e2 : X.N = ON) : qo7 X scope N fr := by
 subst e1 e2
 unfold xr9 at h
 simp only [Bool.and_eq_true, List.all_eq_true, Bool.or_eq_true, decide_eq_true_eq] at h
 obtain ⟨⟨⟨⟨⟨h1, h2⟩, h3⟩, h4⟩, h5⟩, h6⟩ := h
 refine ⟨h1, h2, fun y hy e => (h3 y hy).resolve_left fun z => z e, fun y hy e => ?_, h5, fun j i x e1 e2 => ?_⟩
 ·rcases h4 y hy with (z | z) | z
  ·exact absurd e z
  ·exact .inl z
  ·exact .inr z
 ·have hm : (some i, x) ∈ fr.zip N := by
   apply List.mem_of_getElem? (i := j)
   rw [List.getElem?_zip_eq_some]
   exact ⟨e1, e2⟩
  have := h6 _ hm
  simpa using this
def T3 (fr : List (Option Nat)) (wi : TI) (g : TG) (tt : TT) (te : TE) : TE := fun σ H Q => wi σ H fun J H1 =>
 ∃ W : Nat -> Nat -> List V -> Hp -> Prop, (∃ m, W 0 m [] H1) /\ ∀ i m ys H, W i m ys H -> ys.length <= sizeLine /\
  ((J.stop i H /\ ∀ p, H p = none -> Q (.ref p) (upd H p (.lst ys))) \/
   (J.go i H /\ ∃ NN : List V -> Hp -> Prop, (∀ ys' H', NN ys' H' -> ∃ m', m' < m /\ W (i + 1) m' ys' H') /\ ∀ x H', J.yld i H x H' -> g x (qm5 fr σ) H' fun σ2 H2 => tt σ2 H2 fun b H3 =>
    if b = true then te σ2 H3 fun y H4 => NN (ys ++ [y]) H4 else NN ys H3))
structure yy9 (X : Cx) (pins : List (Addr × Obj)) (σ : St) (Q : VK) (C D : Addr) (s' : Shared) : Prop where
 ex : ∃ (ys : List V) (H : Hp), H D = none /\ (∃ m, s'.heap.Ns C m) /\ D ≠ C /\ C ≠ X.env.locals /\ (∀ x c, X.env.cells.lookup x = some c -> c ≠ C) /\ (∀ p ∈ X.pn ++ pins, p.1 ≠ C) /\ X.s₀.heap.objs.size <= C /\ C ∉ X.fs /\
  (upd H D (.lst ys)) C = none /\
  (∀ h', Heap.SameBut C s'.heap h' -> Inv X pins σ (upd H D (.lst ys)) { s' with heap := h' }) /\ Q (.ref D) (upd H D (.lst ys))
variable {J : It} {s2 : Shared} {tt : TT}
theorem wj9 {g : TG} {cl : List (Str × Addr)} (hcalm : X.calm = true) (S : qo7 X scope N fr) (hclS : ∀ x c, cl.lookup x = some c -> X.env.cells.lookup x = some c) (hclH : ∀ y ∈ scope.names, y.2 = .free -> ∃ c, cl.lookup y.1 = some c) (hg : ∀ C s₂ H₂ fp pn, PG (blk X N scope cl C s₂ H₂ fp pn) tg g) (hgo : ye2 fr g) (ht : ∀ C s₂ H₂ fp pn, PTs (blk X N scope cl C s₂ H₂ fp pn) ifs tt) (he : ∀ C s₂ H₂ fp pn, PE (blk X N scope cl C s₂ H₂ fp pn) elt te) {Q : VK} {tn : Nat -> Heap -> Prop} (I2 : Inv X pins σ H2 s2) (T : wj2 X.prog X.w X.K tg J fp it tn) (st2 : tn 0 s2.heap) (f2 : ∀ b ∈ fp, wq4 X pins H2 b) (W : Nat -> Nat -> List V -> Hp -> Prop) (w0 : ∃ m, W 0 m [] H2) (turn : ∀ i m ys H, W i m ys H -> ys.length <= sizeLine /\
 ((J.stop i H /\ ∀ p, H p = none -> Q (.ref p) (upd H p (.lst ys))) \/
  (J.go i H /\ ∃ NN : List V -> Hp -> Prop, (∀ ys' H', NN ys' H' -> ∃ m', m' < m /\ W (i + 1) m' ys' H') /\ ∀ x H', J.yld i H x H' -> g x (qm5 fr σ) H' fun σ2 H2 => tt σ2 H2 fun b H3 =>
   if b = true then te σ2 H3 fun y H4 => NN (ys ++ [y]) H4 else NN ys H3))) {RR : Value -> Addr -> Result -> Shared -> Prop} (hRR : ∀ C D s', yy9 X pins σ Q C D s' -> RR (.ref D) C (.ok .next) s') :
 wpAny (model X.prog X.w) X.A (newList []) (fun acc s₃ => wpAny (model X.prog X.w) X.A (newFunctionEnv scope X.env.globals cl [] X.env.qual none .none (some X.env)) (fun cenv s₄ =>
  codeAny (model X.prog X.w) X.A (.compStart (.ListComp elt [⟨tg, iter, ifs, 0⟩] scope pos) 0 (.ref it) acc { cenv with scope := relabel scope X.env }) (RR acc cenv.locals) s₄) E s₃) E s2 := by
 obtain ⟨m0, w0⟩ := w0
 refine wpAny_newObj_type (wpAny_newFunctionEnv S.nocell (by intro y hy; simp at hy) (fun h₁ hns₁ hsb₁ => ?_) S.kind)
 dsimp only at hns₁ hsb₁ ⊢
 generalize hHH : s2.heap.push { cls := .type "list", dict := none, data := .seq ([] : List Value).toArray } = HH at hns₁ hsb₁ ⊢
 have hC : HH.objs.size = s2.heap.objs.size + 1 := by rw [<- hHH, Heap.size_push]
 generalize hDD : s2.heap.objs.size = D at *
 generalize hCC : HH.objs.size = C at *
 have hDlt : Nat.lt D C := by show D < C; rw [hC]; exact Nat.lt_succ_self _
 have hDC : D ≠ C := Nat.ne_of_lt hDlt
 have neD : ∀ {b : Addr}, Nat.lt b D -> b ≠ D := fun h => Nat.ne_of_lt h
 have neC : ∀ {b : Addr}, Nat.lt b D -> b ≠ C := fun h => Nat.ne_of_lt (Nat.lt_trans h hDlt)
 have below : ∀ (b : Addr) (o : Obj), s2.heap.get? b = some o -> Nat.lt b D := fun b o e => by rw [<- hDD]; exact Heap.lt_size e
 have old : ∀ b o, s2.heap.get? b = some o -> h₁.get? b = some o := fun b o e => hsb₁.extBut b o (neC (below b o e)) (Heap.get?_push_of_some _ (hHH ▸ Heap.get?_push_of_some _ e))
 have hacc : h₁.get? D = some { cls := .type "list", data := .seq ([] : List Value).toArray } := hsb₁.extBut _ _ hDC (Heap.get?_push_of_some _ (by rw [<- hHH, <- hDD]; exact Heap.get?_push_size _ rfl))
 have Lt : Nat.lt X.env.locals D := by rw [<- hDD]; exact I2.lt
 have cellLt : ∀ x c, X.env.cells.lookup x = some c -> Nat.lt c D := fun x c e => by
  obtain ⟨v, q⟩ := I2.cell x c e
  rw [<- hDD]; exact q.lt
 have pinLt : ∀ p ∈ X.pn ++ pins, Nat.lt p.1 D := fun p hp => below p.1 p.2 (I2.pin p hp).1
 have freshH : ∀ b : Addr, Nat.le D b -> H2 b = none := fun b hb => I2.hok.fresh (by rw [hDD]; exact hb)
 let X' : Cx := blk X N scope cl C s2 H2 fp (X.pn ++ pins)
 have okX : X'.Ok := by
  refine ⟨I2.ok.mod, S.kind, I2.ok.glob, I2.ok.blt, by show s2.heap.objs.size <= C; rw [hDD]; exact Nat.le_of_lt hDlt, fun x y c e1 e2 => I2.ok.inj x y c (hclS _ _ e1) (hclS _ _ e2), fun x hx => ?_, fun x c hf _ => (by cases hf), I2.ok.hd, I2.ok.frames, .inl rfl, fun b hb => ⟨?_, fun x c e => (f2 b hb).2.2.2.2.1 x c (hclS _ _ e)⟩, I2.bs, Nat.le_trans I2.ok.bsz I2.sz, fun b o e hb => ?_, fun b hb hm => ?_, I2.stack, I2.stkFree⟩
  ·have hx : (relabel scope X.env).names.lookup x = some .cell \/ (relabel scope X.env).names.lookup x = some .free := hx
   have hf : scope.names.lookup x = some .free := by
    rcases hx with hx | hx
    ·rcases T5 hx with h | ⟨_, h⟩
     ·exact absurd rfl (S.nocell _ (PySem.mem_of_lookup h))
     ·exact h
    ·rcases T5 hx with h | ⟨h, _⟩
     ·exact h
     ·cases h
   exact hclH _ (PySem.mem_of_lookup hf) rfl
  ·obtain ⟨o, e, _⟩ := T.obj 0 _ st2 b hb
   exact neC (below b o e)
  ·obtain ⟨_, _, _, h, _⟩ := f2 b hb
   rcases h with h | h
   ·exact I2.ok.noex b o e h
   ·have := Heap.lt_size (I2.ok.bs b o e).1
    exact absurd (Nat.lt_of_lt_of_le this h) (Nat.lt_irrefl _)
  ·rcases List.mem_cons.mp (I2.stkSub b hm) with h | h
   ·exact (f2 b hb).2.1 h
   ·exact (f2 b hb).2.2.1 h
 have I4 : ∀ tk, 0 < tk -> Inv X' [(D, { cls := .type "list", data := .seq ([] : List Value).toArray })] (qm5 fr σ) H2 { s2 with heap := h₁, toks := tk } := fun tk htk => by
  refine ⟨okX, rfl, I2.bare, Un.kept old, ⟨_, hns₁, fun j x v e1 e2 e3 => ?_⟩, fun x c e => ?_, freshH C (Nat.le_of_lt hDlt), fun x c e => I2.freeC x c (hclS _ _ e), fun p hp => ?_, I2.hok.kept old, ?_, htk⟩
  ·obtain ⟨i, q1, q2⟩ := xf6 e2
   obtain ⟨a1, a2⟩ := S.at_ j i x q1 e1
   obtain ⟨m, hn, hl⟩ := I2.loc
   have vis : Vis X.env.scope x := by
    rcases S.free _ (PySem.mem_of_lookup a2) rfl with h | h
    ·exact .inr (.inl h)
    ·exact .inr (.inr h)
   obtain ⟨u, r, l⟩ := hl i x v a1 q2 vis
   refine ⟨u, r, .inr ⟨?_, ?_⟩⟩
   ·exact qa7 (env := X.env) a2
   ·rcases l with ⟨hk, _⟩ | ⟨_, c, hc, hcell⟩
    ·have hk : X.env.scope.names.lookup x = some .local := hk
     rcases S.free _ (PySem.mem_of_lookup a2) rfl with h | h
     ·have h : X.env.scope.names.lookup x = some .cell := h
      rw [hk] at h; cases h
     ·have h : X.env.scope.names.lookup x = some .free := h
      rw [hk] at h; cases h
    ·obtain ⟨c', hc'⟩ := hclH _ (PySem.mem_of_lookup a2) rfl
     have : c = c' := by
      have := hclS _ _ hc'
      rw [hc] at this
      exact Option.some.inj this
     subst this
     obtain ⟨o, ho, hd⟩ := hcell
     exact ⟨c, hc', o, old c o ho, hd⟩
  ·obtain ⟨v, o, ho, hd⟩ := I2.cell x c (hclS _ _ e)
   exact ⟨v, o, old c o ho, hd⟩
  ·rcases List.mem_append.mp hp with hp | hp
   ·obtain ⟨e, n, ne, nf, d⟩ := I2.pin p hp
    refine ⟨old _ _ e, n, ?_, fun hm => ?_, d⟩
    ·exact neC (pinLt p hp)
    ·rcases List.mem_cons.mp (I2.stkSub _ hm) with h | h
     ·exact ne h
     ·exact nf h
   ·have hp : p = (D, { cls := .type "list", data := .seq ([] : List Value).toArray }) := by simpa using hp
    subst hp
    refine ⟨hacc, freshH D (Nat.le_refl _), hDC, fun hm => ?_, fun v z => by cases z⟩
    rcases List.mem_cons.mp (I2.stkSub _ hm) with h | h
    ·exact neD Lt h.symm
    ·exact I2.nofs (by rw [hDD]; exact Nat.le_refl _) h
  ·show (qm5 fr σ).length = N.length
   unfold qm5
   rw [List.length_map, S.len]
 have fpLt : ∀ b ∈ fp, Nat.lt b D := fun b hb => by
  obtain ⟨o, e, _⟩ := T.obj 0 _ st2 b hb
  exact below b o e
 have fpk : ∀ {H : Hp} {oD : Obj}, (∀ b ∈ fp, H b = none) -> ∀ b ∈ fp, wq4 X' [(D, oD)] H b := fun {H oD} hn b hb => by
  refine ⟨hn b hb, ?_, fun hm => ?_, .inl hb, fun x c e => (f2 b hb).2.2.2.2.1 x c (hclS _ _ e), fun p hp => ?_⟩
  ·exact neC (fpLt b hb)
  ·rcases List.mem_cons.mp (I2.stkSub b hm) with h | h
   ·exact (f2 b hb).2.1 h
   ·exact (f2 b hb).2.2.1 h
  ·rcases List.mem_append.mp hp with hp | hp
   ·exact (f2 b hb).2.2.2.2.2 p hp
   ·have hp : p = (D, oD) := by simpa using hp
    subst hp
    exact (neD (fpLt b hb)).symm
 have loop : ∀ s₃ : Shared, s₃ = { s2 with heap := h₁, toks := s2.toks + ([] : List (Str × Value)).length } ->
  codeAny (model X.prog X.w) X.A (.compLoop (.ListComp elt [⟨tg, iter, ifs, 0⟩] scope pos) 0 (.ref it) (.ref D) (compEnvC scope cl C X.env)) (RR (.ref D) C) s₃ := by
  rintro s₃ rfl
  refine qm4 (fun n s' => ∃ i ys its k H', Inv X' [(D, ({ cls := .type "list", data := .seq its k } : Obj))] (qm5 fr σ) H' s' /\ tn i s'.heap /\ (∀ b ∈ fp, H' b = none) /\ G3 ys its.toList /\ W i n ys H') ?_ m0
   ⟨0, [], #[], _, H2, I4 _ (by first | exact I2.tk | exact Nat.succ_pos _), T.keep 0 _ _ st2 (fun b _ o e => old b o e), fun b hb => (f2 b hb).1, .nil, w0⟩
  rintro n s3 ⟨i, ys, its, k, H3, I3, st3, fr3, vy, w3⟩
  obtain ⟨hsz, h⟩ := turn i n ys H3 w3
  rcases h with ⟨stop, qn⟩ | ⟨go, NN, hNN, step⟩
  ·refine noE (thn (T.done X' rfl rfl rfl hcalm i [(D, _)] s3 (qm5 fr σ) H3 _ I3 (fpk fr3) st3 stop) fun r s4 zq => ?_)
   obtain ⟨hr, I4⟩ := zq
   subst hr
   refine hRR C D s4 ⟨ys, H3, ?_⟩
   obtain ⟨pD, nD, _, _, _⟩ := I4.pin (D, _) (List.mem_append_right _ (List.mem_singleton.mpr rfl))
   have pD : s4.heap.get? D = some { cls := .type "list", data := .seq its k } := pD
   have nD : H3 D = none := nD
   have nC : H3 C = none := I4.free
   obtain ⟨mC, hnC, _⟩ := I4.loc
   refine ⟨nD, ⟨mC, hnC⟩, hDC, (neC Lt).symm, fun x c e z => ?_, fun p hp z => ?_, ?_, fun hm => ?_, ?_, fun h' hsb => ?_, qn D nD⟩
   ·exact neC (cellLt x c e) z
   ·exact neC (pinLt p hp) z
   ·have := I2.sz; rw [hDD] at this; exact Nat.le_trans this (Nat.le_of_lt hDlt)
   ·exact I2.nofs (by rw [hDD]; exact Nat.le_of_lt hDlt) hm
   ·rw [C4 (Ne.symm hDC)]; exact nC
   ·have un : Un (frs X.stack) fp H2 (upd H3 D (.lst ys)) s2.heap h' := by
     have u := I4.base
     have neC : ∀ (b : Addr) (o : Obj), s2.heap.get? b = some o -> b ≠ C := fun b o e => neC (below b o e)
     have neD : ∀ (b : Addr) (o : Obj), s2.heap.get? b = some o -> b ≠ D := fun b o e => neD (below b o e)
     have trkNe : ∀ b (o : HO), H3 b = some o -> b ≠ D := fun b o e z => by rw [z, nD] at e; cases e
     refine ⟨fun b o e n hb hx => hsb.extBut b o (neC b o e) (u.keep b o e n hb hx), fun b o e n hb hx => ?_, fun b o e n hx => by rw [C4 (neD b o e)]; exact u.free b o e n hx, fun b o e hx => ?_, fun b xs e => ?_, fun b o xs e => ?_, fun b ps e => ?_⟩
     ·obtain ⟨sl, q⟩ := u.slot b o e n hb hx
      exact ⟨sl, hsb.extBut b _ (neC b o e) q⟩
     ·obtain ⟨o', q⟩ := u.there b o e hx
      exact ⟨o', hsb.extBut b _ (neC b o e) q⟩
     ·have q := u.tups b xs e
      rw [C4 (trkNe b _ q)]; exact q
     ·have q := u.frzs b o xs e
      rw [C4 (trkNe b _ q)]; exact q
     ·obtain ⟨more, q⟩ := u.tbls b ps e
      exact ⟨more, by rw [C4 (trkNe b _ q)]; exact q⟩
    have hok : HOk X.prog X.w (upd H3 D (.lst ys)) h' := fun b u e => by
     by_cases hb : b = D
     ·rw [hb, A8] at e
      cases e
      rw [hb]
      exact ⟨hsz, its.toList, k, vy, by simpa using hsb.extBut D _ hDC pD⟩
     ·rw [C4 hb] at e
      refine (I4.hok b u e).stay (fun c v hc q => hsb.extBut c v ?_ q) (fun c q => ?_) fun c xs q => ?_
      ·rcases hc with rfl | hc
       ·rintro rfl; rw [nC] at e; cases e
       ·rintro rfl; rw [nC] at hc; cases hc
      ·rw [C4 (P7 q nD)]; exact q
      ·rw [C4 (P7 q nD)]; exact q
    obtain ⟨hh, gg, dd, tt', os'⟩ := s4
    obtain rfl : os' = s2.os := I4.os
    refine (show Inv X pins σ (upd H3 D (.lst ys)) { s2 with heap := h', gens := gg, drawn := dd, toks := tt' } from I2.call (h' := h') (g' := gg) (d' := dd) (t' := tt') (ch := fp) un hok I4.bare fun b hb => ?_)
    obtain ⟨_, f1, _, f3, f4, f5⟩ := f2 b hb
    exact ⟨f3, f1, f4, f5⟩
  ·refine noE (thn (T.item X' rfl rfl rfl hcalm i [(D, _)] s3 (qm5 fr σ) H3 _ I3 (fpk fr3) st3 go) fun r s4 zq => ?_)
   obtain ⟨u, hr, h4⟩ := zq
   subst hr
   refine noE (thn h4 fun _ s5 zq => ?_)
   obtain ⟨x, H5, I5, r5, y5, st5, fr5⟩ := zq
   have I5' := I5.pinned (fpk fr5) (T.obj _ _ st5)
   refine noE (thn (hg C s2 H2 fp (X.pn ++ pins) _ s5 (qm5 fr σ) H5 x u _ I5' r5 (hgo _ _ _ _ (step x H5 y5))) fun _ s6 zq => ?_)
   obtain ⟨σ6, H6, I6, q6, k6⟩ := zq
   refine noE (thn (ht C s2 H2 fp (X.pn ++ pins) _ s6 σ6 H6 _ I6 q6) fun b s7 zq => ?_)
   obtain ⟨H7, I7, q7⟩ := zq
   have back : ∀ {s8 : Shared} {H8 : Hp}, Inv X' ([(D, ({ cls := .type "list", data := .seq its k } : Obj))] ++ wj3 fp s5.heap) σ6 H8 s8 -> Inv X' [(D, ({ cls := .type "list", data := .seq its k } : Obj))] (qm5 fr σ) H8 s8 /\ tn (i + 1) s8.heap /\ ∀ b ∈ fp, H8 b = none := fun {s8 H8} I8 => by
    refine ⟨(I8.unpinned).weak ?_ fun j v e => ?_, T.keep _ _ _ st5 fun b hb o e => (I8.pin (b, o) (List.mem_append_right _ (List.mem_append_right _ (qi2 hb e)))).1, fun b hb => ?_⟩
    ·rw [I8.len]; show (qm5 fr σ).length = N.length; unfold qm5; rw [List.length_map, S.len]
    ·obtain ⟨i', q1, _⟩ := xf6 e
     rw [k6 j i' q1]; exact e
    ·obtain ⟨o, e, d⟩ := T.obj _ _ st5 b hb
     exact (I8.pin (b, o) (List.mem_append_right _ (List.mem_append_right _ (qi2 hb e)))).2.1
   cases b with
   | false =>
     rw [if_neg Bool.false_ne_true] at q7 ⊢
     obtain ⟨m', hm, w7⟩ := hNN _ _ q7
     obtain ⟨J1, J2, J3⟩ := back I7
     exact ⟨m', hm, i + 1, ys, its, k, H7, J1, J2, J3, vy, w7⟩
   | true =>
     rw [if_pos rfl] at q7 ⊢
     refine noE (thn (he C s2 H2 fp (X.pn ++ pins) _ s7 σ6 H7 _ I7 q7) fun y s8 zq => ?_)
     obtain ⟨yv, H8, I8, r8, n8⟩ := zq
     obtain ⟨m', hm, w8⟩ := hNN _ _ n8
     obtain ⟨J1, J2, J3⟩ := back I8
     obtain ⟨pD, nD, _, _, _⟩ := J1.pin (D, _) (List.mem_append_right _ (List.mem_singleton.mpr rfl))
     have pD : s8.heap.get? D = some { cls := .type "list", data := .seq its k } := pD
     have nD : H8 D = none := nD
     have hz' : its.size <= sizeLine := by
      have e1 : its.size = ys.length := by rw [vy.length]; simp
      rw [e1]; exact hsz
     refine wpAny_list_append_plain (hsz := hz') ⟨k, pD⟩ fun h' ⟨k', hl'⟩ hsb => ?_
     ·refine ⟨m', hm, i + 1, ys ++ [yv], its.push y, k', H8, ?_, T.keep _ _ _ J2 fun b hb o e => ?_, J3, ?_, w8⟩
      ·have K0 : Inv X' [] (qm5 fr σ) H8 s8 := J1.pins_of fun p hp => by cases hp
       have K1 : Inv X' [] (qm5 fr σ) H8 { s8 with heap := h' } := by
        refine K0.turned (it := D) (t' := s8.toks) (fun b o hb e => hsb.extBut b o hb e) nD hDC (.inr (by show s2.heap.objs.size <= D; rw [hDD]; exact Nat.le_refl _)) (fun x c e z => ?_) fun p hp z => ?_
        ·exact neD (cellLt x c (hclS _ _ e)) z
        ·have hp : p ∈ X.pn ++ pins := by
          rcases List.mem_append.mp hp with hp | hp
          ·exact hp
          ·cases hp
         exact neD (pinLt p hp) z
       refine K1.pins_of fun p hp => ?_
       have hp : p = (D, ({ cls := .type "list", data := .seq (its.push y) k' } : Obj)) := by simpa using hp
       subst hp
       refine ⟨hl', nD, hDC, fun hm => ?_, fun v z => by cases z⟩
       rcases List.mem_cons.mp (I2.stkSub _ hm) with h | h
       ·exact neD Lt h.symm
       ·exact I2.nofs (by rw [hDD]; exact Nat.le_refl _) h
      ·exact hsb.extBut b o (neD (fpLt b hb)) e
      ·rw [Array.toList_push]
       exact G3.append vy (.cons r8 .nil)
 exact codeAny_compStart_list (loop _ rfl) (T.self _ 0 _ _ _ (T.keep 0 _ _ st2 fun b _ o e => old b o e) (loop _ rfl))
theorem P9 {wi : TI} {g : TG} (hcalm : X.calm = true) (S : qo7 X scope N fr) (hi : PI X tg iter wi) (hg : ∀ cl C s₂ H₂ fp pn, PG (blk X N scope cl C s₂ H₂ fp pn) tg g) (hgo : ye2 fr g) (ht : ∀ cl C s₂ H₂ fp pn, PTs (blk X N scope cl C s₂ H₂ fp pn) ifs tt) (he : ∀ cl C s₂ H₂ fp pn, PE (blk X N scope cl C s₂ H₂ fp pn) elt te) (hs : autoParam (∀ x, foldedSetIterable iter X.env x = pure x) zAi) : PE X (.ListComp elt [⟨tg, iter, ifs, 0⟩] scope pos) (T3 fr wi g tt te) := by
 intro pins s σ H Q I h
 obtain ⟨cl, hclos, hclS, hclH⟩ := qq7 (env := X.env) (scope := scope) fun y hy hf => I.ok.has y.1 (S.free y hy hf)
 rw [eval_ListComp]
 refine wpAny_comprehension_free (use := none) rfl hs hclos S.kind S.names (thn (hi pins s σ H _ I h) fun v s1 h1 => thn h1 fun itv s2 h2 => ?_)
 obtain ⟨it, fp, tn, J, H2, e, I2, T, st2, f2, W, w0, turn⟩ := h2
 subst e
 refine wj9 (RR := fun acc C => compPost (model X.prog X.w) X.A X.xe none (EP X pins σ Q) acc C) hcalm S hclS hclH (hg cl) hgo (ht cl) (he cl) I2 T st2 f2 W w0 turn fun C D s' B => ?_
 obtain ⟨ys, H', nD, hC, _, _, _, _, _, _, _, hI, q⟩ := B.ex
 obtain ⟨m, hn⟩ := hC
 exact ⟨m, hn, fun h' hs' => ⟨.ref D, _, hI h' hs', rfl, q⟩⟩
theorem wy3 {spos py : Pos} {wi : TI} {g : TG} {i : Nat} {y : Str} (hN : X.N.Nodup) (hy : X.N[i]? = some y) (hly : X.env.scope.names.lookup y = some .local) (hcalm : X.calm = true) (S : qo7 X scope N fr) (hi : PI X tg iter wi) (hg : ∀ cl C s₂ H₂ fp pn, PG (blk X N scope cl C s₂ H₂ fp pn) tg g) (hgo : ye2 fr g) (ht : ∀ cl C s₂ H₂ fp pn, PTs (blk X N scope cl C s₂ H₂ fp pn) ifs tt) (he : ∀ cl C s₂ H₂ fp pn, PE (blk X N scope cl C s₂ H₂ fp pn) elt te) (hsw : autoParam (swapsWith (.ListComp elt [⟨tg, iter, ifs, 0⟩] scope pos) (some (.Name y py)) spos.line X.env = pure true) zAr) (hs : autoParam (∀ x, foldedSetIterable iter X.env x = pure x) zAi) : PS X (.Assign [.Name y py] (.ListComp elt [⟨tg, iter, ifs, 0⟩] scope pos) spos) (J0 (T3 fr wi g tt te) (C3 i)) := by
 intro pins s σ H D I h
 obtain ⟨cl, hclos, hclS, hclH⟩ := qq7 (env := X.env) (scope := scope) fun y hy hf => I.ok.has y.1 (S.free y hy hf)
 rw [exec_Assign_Name_used _ _ _ _ hsw]
 refine wpAny_bind (wpAny_standAt (wpAny_bind ?_))
 show wpAny _ X.A (do let _ <- comprehension (.ListComp elt [⟨tg, iter, ifs, 0⟩] scope pos) scope X.env _ (newList []) false (eval iter X.env) (some (assign (.Name y py) X.env))) _ _ s
 refine wpAny_bind (wpAny_mono (wpAny_comprehension_free (use := some (assign (.Name y py) X.env)) (Q := fun _ s' => SP X pins D .next s') rfl hs hclos S.kind S.names
  (thn (hi pins s σ H _ I h) fun v s1 h1 => thn h1 fun itv s2 h2 => ?_)) (fun _ s' hq => wpAny_pure (wpAny_pure hq)) fun _ _ e => e)
 obtain ⟨it, fp, tn, J, H2, e, I2, T, st2, f2, W, w0, turn⟩ := h2
 subst e
 refine wj9 (Q := fun x H1 => C3 i x σ H1 D.nx) (RR := fun acc C => compPost (model X.prog X.w) X.A X.xe (some (assign (.Name y py) X.env)) (fun _ s' => SP X pins D .next s') acc C) hcalm S hclS hclH (hg cl) hgo (ht cl) (he cl) I2 T st2 f2 W w0 turn fun C D' s' B => ?_
 obtain ⟨ys, H', nD, hC, hDC, hCL, hCc, hCp, hCs, hCf, hCn, hI, q⟩ := B.ex
 obtain ⟨m, hn⟩ := hC
 have I1 : Inv X pins σ (upd H' D' (.lst ys)) s' := by
  have := hI s'.heap (.refl ..)
  obtain ⟨hh, gg, dd, tt', os'⟩ := s'
  exact this
 show wpAny _ X.A (assign (.Name y py) X.env (.ref D')) _ _ _
 refine wpAny_assign_Name (wu7 I1 hN hy (.inl hly) (v := .ref D') rfl (fun s2 I3 zq => ?_) (.inr hly))
 obtain ⟨a, sb, ha⟩ := zq
 have hCa : C ≠ a := by
  rcases ha with rfl | ha
  ·exact hCL
  ·exact fun z => hCc y a ha z.symm
 refine ⟨m, hn.sameBut sb hCa, fun h3 hs3 => ?_⟩
 exact ⟨_, _, I3.turned (it := C) (t' := s2.toks) (fun b o hb e => hs3.extBut b o hb e) hCn hCL (.inr hCs) hCc hCp, q⟩
mutual
def Dv (K : Fg) (H : Hp) : PyData -> V -> Prop
 | .none, v => v = .non
 | .bool b, v => v = .bl b
 | .int i, v => v = .int i
 | .str x, v => v = .str x
 | .list ds, v => ∃ a vs, v = .ref a /\ SqL K H a vs /\ Dvs K H ds vs
 | .tuple ds, v => ∃ a vs, v = .ref a /\ SqT K H a vs /\ Dvs K H ds vs
 | .dict _, _ => False
def Dvs (K : Fg) (H : Hp) : List PyData -> List V -> Prop
 | [], vs => vs = []
 | d :: ds, vs => ∃ v r, vs = v :: r /\ Dv K H d v /\ Dvs K H ds r
end
theorem Dvs.length : ∀ {ds : List PyData} {vs : List V}, Dvs K H ds vs -> vs.length = ds.length
 | [], _, h => by rw [Dvs] at h; subst h; rfl
 | d :: ds, _, h => by
   rw [Dvs] at h
   obtain ⟨v, r, rfl, _, h⟩ := h
   rw [List.length_cons, List.length_cons, Dvs.length h]
theorem Dvs.get' : ∀ {ds : List PyData} {vs : List V} {i : Nat} {v : V}, Dvs K H ds vs -> vs[i]? = some v -> ∃ d, ds[i]? = some d /\ Dv K H d v
 | [], _, _, _, h, e => by rw [Dvs] at h; subst h; simp at e
 | d :: ds, _, 0, _, h, e => by
   rw [Dvs] at h
   obtain ⟨v, r, rfl, h, _⟩ := h
   cases e
   exact ⟨d, rfl, h⟩
 | d :: ds, _, i + 1, _, h, e => by
   rw [Dvs] at h
   obtain ⟨v, r, rfl, _, h⟩ := h
   exact Dvs.get' (i := i) h (by simpa using e)
theorem G7 : Dvs K H [] [] := by rw [Dvs]
variable {ds : List PyData}
theorem E6 {d : PyData} {vs : List V} (h : Dv K H d v) (t : Dvs K H ds vs) : Dvs K H (d :: ds) (v :: vs) := by rw [Dvs]; exact ⟨v, vs, rfl, h, t⟩
theorem qu3 : Dv K H .none v ↔ v = .non := by rw [Dv]
theorem qu4 {b : Bool} : Dv K H (.bool b) v ↔ v = .bl b := by rw [Dv]
theorem qg5 : Dv K H (.int i) v ↔ v = .int i := by rw [Dv]
theorem N2 : Dv K H (.str x) v ↔ v = .str x := by rw [Dv]
theorem M8 : Dv K H (.list ds) v ↔ ∃ a vs, v = .ref a /\ SqL K H a vs /\ Dvs K H ds vs := by rw [Dv]
theorem L7 : Dv K H (.tuple ds) v ↔ ∃ a vs, v = .ref a /\ SqT K H a vs /\ Dvs K H ds vs := by rw [Dv]
def sDa (xs : List Str) : List PyData := xs.map .str
def B3 (xs : List Str) : List V := xs.map .str
theorem T9 : ∀ {xs : List Str} {vs : List V}, Dvs K H (sDa xs) vs ↔ vs = B3 xs
 | [], _ => by show Dvs K H [] _ ↔ _ = []; rw [Dvs]
 | x :: xs, vs => by
   show Dvs K H (.str x :: sDa xs) vs ↔ vs = V.str x :: B3 xs
   rw [Dvs]
   constructor
   ·rintro ⟨v, r, rfl, h1, h2⟩
    rw [N2.mp h1, T9.mp h2]
   ·rintro rfl
    exact ⟨_, _, rfl, N2.mpr rfl, T9.mpr rfl⟩
def xf7 (H H' : Hp) : Prop := (∀ b xs, H b = some (.tup xs) -> H' b = some (.tup xs)) /\ ∀ b o xs, H b = some (.frz o (.tup xs)) -> H' b = some (.frz o (.tup xs))
theorem A7.tupK (h : A7 H H') : xf7 H H' := ⟨fun b xs e => h b _ e, fun b o xs e => h b _ e⟩
theorem xf7.sqT (e : xf7 H H') (h : SqT K H a xs) : SqT K H' a xs := by
 rcases h with (h | ⟨o, h⟩) | h
 ·exact .inl (.inl (e.1 _ _ h))
 ·exact .inl (.inr ⟨o, e.2 _ _ _ h⟩)
 ·exact .inr h
theorem A7.sqT (e : A7 H H') (h : SqT K H a xs) : SqT K H' a xs := e.tupK.sqT h
theorem A7.sqL (e : A7 H H') (h : SqL K H a xs) : SqL K H' a xs := e.seq h
theorem A7.new (h : H p = none) (o : HO) : A7 H (upd H p o) := fun b u q => by rw [C4 (P7 q h)]; exact q
def But (ps : List Addr) (H H' : Hp) : Prop := ∀ b o, H b = some o -> b ∉ ps -> H' b = some o
theorem But.upd {ps : List Addr} (h : p ∈ ps) (o : HO) : But ps H (upd H p o) := fun b u q n => by rw [C4 (by rintro rfl; exact n h)]; exact q
mutual
/-- data without lists -/
def fix : PyData -> Bool
 | .none => true | .bool _ => true | .int _ => true | .str _ => true
 | .list _ => false
 | .tuple ds => qr5 ds
 | .dict _ => false
def qr5 : List PyData -> Bool
 | [] => true
 | d :: ds => fix d && qr5 ds
end
mutual
theorem Dv.tupK {K : Fg} {H H' : Hp} (k : xf7 H H') : ∀ (d : PyData) (v : V), fix d = true -> Dv K H d v -> Dv K H' d v
 | .none, _, _, h => qu3.mpr (qu3.mp h)
 | .bool _, _, _, h => qu4.mpr (qu4.mp h)
 | .int _, _, _, h => qg5.mpr (qg5.mp h)
 | .str _, _, _, h => N2.mpr (N2.mp h)
 | .list _, _, f, _ => by rw [fix] at f; cases f
 | .tuple ds, v, f, h => by
   rw [fix] at f
   obtain ⟨a, vs, rfl, hq, h⟩ := L7.mp h
   exact L7.mpr ⟨a, vs, rfl, k.sqT hq, Dvs.tupK k ds vs f h⟩
 | .dict _, _, f, _ => by rw [fix] at f; cases f
theorem Dvs.tupK {K : Fg} {H H' : Hp} (k : xf7 H H') : ∀ (ds : List PyData) (vs : List V), qr5 ds = true -> Dvs K H ds vs -> Dvs K H' ds vs
 | [], _, _, h => by rw [Dvs] at h ⊢; exact h
 | d :: ds, vs, f, h => by
   rw [qr5, Bool.and_eq_true] at f
   rw [Dvs] at h ⊢
   obtain ⟨v, r, e, h1, h2⟩ := h
   exact ⟨v, r, e, Dv.tupK k d v f.1 h1, Dvs.tupK k ds r f.2 h2⟩
end
mutual
theorem Dv.same {K : Fg} {H H' : Hp} (k : A7 H H') : ∀ (d : PyData) (v : V), Dv K H d v -> Dv K H' d v
 | .none, _, h => qu3.mpr (qu3.mp h)
 | .bool _, _, h => qu4.mpr (qu4.mp h)
 | .int _, _, h => qg5.mpr (qg5.mp h)
 | .str _, _, h => N2.mpr (N2.mp h)
 | .list ds, v, h => by
   obtain ⟨a, vs, rfl, hq, h⟩ := M8.mp h
   exact M8.mpr ⟨a, vs, rfl, k.sqL hq, Dvs.same k ds vs h⟩
 | .tuple ds, v, h => by
   obtain ⟨a, vs, rfl, hq, h⟩ := L7.mp h
   exact L7.mpr ⟨a, vs, rfl, k.sqT hq, Dvs.same k ds vs h⟩
 | .dict _, _, h => by rw [Dv] at h; exact h.elim
theorem Dvs.same {K : Fg} {H H' : Hp} (k : A7 H H') : ∀ (ds : List PyData) (vs : List V), Dvs K H ds vs -> Dvs K H' ds vs
 | [], _, h => by rw [Dvs] at h ⊢; exact h
 | d :: ds, vs, h => by
   rw [Dvs] at h ⊢
   obtain ⟨v, r, e, h1, h2⟩ := h
   exact ⟨v, r, e, Dv.same k d v h1, Dvs.same k ds r h2⟩
end
mutual
theorem Dv.reads {X : Cx} {pins : List (Addr × Obj)} {σ : St} {H : Hp} {s : Shared} (I : Inv X pins σ H s) : ∀ (d : PyData) (v : V) (u : Value), Dv X.K H d v -> G2 v u -> ∃ as, Reads s.heap u d as
 | .none, _, _, h, r => by rw [qu3.mp h] at r; cases r; exact ⟨_, .none⟩
 | .bool b, _, _, h, r => by rw [qu4.mp h] at r; cases r; exact ⟨_, .bool b⟩
 | .int i, _, _, h, r => by rw [qg5.mp h] at r; obtain ⟨t, rfl⟩ := r; exact ⟨_, .int i t⟩
 | .str x, _, _, h, r => by rw [N2.mp h] at r; obtain ⟨t, rfl⟩ := r; exact ⟨_, .str x t⟩
 | .list ds, _, _, h, r => by
   obtain ⟨a, vs, rfl, hq, h⟩ := M8.mp h
   cases r
   obtain ⟨its, rv, pl, _⟩ := I.list hq
   obtain ⟨o, e, c, n, d⟩ := pl.isList
   obtain ⟨as, ra⟩ := Dvs.reads I ds vs its h rv
   exact ⟨_, .list e c d (by simpa using ra)⟩
 | .tuple ds, _, _, h, r => by
   obtain ⟨a, vs, rfl, hq, h⟩ := L7.mp h
   cases r
   obtain ⟨its, rv, pl, _⟩ := I.tuple hq
   obtain ⟨o, e, c, n, d⟩ := pl
   obtain ⟨as, ra⟩ := Dvs.reads I ds vs its h rv
   exact ⟨_, .tuple e c d (by simpa using ra)⟩
 | .dict _, _, _, h, _ => by rw [Dv] at h; exact h.elim
theorem Dvs.reads {X : Cx} {pins : List (Addr × Obj)} {σ : St} {H : Hp} {s : Shared} (I : Inv X pins σ H s) : ∀ (ds : List PyData) (vs : List V) (us : List Value), Dvs X.K H ds vs -> G3 vs us -> ∃ as, ReadsAll s.heap us ds as
 | [], _, _, h, r => by rw [Dvs] at h; subst h; cases r; exact ⟨_, .nil⟩
 | d :: ds, _, _, h, r => by
   rw [Dvs] at h
   obtain ⟨v, r', rfl, h1, h2⟩ := h
   cases r with
   | cons r1 r2 =>
     obtain ⟨as, a1⟩ := Dv.reads I d v _ h1 r1
     obtain ⟨bs, a2⟩ := Dvs.reads I ds r' _ h2 r2
     exact ⟨_, .cons a1 a2⟩
end
open PySem.SeqAt
mutual
def nd : PyData -> Bool
 | .none => true | .bool _ => true | .int _ => true | .str _ => true
 | .list ds => nds ds
 | .tuple ds => nds ds
 | .dict _ => false
def nds : List PyData -> Bool
 | [] => true
 | d :: ds => nd d && nds ds
end
mutual
theorem Dv.nd {K : Fg} {H : Hp} : ∀ (d : PyData) (v : V), Dv K H d v -> nd d = true
 | .none, _, _ => by rw [L2.nd]
 | .bool _, _, _ => by rw [L2.nd]
 | .int _, _, _ => by rw [L2.nd]
 | .str _, _, _ => by rw [L2.nd]
 | .list ds, _, h => by
   obtain ⟨a, vs, _, _, h⟩ := M8.mp h
   rw [L2.nd]; exact Dvs.nd ds vs h
 | .tuple ds, _, h => by
   obtain ⟨a, vs, _, _, h⟩ := L7.mp h
   rw [L2.nd]; exact Dvs.nd ds vs h
 | .dict _, _, h => by rw [Dv] at h; exact h.elim
theorem Dvs.nd {K : Fg} {H : Hp} : ∀ (ds : List PyData) (vs : List V), Dvs K H ds vs -> nds ds = true
 | [], _, _ => by rw [nds]
 | d :: ds, vs, h => by
   rw [Dvs] at h
   obtain ⟨v, r, _, h1, h2⟩ := h
   rw [nds, Dv.nd d v h1, Dvs.nd ds r h2]; rfl
end
mutual
theorem wk0 {h : Heap} : ∀ (d d' : PyData) (v : Value) (as as' : List Addr), nd d = true -> Reads h v d as -> Reads h v d' as' -> d = d'
 | .none, _, _, _, _, _, r, q => by cases r; cases q; rfl
 | .bool _, _, _, _, _, _, r, q => by cases r; cases q; rfl
 | .int _, _, _, _, _, _, r, q => by cases r; cases q; rfl
 | .str _, _, _, _, _, _, r, q => by cases r; cases q; rfl
 | .dict _, _, _, _, _, n, _, _ => by rw [L2.nd] at n; cases n
 | .list xs, d', _, _, _, n, r, q => by
   rw [L2.nd] at n
   cases r with
   | list a1 a2 a3 a4 =>
     cases q with
     | list b1 b2 b3 b4 => rw [a1] at b1; cases b1; rw [a3] at b3; cases b3; rw [qz8 xs _ _ _ _ n a4 b4]
     | tuple b1 b2 b3 b4 => rw [a1] at b1; cases b1; rw [a2] at b2; exact absurd b2 (by simp)
     | dict b1 b2 => rw [a1] at b1; cases b1; rw [a2] at b2; exact absurd b2 (by simp)
 | .tuple xs, d', _, _, _, n, r, q => by
   rw [L2.nd] at n
   cases r with
   | tuple a1 a2 a3 a4 =>
     cases q with
     | tuple b1 b2 b3 b4 => rw [a1] at b1; cases b1; rw [a3] at b3; cases b3; rw [qz8 xs _ _ _ _ n a4 b4]
     | list b1 b2 b3 b4 => rw [a1] at b1; cases b1; rw [a2] at b2; exact absurd b2 (by simp)
     | dict b1 b2 => rw [a1] at b1; cases b1; rw [a2] at b2; exact absurd b2 (by simp)
theorem qz8 {h : Heap} : ∀ (xs ys : List PyData) (vs : List Value) (as as' : List Addr), nds xs = true -> ReadsAll h vs xs as -> ReadsAll h vs ys as' -> xs = ys
 | [], _, _, _, _, _, r, q => by cases r; cases q; rfl
 | x :: xs, _, _, _, _, n, r, q => by
   rw [nds, Bool.and_eq_true] at n
   cases r with
   | cons r1 r2 =>
     cases q with
     | cons q1 q2 => rw [wk0 x _ _ _ _ n.1 r1 q1, qz8 xs _ _ _ _ n.2 r2 q2]
end
mutual
theorem qm6 : ∀ d : PyData, nd d = true -> PyData.eqv d d = true
 | .none, _ => rfl
 | .bool b, _ => by simp [PyData.eqv]
 | .int i, _ => by simp [PyData.eqv]
 | .str x, _ => by simp [PyData.eqv]
 | .list xs, h => by rw [PyData.eqv]; rw [L2.nd] at h; exact qz9 xs h
 | .tuple xs, h => by rw [PyData.eqv]; rw [L2.nd] at h; exact qz9 xs h
 | .dict _, h => by rw [L2.nd] at h; cases h
theorem qz9 : ∀ xs : List PyData, nds xs = true -> PyData.eqvAll xs xs = true
 | [], _ => rfl
 | x :: xs, h => by
   rw [nds, Bool.and_eq_true] at h
   rw [PyData.eqvAll, qm6 x h.1, qz9 xs h.2]; rfl
end
theorem L5 {h : Heap} : ∀ {xs : List PyData} {vs : List Value} {as : List Addr}, ReadsAll h vs xs as -> vs.length = xs.length
 | [], _, _, r => by cases r; rfl
 | _ :: xs, _, _, r => by
   cases r with
   | cons _ r' => rw [List.length_cons, List.length_cons, L5 r']
mutual
theorem ye3 : ∀ (da db : PyData) (A : Around) (s : Shared) (a b : Value) (as bs : List Addr), Reads s.heap a da as -> Reads s.heap b db bs -> nd da = true -> nd db = true -> A.units + min da.depth db.depth < cLine -> EqAt A s a b (PyData.eqv da db)
 | .none, db, A, s, _, _, _, _, ra, rb, _, hb, hu => by
   cases ra
   cases rb with
   | none => exact EqAt.same _
   | bool y => exact EqAt.none_bool y
   | int y u => exact EqAt.none_int y u
   | str y u => exact EqAt.none_str y u
   | list k1 k2 k3 k4 => exact EqAt.none_list ⟨_, k1, k2, _, k3⟩ (room_here hu)
   | tuple k1 k2 k3 k4 => exact EqAt.none_tuple ⟨_, k1, k2, _, k3⟩ (room_here hu)
   | dict => rw [L2.nd] at hb; cases hb
 | .bool x, db, A, s, _, _, _, _, ra, rb, _, hb, hu => by
   cases ra
   cases rb with
   | none => exact EqAt.bool_none x
   | bool y => exact EqAt.bool_bool x y
   | int y u => exact EqAt.bool_int x y u
   | str y u => exact EqAt.bool_str x y u
   | list k1 k2 k3 k4 => exact EqAt.bool_list x ⟨_, k1, k2, _, k3⟩ (room_here hu)
   | tuple k1 k2 k3 k4 => exact EqAt.bool_tuple x ⟨_, k1, k2, _, k3⟩ (room_here hu)
   | dict => rw [L2.nd] at hb; cases hb
 | .int x, db, A, s, _, _, _, _, ra, rb, _, hb, hu => by
   cases ra
   cases rb with
   | none => exact EqAt.int_none x _
   | bool y => exact EqAt.int_bool x _ y
   | int y u => exact EqAt.int_int x _ y u
   | str y u => exact EqAt.int_str x _ y u
   | list k1 k2 k3 k4 => exact EqAt.int_list x _ ⟨_, k1, k2, _, k3⟩ (room_here hu)
   | tuple k1 k2 k3 k4 => exact EqAt.int_tuple x _ ⟨_, k1, k2, _, k3⟩ (room_here hu)
   | dict => rw [L2.nd] at hb; cases hb
 | .str x, db, A, s, _, _, _, _, ra, rb, _, hb, hu => by
   cases ra
   cases rb with
   | none => exact EqAt.str_none x _
   | bool y => exact EqAt.str_bool x _ y
   | int y u => exact EqAt.str_int x _ y u
   | str y u => exact EqAt.str_str x _ y u
   | list k1 k2 k3 k4 => exact EqAt.str_list x _ ⟨_, k1, k2, _, k3⟩ (room_here hu)
   | tuple k1 k2 k3 k4 => exact EqAt.str_tuple x _ ⟨_, k1, k2, _, k3⟩ (room_here hu)
   | dict => rw [L2.nd] at hb; cases hb
 | .list xs, db, A, s, _, _, _, _, ra, rb, ha, hb, hu => by
   have ra0 := ra
   have rb0 := rb
   cases ra with
   | @list l o1 vs1 n1 xs as h1 h2 h3 h4 =>
     cases rb with
     | none => exact EqAt.list_none ⟨_, h1, h2, _, h3⟩ (room_here hu)
     | bool y => exact EqAt.list_bool y ⟨_, h1, h2, _, h3⟩ (room_here hu)
     | int y u => exact EqAt.list_int y u ⟨_, h1, h2, _, h3⟩ (room_here hu)
     | str y u => exact EqAt.list_str y u ⟨_, h1, h2, _, h3⟩ (room_here hu)
     | tuple k1 k2 k3 k4 => exact EqAt.list_tuple ⟨_, h1, h2, _, h3⟩ ⟨_, k1, k2, _, k3⟩ (room_here hu)
     | @list b o vs2 n2 ys bs k1 k2 k3 k4 =>
       by_cases e : l = b
       ·subst e
        rw [wk0 _ _ _ _ _ ha ra0 rb0, qm6 _ hb]
        exact EqAt.same _
       ·refine EqAt.of_refs e ?_
        have l1 := L5 h4
        have l2 := L5 k4
        rw [L2.nd] at ha hb
        by_cases hz : xs.length = ys.length
        ·have := RcAt.lists (A := A) (s := s) (e := pairEq xs ys) ⟨_, h1, h2, _, h3⟩ ⟨_, k1, k2, _, k3⟩ (by simp at l1 l2; omega) (room_here hu) (fun j h1 h2 => by have q := V1 xs ys A.in1 s _ _ _ _ h4 k4 ha hb (room_in (by rw [PyData.depth, PyData.depth] at hu; exact hu)) j (by simpa using h1) (by simpa using h2); rw [Array.getElem_toList, Array.getElem_toList] at q; exact q)
         rw [show PyData.eqv (.list xs) (.list ys) = PyData.eqvAll xs ys by rw [PyData.eqv], <- eqvAll_same_length hz]
         have e1 : vs1.size = xs.length := by simpa using l1
         rw [e1] at this
         exact this
        ·rw [show PyData.eqv (.list xs) (.list ys) = PyData.eqvAll xs ys by rw [PyData.eqv], eqvAll_other_length hz]
         exact RcAt.lists_lengths ⟨_, h1, h2, _, h3⟩ ⟨_, k1, k2, _, k3⟩ (by simp at l1 l2; simp; omega) (room_here hu)
     | dict => rw [L2.nd] at hb; cases hb
 | .tuple xs, db, A, s, _, _, _, _, ra, rb, ha, hb, hu => by
   have ra0 := ra
   have rb0 := rb
   cases ra with
   | @tuple l o1 vs1 n1 xs as h1 h2 h3 h4 =>
     cases rb with
     | none => exact EqAt.tuple_none ⟨_, h1, h2, _, h3⟩ (room_here hu)
     | bool y => exact EqAt.tuple_bool y ⟨_, h1, h2, _, h3⟩ (room_here hu)
     | int y u => exact EqAt.tuple_int y u ⟨_, h1, h2, _, h3⟩ (room_here hu)
     | str y u => exact EqAt.tuple_str y u ⟨_, h1, h2, _, h3⟩ (room_here hu)
     | list k1 k2 k3 k4 => exact EqAt.tuple_list ⟨_, h1, h2, _, h3⟩ ⟨_, k1, k2, _, k3⟩ (room_here hu)
     | @tuple b o vs2 n2 ys bs k1 k2 k3 k4 =>
       by_cases e : l = b
       ·subst e
        rw [wk0 _ _ _ _ _ ha ra0 rb0, qm6 _ hb]
        exact EqAt.same _
       ·refine EqAt.of_refs e ?_
        have l1 := L5 h4
        have l2 := L5 k4
        rw [L2.nd] at ha hb
        have := RcAt.tuples (A := A) (s := s) (e := pairEq xs ys) ⟨_, h1, h2, _, h3⟩ ⟨_, k1, k2, _, k3⟩ (room_here hu) (fun j h1 h2 => by have q := V1 xs ys A.in1 s _ _ _ _ h4 k4 ha hb (room_in (by rw [PyData.depth, PyData.depth] at hu; exact hu)) j (by simpa using h1) (by simpa using h2); rw [Array.getElem_toList, Array.getElem_toList] at q; exact q)
        rw [show PyData.eqv (.tuple xs) (.tuple ys) = PyData.eqvAll xs ys by rw [PyData.eqv], <- eqvAll_eq xs ys]
        have e1 : vs1.size = xs.length := by simpa using l1
        have e2 : vs2.size = ys.length := by simpa using l2
        rw [e1, e2] at this
        exact this
     | dict => rw [L2.nd] at hb; cases hb
 | .dict _, _, _, _, _, _, _, _, _, _, ha, _, _ => by rw [L2.nd] at ha; cases ha
theorem V1 : ∀ (xs ys : List PyData) (A : Around) (s : Shared) (us ws : List Value) (as bs : List Addr), ReadsAll s.heap us xs as -> ReadsAll s.heap ws ys bs -> nds xs = true -> nds ys = true -> A.units + min (PyData.depthAll xs) (PyData.depthAll ys) < cLine ->
 ∀ j (h1 : j < us.length) (h2 : j < ws.length), EqAt A s us[j] ws[j] (pairEq xs ys j)
 | [], _, _, _, _, _, _, _, r, _, _, _, _ => by cases r; intro j h1; simp at h1
 | x :: xs, ys, A, s, _, ws, _, _, r, q, ha, hb, hu => by
   cases r with
   | @cons u us d ds as1 as2 r1 r2 =>
     cases q with
     | nil => intro j h1 h2; simp at h2
     | @cons w ws y ys bs1 bs2 q1 q2 =>
       rw [nds, Bool.and_eq_true] at ha hb
       rw [PyData.depthAll, PyData.depthAll] at hu
       intro j h1 h2
       cases j with
       | zero => exact ye3 x y A s u w _ _ r1 q1 ha.1 hb.1 (room_head hu)
       | succ j =>
         exact V1 xs ys A s us ws _ _ r2 q2 ha.2 hb.2 (room_tail hu) j (by simpa using h1) (by simpa using h2)
end
variable {db : PyData}
theorem yz0 {da : PyData} {a b : Value} {bs : List Addr} (ra : Reads s.heap a da as) (rb : Reads s.heap b db bs) (ha : nd da = true) (hb : nd db = true) (hu : A.units + min da.depth db.depth < cLine) : RcAt A s a b (PyData.eqv da db) := by
 cases ra with
 | none =>
   cases rb with
   | none => exact RcAt.none_none
   | bool y => exact RcAt.none_bool y
   | int y u => exact RcAt.none_int y u
   | str y u => exact RcAt.none_str y u
   | @list l2 o2 ws n2 ys bs k1 k2 k3 k4 => exact RcAt.none_list ⟨_, k1, k2, _, k3⟩ (room_here hu)
   | @tuple l2 o2 ws n2 ys bs k1 k2 k3 k4 => exact RcAt.none_tuple ⟨_, k1, k2, _, k3⟩ (room_here hu)
   | dict => rw [L2.nd] at hb; cases hb
 | bool x =>
   cases rb with
   | none => exact RcAt.bool_none x
   | bool y => exact RcAt.bool_bool x y
   | int y u => exact RcAt.bool_int x y u
   | str y u => exact RcAt.bool_str x y u
   | @list l2 o2 ws n2 ys bs k1 k2 k3 k4 => exact RcAt.bool_list x ⟨_, k1, k2, _, k3⟩ (room_here hu)
   | @tuple l2 o2 ws n2 ys bs k1 k2 k3 k4 => exact RcAt.bool_tuple x ⟨_, k1, k2, _, k3⟩ (room_here hu)
   | dict => rw [L2.nd] at hb; cases hb
 | int x t =>
   cases rb with
   | none => exact RcAt.int_none x t
   | bool y => exact RcAt.int_bool x t y
   | int y u => exact RcAt.int_int x t y u
   | str y u => exact RcAt.int_str x t y u
   | @list l2 o2 ws n2 ys bs k1 k2 k3 k4 => exact RcAt.int_list x t ⟨_, k1, k2, _, k3⟩ (room_here hu)
   | @tuple l2 o2 ws n2 ys bs k1 k2 k3 k4 => exact RcAt.int_tuple x t ⟨_, k1, k2, _, k3⟩ (room_here hu)
   | dict => rw [L2.nd] at hb; cases hb
 | str x t =>
   cases rb with
   | none => exact RcAt.str_none x t
   | bool y => exact RcAt.str_bool x t y
   | int y u => exact RcAt.str_int x t y u
   | str y u => exact RcAt.str_str x t y u
   | @list l2 o2 ws n2 ys bs k1 k2 k3 k4 => exact RcAt.str_list x t ⟨_, k1, k2, _, k3⟩ (room_here hu)
   | @tuple l2 o2 ws n2 ys bs k1 k2 k3 k4 => exact RcAt.str_tuple x t ⟨_, k1, k2, _, k3⟩ (room_here hu)
   | dict => rw [L2.nd] at hb; cases hb
 | @list l o vs n xs as h1 h2 h3 h4 =>
   cases rb with
   | none => exact RcAt.list_none ⟨_, h1, h2, _, h3⟩ (room_here hu)
   | bool y => exact RcAt.list_bool y ⟨_, h1, h2, _, h3⟩ (room_here hu)
   | int y u => exact RcAt.list_int y u ⟨_, h1, h2, _, h3⟩ (room_here hu)
   | str y u => exact RcAt.list_str y u ⟨_, h1, h2, _, h3⟩ (room_here hu)
   | @list l2 o2 ws n2 ys bs k1 k2 k3 k4 =>
     have l1 : vs.size = xs.length := by simpa using L5 h4
     have l2 : ws.size = ys.length := by simpa using L5 k4
     rw [L2.nd] at ha hb
     rw [PyData.depth, PyData.depth] at hu
     have hi : ∀ j (h1 : j < vs.size) (h2 : j < ws.size), EqAt A.in1 s vs[j] ws[j] (pairEq xs ys j) := fun j h1 h2 => by
      have q := V1 xs ys A.in1 s _ _ _ _ h4 k4 ha hb (room_in hu) j (by simpa using h1) (by simpa using h2)
      rw [Array.getElem_toList, Array.getElem_toList] at q
      exact q
     have hu' : A.units < cLine := room_here hu
     rw [show PyData.eqv (.list xs) (.list ys) = PyData.eqvAll xs ys by rw [PyData.eqv]]
     by_cases hz : xs.length = ys.length
     ·have q := RcAt.lists (A := A) (s := s) (e := pairEq xs ys) ⟨_, h1, h2, _, h3⟩ ⟨_, k1, k2, _, k3⟩ (by omega) hu' hi
      rw [l1, eqvAll_same_length hz] at q
      exact q
     ·rw [eqvAll_other_length hz]
      exact RcAt.lists_lengths ⟨_, h1, h2, _, h3⟩ ⟨_, k1, k2, _, k3⟩ (by simp; omega) hu'
   | @tuple l2 o2 ws n2 ys bs k1 k2 k3 k4 => exact RcAt.list_tuple ⟨_, h1, h2, _, h3⟩ ⟨_, k1, k2, _, k3⟩ (room_here hu)
   | dict => rw [L2.nd] at hb; cases hb
 | @tuple l o vs n xs as h1 h2 h3 h4 =>
   cases rb with
   | none => exact RcAt.tuple_none ⟨_, h1, h2, _, h3⟩ (room_here hu)
   | bool y => exact RcAt.tuple_bool y ⟨_, h1, h2, _, h3⟩ (room_here hu)
   | int y u => exact RcAt.tuple_int y u ⟨_, h1, h2, _, h3⟩ (room_here hu)
   | str y u => exact RcAt.tuple_str y u ⟨_, h1, h2, _, h3⟩ (room_here hu)
   | @list l2 o2 ws n2 ys bs k1 k2 k3 k4 => exact RcAt.tuple_list ⟨_, h1, h2, _, h3⟩ ⟨_, k1, k2, _, k3⟩ (room_here hu)
   | @tuple l2 o2 ws n2 ys bs k1 k2 k3 k4 =>
     have l1 : vs.size = xs.length := by simpa using L5 h4
     have l2 : ws.size = ys.length := by simpa using L5 k4
     rw [L2.nd] at ha hb
     rw [PyData.depth, PyData.depth] at hu
     have hi : ∀ j (h1 : j < vs.size) (h2 : j < ws.size), EqAt A.in1 s vs[j] ws[j] (pairEq xs ys j) := fun j h1 h2 => by
      have q := V1 xs ys A.in1 s _ _ _ _ h4 k4 ha hb (room_in hu) j (by simpa using h1) (by simpa using h2)
      rw [Array.getElem_toList, Array.getElem_toList] at q
      exact q
     have hu' : A.units < cLine := room_here hu
     rw [show PyData.eqv (.tuple xs) (.tuple ys) = PyData.eqvAll xs ys by rw [PyData.eqv]]
     have q := RcAt.tuples (A := A) (s := s) (e := pairEq xs ys) ⟨_, h1, h2, _, h3⟩ ⟨_, k1, k2, _, k3⟩ hu' hi
     rw [l1, l2, eqvAll_eq xs ys] at q
     exact q
   | dict => rw [L2.nd] at hb; cases hb
 | dict => rw [L2.nd] at ha; cases ha
theorem ye4 {da : PyData} {a b : Value} {bs : List Addr} (ra : Reads s.heap a da as) (rb : Reads s.heap b db bs) (ha : nd da = true) (hb : nd db = true) (hu : A.units + min da.depth db.depth < cLine) : RcNeAt A s a b (!PyData.eqv da db) := by
 cases ra with
 | none =>
   cases rb with
   | none => exact RcNeAt.none_none
   | bool y => exact RcNeAt.none_bool y
   | int y u => exact RcNeAt.none_int y u
   | str y u => exact RcNeAt.none_str y u
   | @list l2 o2 ws n2 ys bs k1 k2 k3 k4 => exact RcNeAt.none_list ⟨_, k1, k2, _, k3⟩ (room_here hu)
   | @tuple l2 o2 ws n2 ys bs k1 k2 k3 k4 => exact RcNeAt.none_tuple ⟨_, k1, k2, _, k3⟩ (room_here hu)
   | dict => rw [L2.nd] at hb; cases hb
 | bool x =>
   cases rb with
   | none => exact RcNeAt.bool_none x
   | bool y => exact RcNeAt.bool_bool x y
   | int y u => exact RcNeAt.bool_int x y u
   | str y u => exact RcNeAt.bool_str x y u
   | @list l2 o2 ws n2 ys bs k1 k2 k3 k4 => exact RcNeAt.bool_list x ⟨_, k1, k2, _, k3⟩ (room_here hu)
   | @tuple l2 o2 ws n2 ys bs k1 k2 k3 k4 => exact RcNeAt.bool_tuple x ⟨_, k1, k2, _, k3⟩ (room_here hu)
   | dict => rw [L2.nd] at hb; cases hb
 | int x t =>
   cases rb with
   | none => exact RcNeAt.int_none x t
   | bool y => exact RcNeAt.int_bool x t y
   | int y u => exact RcNeAt.int_int x t y u
   | str y u => exact RcNeAt.int_str x t y u
   | @list l2 o2 ws n2 ys bs k1 k2 k3 k4 => exact RcNeAt.int_list x t ⟨_, k1, k2, _, k3⟩ (room_here hu)
   | @tuple l2 o2 ws n2 ys bs k1 k2 k3 k4 => exact RcNeAt.int_tuple x t ⟨_, k1, k2, _, k3⟩ (room_here hu)
   | dict => rw [L2.nd] at hb; cases hb
 | str x t =>
   cases rb with
   | none => exact RcNeAt.str_none x t
   | bool y => exact RcNeAt.str_bool x t y
   | int y u => exact RcNeAt.str_int x t y u
   | str y u => exact RcNeAt.str_str x t y u
   | @list l2 o2 ws n2 ys bs k1 k2 k3 k4 => exact RcNeAt.str_list x t ⟨_, k1, k2, _, k3⟩ (room_here hu)
   | @tuple l2 o2 ws n2 ys bs k1 k2 k3 k4 => exact RcNeAt.str_tuple x t ⟨_, k1, k2, _, k3⟩ (room_here hu)
   | dict => rw [L2.nd] at hb; cases hb
 | @list l o vs n xs as h1 h2 h3 h4 =>
   cases rb with
   | none => exact RcNeAt.list_none ⟨_, h1, h2, _, h3⟩ (room_here hu)
   | bool y => exact RcNeAt.list_bool y ⟨_, h1, h2, _, h3⟩ (room_here hu)
   | int y u => exact RcNeAt.list_int y u ⟨_, h1, h2, _, h3⟩ (room_here hu)
   | str y u => exact RcNeAt.list_str y u ⟨_, h1, h2, _, h3⟩ (room_here hu)
   | @list l2 o2 ws n2 ys bs k1 k2 k3 k4 =>
     have l1 : vs.size = xs.length := by simpa using L5 h4
     have l2 : ws.size = ys.length := by simpa using L5 k4
     rw [L2.nd] at ha hb
     rw [PyData.depth, PyData.depth] at hu
     have hi : ∀ j (h1 : j < vs.size) (h2 : j < ws.size), EqAt A.in1 s vs[j] ws[j] (pairEq xs ys j) := fun j h1 h2 => by
      have q := V1 xs ys A.in1 s _ _ _ _ h4 k4 ha hb (room_in hu) j (by simpa using h1) (by simpa using h2)
      rw [Array.getElem_toList, Array.getElem_toList] at q
      exact q
     have hu' : A.units < cLine := room_here hu
     rw [show PyData.eqv (.list xs) (.list ys) = PyData.eqvAll xs ys by rw [PyData.eqv]]
     by_cases hz : xs.length = ys.length
     ·have q := RcNeAt.lists (A := A) (s := s) (e := pairEq xs ys) ⟨_, h1, h2, _, h3⟩ ⟨_, k1, k2, _, k3⟩ (by omega) hu' hi
      rw [l1, eqvAll_same_length hz] at q
      exact q
     ·rw [eqvAll_other_length hz]
      exact RcNeAt.lists_lengths ⟨_, h1, h2, _, h3⟩ ⟨_, k1, k2, _, k3⟩ (by simp; omega) hu'
   | @tuple l2 o2 ws n2 ys bs k1 k2 k3 k4 => exact RcNeAt.list_tuple ⟨_, h1, h2, _, h3⟩ ⟨_, k1, k2, _, k3⟩ (room_here hu)
   | dict => rw [L2.nd] at hb; cases hb
 | @tuple l o vs n xs as h1 h2 h3 h4 =>
   cases rb with
   | none => exact RcNeAt.tuple_none ⟨_, h1, h2, _, h3⟩ (room_here hu)
   | bool y => exact RcNeAt.tuple_bool y ⟨_, h1, h2, _, h3⟩ (room_here hu)
   | int y u => exact RcNeAt.tuple_int y u ⟨_, h1, h2, _, h3⟩ (room_here hu)
   | str y u => exact RcNeAt.tuple_str y u ⟨_, h1, h2, _, h3⟩ (room_here hu)
   | @list l2 o2 ws n2 ys bs k1 k2 k3 k4 => exact RcNeAt.tuple_list ⟨_, h1, h2, _, h3⟩ ⟨_, k1, k2, _, k3⟩ (room_here hu)
   | @tuple l2 o2 ws n2 ys bs k1 k2 k3 k4 =>
     have l1 : vs.size = xs.length := by simpa using L5 h4
     have l2 : ws.size = ys.length := by simpa using L5 k4
     rw [L2.nd] at ha hb
     rw [PyData.depth, PyData.depth] at hu
     have hi : ∀ j (h1 : j < vs.size) (h2 : j < ws.size), EqAt A.in1 s vs[j] ws[j] (pairEq xs ys j) := fun j h1 h2 => by
      have q := V1 xs ys A.in1 s _ _ _ _ h4 k4 ha hb (room_in hu) j (by simpa using h1) (by simpa using h2)
      rw [Array.getElem_toList, Array.getElem_toList] at q
      exact q
     have hu' : A.units < cLine := room_here hu
     rw [show PyData.eqv (.tuple xs) (.tuple ys) = PyData.eqvAll xs ys by rw [PyData.eqv]]
     have q := RcNeAt.tuples (A := A) (s := s) (e := pairEq xs ys) ⟨_, h1, h2, _, h3⟩ ⟨_, k1, k2, _, k3⟩ hu' hi
     rw [l1, l2, eqvAll_eq xs ys] at q
     exact q
   | dict => rw [L2.nd] at hb; cases hb
 | dict => rw [L2.nd] at ha; cases ha
theorem R0 {k : Nat} (r : qa4 k A) : A.units + 190 < cLine := by have := r.un; omega
def R1 (K : Fg) : R2 := fun x y H Q => rEq x y H Q \/ ∃ d e, Dv K H d x /\ Dv K H e y /\ min d.depth e.depth <= 190 /\ Q (.bl (PyData.eqv d e)) H
def qm7 (K : Fg) : R2 := fun x y H Q => rNe x y H Q \/ ∃ d e, Dv K H d x /\ Dv K H e y /\ min d.depth e.depth <= 190 /\ Q (.bl (!PyData.eqv d e)) H
theorem M7 (hu : X.A.units + 190 < cLine) : OpR X (compareOp .Eq) (R1 X.K) := by
 refine zd6.or ?_
 intro pins s σ H x y v u Q I rx ry h
 obtain ⟨d, e, hx, hy, hz, q⟩ := h
 obtain ⟨as, ra⟩ := Dv.reads I d x v hx rx
 obtain ⟨bs, rb⟩ := Dv.reads I e y u hy ry
 have hroom : X.A.units + min d.depth e.depth < cLine := Nat.lt_of_le_of_lt (Nat.add_le_add_left hz _) hu
 exact yz0 ra rb (Dv.nd d x hx) (Dv.nd e y hy) hroom X.prog X.w X.xe _ ⟨.bl _, H, I, rfl, q⟩
theorem qg6 (hu : X.A.units + 190 < cLine) : OpR X (compareOp .NotEq) (qm7 X.K) := by
 refine zd7.or ?_
 intro pins s σ H x y v u Q I rx ry h
 obtain ⟨d, e, hx, hy, hz, q⟩ := h
 obtain ⟨as, ra⟩ := Dv.reads I d x v hx rx
 obtain ⟨bs, rb⟩ := Dv.reads I e y u hy ry
 have hroom : X.A.units + min d.depth e.depth < cLine := Nat.lt_of_le_of_lt (Nat.add_le_add_left hz _) hu
 exact ye4 ra rb (Dv.nd d x hx) (Dv.nd e y hy) hroom X.prog X.w X.xe _ ⟨.bl _, H, I, rfl, q⟩
def P4 (K : Fg) : R2 := fun x y H Q => rI0 (fun i j => .int (i + j)) x y H Q \/ (∃ i j, x = .str i /\ y = .str j /\ i.length + j.length <= sizeLine /\ Q (.str (i ++ j)) H) \/ ze7 x y H Q \/ yu4 K x y H Q
theorem L8 : OpR X (binaryOp .Add) (P4 X.K) := yw8.or (xm2.or (yy0.or yo3))
def yu6 : R2 := fun x y H Q => ∃ z n, x = .str z /\ y = .int n /\ 0 <= n /\ n <= 1000 /\ z.length <= 1000 /\ Q (.str (PySem.Txt.mul z n)) H
theorem xn2 : OpR X (binaryOp .Mult) yu6 := by
 intro pins s σ H x y v u Q I rx ry h
 obtain ⟨z, n, rfl, rfl, h0, h1, h2, q⟩ := h
 obtain ⟨t, rfl⟩ := rx
 obtain ⟨t', rfl⟩ := ry
 refine wpAny_with_toks (n := 1) I.tk (SB.mul ⟨?_, fun hn _ => ?_, fun hn _ => ?_⟩ fun t' k ht => ⟨.str _, H, I.tok _ ht, ⟨_, rfl⟩, q⟩)
 ·rw [decide_eq_false (by omega), decide_eq_false (by omega)]; rfl
 ·have e1 : (2 ^ 63 - 1 : Int) / n >= (2 ^ 63 - 1) / 1000 := by
   have hp : (0 : Int) < n := by omega
   apply Int.le_ediv_of_mul_le hp
   have : (2 ^ 63 - 1 : Int) / 1000 * n <= (2 ^ 63 - 1) / 1000 * 1000 := Int.mul_le_mul_of_nonneg_left h1 (by decide)
   have e : (2 ^ 63 - 1 : Int) / 1000 * 1000 <= 2 ^ 63 - 1 := by decide
   omega
  have e2 : (2 ^ 63 - 1 : Int) / 1000 >= 1000 := by decide
  omega
 ·have : z.length * n.toNat <= 1000 * 1000 := Nat.mul_le_mul h2 (by omega)
  have hs : sizeLine = 16777216 := sizeLine_eq
  unfold Builtin.Str.tooLong
  exact decide_eq_false (by omega)
def wk1 : R2 := fun x y H Q => rI yc8 (fun i j => .int (i * j)) x y H Q \/ yu6 x y H Q \/ ze8 x y H Q
theorem qu5 : OpR X (binaryOp .Mult) wk1 := yw9.or (xn2.or yy1)
def zj7 : R2 := fun x y H Q => ∃ i j : Str, x = .str i /\ y = .str j /\ Q (.bl (decide (i.cps.toList < j.cps.toList))) H
def zf2 : R2 := fun x y H Q => ∃ i j : Str, x = .str i /\ y = .str j /\ Q (.bl (!decide (j.cps.toList < i.cps.toList))) H
def zf3 : R2 := fun x y H Q => ∃ i j : Str, x = .str i /\ y = .str j /\ Q (.bl (decide (j.cps.toList < i.cps.toList))) H
def zf4 : R2 := fun x y H Q => ∃ i j : Str, x = .str i /\ y = .str j /\ Q (.bl (!decide (i.cps.toList < j.cps.toList))) H
theorem xy2 : OpR X (compareOp .LtE) zf2 := by
 intro pins s σ H x y v u Q I rx ry h
 obtain ⟨i, j, rfl, rfl, q⟩ := h
 obtain ⟨t, rfl⟩ := rx
 obtain ⟨t', rfl⟩ := ry
 exact PySem.P.le_str ⟨.bl _, H, I, rfl, q⟩
theorem xy3 : OpR X (compareOp .Gt) zf3 := by
 intro pins s σ H x y v u Q I rx ry h
 obtain ⟨i, j, rfl, rfl, q⟩ := h
 obtain ⟨t, rfl⟩ := rx
 obtain ⟨t', rfl⟩ := ry
 exact PySem.P.gt_str ⟨.bl _, H, I, rfl, q⟩
theorem xy4 : OpR X (compareOp .GtE) zf4 := by
 intro pins s σ H x y v u Q I rx ry h
 obtain ⟨i, j, rfl, rfl, q⟩ := h
 obtain ⟨t, rfl⟩ := rx
 obtain ⟨t', rfl⟩ := ry
 exact PySem.P.ge_str ⟨.bl _, H, I, rfl, q⟩
def wk2 : R2 := fun x y H Q => rI0 (fun i j => .bl (decide (i < j))) x y H Q \/ zj7 x y H Q
def xn3 : R2 := fun x y H Q => rI0 (fun i j => .bl (decide (i <= j))) x y H Q \/ zf2 x y H Q
def xy5 : R2 := fun x y H Q => rI0 (fun i j => .bl (decide (j < i))) x y H Q \/ zf3 x y H Q
def yp2 : R2 := fun x y H Q => rI0 (fun i j => .bl (decide (j <= i))) x y H Q \/ zf4 x y H Q
theorem qm8 : OpR X (compareOp .Lt) wk2 := zd8.or xw7
theorem wy4 : OpR X (compareOp .LtE) xn3 := zd9.or xy2
theorem wy5 : OpR X (compareOp .Gt) xy5 := ze0.or xy3
theorem ye5 : OpR X (compareOp .GtE) yp2 := ze1.or xy4
def zj8 (neg : Bool) : R2 := fun x y H Q => ∃ i j : Str, x = .str i /\ y = .str j /\ Q (.bl (if neg then !(!(Builtin.Str.occurrences j i 0 j.length 1).isEmpty) else !(Builtin.Str.occurrences j i 0 j.length 1).isEmpty)) H
def ye6 (K : Fg) (neg : Bool) : R2 := fun x y H Q => rIn K neg x y H Q \/ zj8 neg x y H Q
theorem yz1 : OpR X (compareOp .In) (ye6 X.K false) := xx6.or xw8
theorem xy6 : OpR X (compareOp .NotIn) (ye6 X.K true) := wx8.or wx9
def wq7 : R2 := fun x y H Q => y = .non /\ Q (.bl (decide (x = .non))) H
def qi5 : R2 := fun x y H Q => y = .non /\ Q (.bl (!decide (x = .non))) H
theorem qr6 : OpR X (compareOp .Is) wq7 := yx0
theorem qh3 : OpR X (compareOp .IsNot) qi5 := yn9
def R8 (K : Fg) : List V -> Hp -> VK -> Prop := fun xs H Q => (∃ p ys, xs = [.ref p] /\ (SqL K H p ys \/ SqT K H p ys) /\ Q (.int ys.length) H) \/ (∃ z, xs = [.str z] /\ z.length <= sizeLine /\ Q (.int z.length) H) \/
 ∃ a kvs, xs = [V.ref a] /\ H a = some (.dK kvs) /\ Q (.int kvs.length) H
theorem G9 : Q7 X (.builtin "len") (R8 X.K) := wy0.or (wy1.or xy1)
def Y3 (K : Fg) : List V -> Hp -> VK -> Prop := fun xs H Q => ∃ p ys, xs = [.ref p] /\ ((SqL K H p ys /\ ∀ l, H l = none -> Q (.ref l) (upd H l (.tup ys))) \/ (SqT K H p ys /\ Q (.ref p) H))
theorem P5 : Q7 X (.type "tuple") (Y3 X.K) := wq6
def xs0 : List V -> Hp -> VK -> Prop := fun xs H Q => (∃ i, xs = [.int i] /\ Q (.int i) H) \/ ∃ k, xs = [.bl k] /\ Q (.int (if k then 1 else 0)) H
theorem wa0 : Q7 X (.type "int") xs0 := xx1
theorem qh4 : ∀ {xs : List Str} {us : List Value}, G3 (B3 xs) us -> StrsAre us xs
 | [], _, h => by cases h; exact .nil
 | x :: xs, _, h => by
   have h : G3 (V.str x :: B3 xs) _ := h
   cases h with
   | cons r t =>
     obtain ⟨t', rfl⟩ := r
     exact .cons x t' (qh4 t)
theorem wa1 : ∀ {xs : List Str} {us : List Value}, StrsAre us xs -> G3 (B3 xs) us
 | _, _, .nil => .nil
 | _, _, .cons y t h => .cons ⟨t, rfl⟩ (wa1 h)
def wk3 (K : Fg) : List V -> Hp -> VK -> Prop := fun xs H Q => ∃ p ys, xs = [.ref p] /\ SqL K H p (B3 ys) /\ ys.length < 64 /\
 ∀ l ys', ys'.Perm ys -> sortedS ys' = true -> H l = none -> Q (.ref l) (upd H l (.lst (B3 ys')))
theorem qu6 : Q7 X (.builtin "sorted") (wk3 X.K) := by
 intro pins s σ H xs us Q I r h
 obtain ⟨p, ys, rfl, hq, hl, q⟩ := h
 obtain ⟨u, rfl, rx⟩ := qd0 r
 cases rx
 obtain ⟨its, rv, pl, hz⟩ := I.list hq
 have hlen := rv.length
 have hn : (B3 ys).length = ys.length := List.length_map _
 refine sorted_strs pl.isList (qh4 rv) (by omega) fun out ss' h1 h2 h3 => ?_
 have kp : ∀ b o, s.heap.get? b = some o -> (sortedAll s.heap its out).get? b = some o := fun b o e => sortedAll_old e
 obtain ⟨e, he⟩ := sortedAll_at s.heap its out
 have hf : H (s.heap.objs.size + 1) = none := I.hok.fresh (Nat.le_succ _)
 have hz' : (B3 ss').length <= sizeLine := by
  have := h2.length_eq
  show (ss'.map V.str).length <= _
  rw [List.length_map]; rw [hn] at hz; omega
 refine ⟨.ref (s.heap.objs.size + 1), _, I.laid (t' := s.toks) (o := .lst (B3 ss')) kp (Nat.le_succ _) ?_, rfl, q _ _ h2 h3 hf⟩
 exact ⟨hz', out.toList, e, wa1 h1, by simpa [seqObj] using he⟩
def xf8 (K : Fg) : V -> List V -> Hp -> VK -> Prop := fun x vs H Q => ∃ z p ys, x = .str z /\ vs = [.ref p] /\ (SqL K H p (B3 ys) \/ SqT K H p (B3 ys)) /\ (ys.map (·.length)).sum + ys.length * z.length <= 16777216 /\ Q (.str (PySem.Txt.join z ys)) H
theorem wh1 : MtR X "str.join" (xf8 X.K) := by
 intro pins s σ H x vs v us Q I rx rv h
 obtain ⟨z, p, ys, rfl, rfl, hq, hs, q⟩ := h
 obtain ⟨t, rfl⟩ := rx
 obtain ⟨u, rfl, ru⟩ := rv.one
 cases ru
 rcases hq with hq | hq
 ·obtain ⟨its, r, pl, hz⟩ := I.list hq
  exact wpAny_with_toks (n := 1) I.tk (join_list pl.isList (by simpa using qh4 r) hs fun t' k ht => ⟨.str _, H, I.tok _ ht, ⟨_, rfl⟩, q⟩)
 ·obtain ⟨its, r, pl, hz⟩ := I.tuple hq
  exact wpAny_with_toks (n := 1) I.tk (join_tuple pl (by simpa using qh4 r) hs fun t' k ht => ⟨.str _, H, I.tok _ ht, ⟨_, rfl⟩, q⟩)
def xs1 : V -> List V -> Hp -> VK -> Prop := fun x vs H Q => ∃ (z y : Str) (i : Nat) (rest : List Nat), x = .str z /\ vs = [.str y] /\ Builtin.Str.occurrences z y 0 z.length 1 = i :: rest /\ Q (.int i) H
theorem wy6 : MtR X "str.index" xs1 := by
 intro pins s σ H x vs v us Q I rx rv h
 obtain ⟨z, y, i, rest, rfl, rfl, ho, q⟩ := h
 obtain ⟨t, rfl⟩ := rx
 obtain ⟨u, rfl, ru⟩ := rv.one
 obtain ⟨t', rfl⟩ := ru
 exact SC.index ho ⟨.int i, H, I.tok _, ⟨_, rfl⟩, q⟩
def qg7 (K : Fg) (tl : TE) : TI := fun σ H R => tl σ H fun x H1 => ∃ a, x = .ref a /\ (((∃ xs, SqL K H1 a xs) /\ R (Itl K a) H1) \/ ((∃ xs, SqT K H1 a xs) /\ R (Itt K a) H1))
variable {tl : TE}
theorem Q8 {l : Expr} (hl : PE X l tl) : PI X tg l (qg7 X.K tl) := by
 intro pins s σ H R I h
 refine thn (hl pins s σ H _ I h) fun v s1 zq => ?_
 obtain ⟨x, H1, I1, r1, q1⟩ := zq
 obtain ⟨a, e, q⟩ := q1
 subst e
 cases r1
 rcases q with ⟨⟨xs, hq⟩, q⟩ | ⟨⟨xs, hq⟩, q⟩
 ·obtain ⟨its, rv, p, hz⟩ := I1.list hq
  refine wpAny_pyIter_list p.isList ?_
  refine ⟨s1.heap.objs.size, [s1.heap.objs.size], _, _, H1, rfl, I1.kept (t' := s1.toks) fun b o e => Heap.get?_push_of_some _ e, xw3 a _, ⟨_, Heap.get?_push_size _ rfl, rfl, rfl⟩, fun b hb => ?_, q⟩
  have e : b = s1.heap.objs.size := by simpa using hb
  subst e
  exact I1.fpOk (Nat.le_refl _) (I1.hok.fresh (Nat.le_refl _))
 ·obtain ⟨its, rv, p, hz⟩ := I1.tuple hq
  refine wpAny_pyIter_tuple (show s1.heap.IsTuple a its.toArray from p) ?_
  refine ⟨s1.heap.objs.size, [s1.heap.objs.size], _, _, H1, rfl, I1.kept (t' := s1.toks) fun b o e => Heap.get?_push_of_some _ e, xm0 a _, ⟨_, Heap.get?_push_size _ rfl, rfl, rfl⟩, fun b hb => ?_, q⟩
  have e : b = s1.heap.objs.size := by simpa using hb
  subst e
  exact I1.fpOk (Nat.le_refl _) (I1.hok.fresh (Nat.le_refl _))
theorem xn4 {wi : TI} {g : TG} (h : wi σ H fun J H1 => ∃ W : Nat -> Nat -> St -> Hp -> Prop, (∃ m, W 0 m σ H1) /\ ∀ i m σ H, W i m σ H ->
 (J.stop i H /\ D.nx σ H) \/ (J.go i H /\ ∃ N : St -> Hp -> Prop, (∀ σ' H', N σ' H' -> ∃ m', m' < m /\ W (i + 1) m' σ' H') /\ ∀ x H', J.yld i H x H' -> g x σ H' fun σ2 H2 => tb { D with nx := N, ct := N, bk := D.nx } σ2 H2)) : ql8 wi g tb D σ H := h
abbrev wy7 (g : TG) (tb : TS) (D : Q6) (σ : St) (J : It) (H1 : Hp) : Prop := ∃ W : Nat -> Nat -> St -> Hp -> Prop, (∃ m, W 0 m σ H1) /\ ∀ i m σ H, W i m σ H ->
 (J.stop i H /\ D.nx σ H) \/ (J.go i H /\ ∃ N : St -> Hp -> Prop, (∀ σ' H', N σ' H' -> ∃ m', m' < m /\ W (i + 1) m' σ' H') /\ ∀ x H', J.yld i H x H' -> g x σ H' fun σ2 H2 => tb { D with nx := N, ct := N, bk := D.nx } σ2 H2)
theorem xs3 {g : TG} (hq : SqL K H a xs \/ SqT K H a xs) (Pv : Nat -> St -> Hp -> Prop) (h0 : Pv 0 σ H) (hl : SqL K H a xs -> ∀ i σ H, i <= xs.length -> Pv i σ H -> SqL K H a xs) (ht : SqT K H a xs -> ∀ i σ H, i <= xs.length -> Pv i σ H -> SqT K H a xs) (hs : ∀ i x σ H, xs[i]? = some x -> Pv i σ H -> g x σ H fun σ2 H2 => tb { D with nx := PAt Pv (i + 1), ct := PAt Pv (i + 1), bk := D.nx } σ2 H2) (hd : ∀ σ H, Pv xs.length σ H -> D.nx σ H) :
 ∃ b, V.ref a = .ref b /\ (((∃ xs, SqL K H b xs) /\ wy7 g tb D σ (Itl K b) H) \/ ((∃ xs, SqT K H b xs) /\ wy7 g tb D σ (Itt K b) H)) := by
 refine ⟨a, rfl, ?_⟩
 rcases hq with hq | hq
 ·exact .inl ⟨⟨xs, hq⟩, ql9 Pv h0 (hl hq) hs hd⟩
 ·exact .inr ⟨⟨xs, hq⟩, wx3 Pv h0 (ht hq) hs hd⟩
theorem qu7 {g : TG} {n : Int} (h0 : 0 <= n) (hn : n < 2 ^ 62) (Pv : Nat -> St -> Hp -> Prop) (p0 : Pv 0 σ H) (hs : ∀ (i : Nat) σ H, (i : Int) < n -> Pv i σ H -> g (.int i) σ H fun σ2 H2 => tb { D with nx := PAt Pv (i + 1), ct := PAt Pv (i + 1), bk := D.nx } σ2 H2) (hd : ∀ σ H, Pv n.toNat σ H -> D.nx σ H) :
 ∃ j : Int, [V.int n] = [.int j] /\ -(2 ^ 62) <= j /\ j < 2 ^ 62 /\ wy7 g tb D σ (Itr 0 j.toNat) H :=
 ⟨n, rfl, by omega, hn, xw5 (lo := 0) (n := n.toNat) Pv p0 (fun i σ H hi p => by rw [Int.zero_add]; exact hs i σ H (by omega) p) hd⟩
abbrev qu8 (g : TG) (tt : TT) (te : TE) (σ' : St) (Q : VK) (J : It) (H1 : Hp) : Prop := ∃ W : Nat -> Nat -> List V -> Hp -> Prop, (∃ m, W 0 m [] H1) /\ ∀ i m ys H, W i m ys H -> ys.length <= sizeLine /\
 ((J.stop i H /\ ∀ p, H p = none -> Q (.ref p) (upd H p (.lst ys))) \/
  (J.go i H /\ ∃ NN : List V -> Hp -> Prop, (∀ ys' H', NN ys' H' -> ∃ m', m' < m /\ W (i + 1) m' ys' H') /\ ∀ x H', J.yld i H x H' -> g x σ' H' fun σ2 H2 => tt σ2 H2 fun b H3 =>
   if b = true then te σ2 H3 fun y H4 => NN (ys ++ [y]) H4 else NN ys H3))
theorem yp3 {wi : TI} {g : TG} {Q : VK} (h : wi σ H (qu8 g tt te (qm5 fr σ) Q)) : T3 fr wi g tt te σ H Q := h
variable {σ' : St}
theorem wy8 {g : TG} {Q : VK} (item : Nat -> V -> Prop) (Pv : Nat -> List V -> Hp -> Prop) (h0 : Pv 0 [] H) (hlen : ∀ i ys H, i <= n -> Pv i ys H -> ys.length <= sizeLine) (hgo : ∀ i ys H, i < n -> Pv i ys H -> J.go i H) (hy : ∀ i ys H x H', i < n -> Pv i ys H -> J.yld i H x H' -> H' = H /\ item i x) (hst : ∀ ys H, Pv n ys H -> J.stop n H) (hs : ∀ i x ys H, i < n -> item i x -> Pv i ys H -> g x σ' H fun σ2 H2 => tt σ2 H2 fun b H3 => if b = true then te σ2 H3 fun y H4 => PAt Pv (i + 1) (ys ++ [y]) H4 else PAt Pv (i + 1) ys H3) (hd : ∀ ys H, Pv n ys H -> ∀ p, H p = none -> Q (.ref p) (upd H p (.lst ys))) : qu8 g tt te σ' Q J H := by
 refine ⟨fun i m ys H => m = n - i /\ i <= n /\ Pv i ys H, ⟨n, by simp, Nat.zero_le _, h0⟩, ?_⟩
 rintro i m ys H ⟨rfl, hi, p⟩
 refine ⟨hlen i ys H hi p, ?_⟩
 by_cases hlt : i < n
 ·refine .inr ⟨hgo i ys H hlt p, Pv (i + 1), fun ys' H' q => ⟨n - (i + 1), by omega, rfl, hlt, q⟩, fun x H' y => ?_⟩
  obtain ⟨rfl, hx⟩ := hy i ys H x H' hlt p y
  exact hs i x ys _ hlt hx p
 ·have e : i = n := by omega
  subst e
  exact .inl ⟨hst ys H p, hd ys H p⟩
theorem xy7 {g : TG} {Q : VK} (hq : SqL K H a xs) (Pv : Nat -> List V -> Hp -> Prop) (h0 : Pv 0 [] H) (hlen : ∀ i ys H, i <= xs.length -> Pv i ys H -> ys.length <= sizeLine) (hl : ∀ i ys H, i <= xs.length -> Pv i ys H -> SqL K H a xs) (hs : ∀ i x ys H, xs[i]? = some x -> Pv i ys H -> g x σ' H fun σ2 H2 => tt σ2 H2 fun b H3 => if b = true then te σ2 H3 fun y H4 => PAt Pv (i + 1) (ys ++ [y]) H4 else PAt Pv (i + 1) ys H3) (hd : ∀ ys H, Pv xs.length ys H -> ∀ p, H p = none -> Q (.ref p) (upd H p (.lst ys))) :
 ∃ b, V.ref a = .ref b /\ (((∃ xs, SqL K H b xs) /\ qu8 g tt te σ' Q (Itl K b) H) \/ ((∃ xs, SqT K H b xs) /\ qu8 g tt te σ' Q (Itt K b) H)) := by
 refine ⟨a, rfl, .inl ⟨⟨xs, hq⟩, wy8 (n := xs.length) (fun i x => xs[i]? = some x) Pv h0 hlen (fun i ys H hi p => ?_) (fun i ys H x H' hi p y => ?_) (fun ys H p => ?_) (fun i x ys H _ hx p => hs i x ys H hx p) hd⟩⟩
 ·exact ⟨xs, xs[i], hl i ys H (Nat.le_of_lt hi) p, by simp [hi]⟩
 ·exact ⟨y.1, y.2 xs (hl i ys H (Nat.le_of_lt hi) p)⟩
 ·exact ⟨xs, hl _ ys H (Nat.le_refl _) p, Nat.le_refl _⟩
theorem qo8 {g : TG} {Q : VK} {n : Int} (h0 : 0 <= n) (hn : n < 2 ^ 62) (Pv : Nat -> List V -> Hp -> Prop) (p0 : Pv 0 [] H) (hlen : ∀ (i : Nat) ys H, (i : Int) <= n -> Pv i ys H -> ys.length <= sizeLine) (hs : ∀ (i : Nat) ys H, (i : Int) < n -> Pv i ys H -> g (.int i) σ' H fun σ2 H2 => tt σ2 H2 fun b H3 => if b = true then te σ2 H3 fun y H4 => PAt Pv (i + 1) (ys ++ [y]) H4 else PAt Pv (i + 1) ys H3) (hd : ∀ ys H, Pv n.toNat ys H -> ∀ p, H p = none -> Q (.ref p) (upd H p (.lst ys))) :
 ∃ j : Int, [V.int n] = [.int j] /\ -(2 ^ 62) <= j /\ j < 2 ^ 62 /\ qu8 g tt te σ' Q (Itr 0 j.toNat) H :=
 ⟨n, rfl, by omega, hn, wy8 (n := n.toNat) (fun i x => x = .int i) Pv p0 (fun i ys H hi p => hlen i ys H (by omega) p) (fun i ys H hi _ => hi) (fun i ys H x H' hi _ y => ⟨y.1, by rw [y.2, Int.zero_add]⟩) (fun ys H _ => Nat.le_refl _)
  (fun i x ys H hi hx p => by subst hx; exact hs i ys H (by omega) p) hd⟩
section
variable {Q : VK}
theorem wy9 {t u : TS} (h : t { D with nx := u D } σ H) : D8 t u D σ H := h
theorem wz0 (h : D.nx σ H) : G8 D σ H := h
theorem ye7 {g : TG} (h : te σ H fun x H1 => g x σ H1 D.nx) : J0 te g D σ H := h
theorem J9 {i : Nat} {R : St -> Hp -> Prop} (h : R (σ.set i (some v)) H) : C3 i v σ H R := h
theorem qm9 {i : Nat} (e : σ[i]? = some (some v)) (h : Q v H) : B1 i σ H Q := ⟨v, e, h⟩
theorem zf5 (h : Q v H) : tC v σ H Q := h
theorem ye8 {r : R2} {tb : TE} (h : ta σ H fun x H1 => tb σ H1 fun y H2 => r x y H2 Q) : tOp r ta tb σ H Q := h
theorem zf6 {r : V -> Hp -> VK -> Prop} (h : ta σ H fun x H1 => r x H1 Q) : tUn r ta σ H Q := h
theorem ye9 (h : te σ H D.rt) : I0 te D σ H := h
theorem xs4 (h : te σ H fun _ H1 => D.nx σ H1) : qc8 te D σ H := h
theorem yu7 {c : TT} {t u : TS} (h : c σ H fun b H1 => if b = true then t D σ H1 else u D σ H1) : M9 c t u D σ H := h
theorem yz2 {c : TT} {tb : TE} (h : c σ H fun b H1 => if b = true then ta σ H1 Q else tb σ H1 Q) : tIf c ta tb σ H Q := h
theorem xs5 {t : TE} {R : Bool -> Hp -> Prop} (h : t σ H fun x H' => ∃ k, x = .bl k /\ R k H') : D5 t σ H R := h
theorem zj9 {t : TE} {R : Bool -> Hp -> Prop} (h : t σ H fun x H' => ∃ k, x = .bl k /\ R k H') : tB t σ H R := h
theorem zf7 {b : Bool} {R : Bool -> Prop} (h : R b) : ∃ k, V.bl b = .bl k /\ R k := ⟨b, rfl, h⟩
theorem yz3 {t u : TT} {R : Bool -> Hp -> Prop} (h : t σ H fun c H1 => if c = true then u σ H1 R else R false H1) : wi7 t u σ H R := h
theorem zf8 {t u : TT} {R : Bool -> Hp -> Prop} (h : t σ H fun c H1 => if c = true then R true H1 else u σ H1 R) : tOr t u σ H R := h
theorem yz4 {t : TT} {R : Bool -> Hp -> Prop} (h : t σ H fun c H1 => R (!c) H1) : wi8 t σ H R := h
theorem yp4 {tb : TE} (h : ta σ H fun x H1 => ∃ c, x = .bl c /\ if c = true then tb σ H1 Q else Q (.bl false) H1) : wd2 ta tb σ H Q := h
theorem xn5 {R : List V -> Hp -> Prop} (h : R [] H) : B7 σ H R := h
theorem xs6 {tr : TA} {R : List V -> Hp -> Prop} (h : ta σ H fun x H1 => tr σ H1 fun xs H2 => R (x :: xs) H2) : A9 ta tr σ H R := h
theorem yz5 (h : t σ H fun xs H1 => xs.length <= sizeLine /\ ∀ p, H1 p = none -> Q (.ref p) (upd H1 p (.tup xs))) : xm5 t σ H Q := h
theorem yf0 (h : t σ H fun xs H1 => xs.length <= sizeLine /\ ∀ p, H1 p = none -> Q (.ref p) (upd H1 p (.lst xs))) : O9 t σ H Q := h
theorem yp5 {E : XK} (h : t σ H fun vs H1 => sp (vs ++ dvs) H1 Q E) : D9 sp dvs E t σ H Q := h
theorem zf9 {r : List V -> Hp -> VK -> Prop} (h : t σ H fun vs H1 => r vs H1 Q) : tCB r t σ H Q := h
theorem zg0 {R : Bool -> Hp -> Prop} (h : R true H) : tTT σ H R := h
theorem yf1 (h : D.bk σ H) : xl5 D σ H := h
theorem xn6 (h : tl σ H fun x H1 => ∃ a, x = .ref a /\ (((∃ xs, SqL K H1 a xs) /\ R (Itl K a) H1) \/ ((∃ xs, SqT K H1 a xs) /\ R (Itt K a) H1))) : qg7 K tl σ H R := h
theorem yp6 {ta : TA} (h : ta σ H fun vs H1 => ∃ j : Int, vs = [.int j] /\ -(2 ^ 62) <= j /\ j < 2 ^ 62 /\ R (Itr 0 j.toNat) H1) : qq5 ta σ H R := h
theorem yz6 {t : yc4} {R : St -> Hp -> Prop} (h : to σ H fun o H1 => ti σ H1 fun i H2 => t o i v H2 fun H3 => R σ H3) : yc5 to ti t v σ H R := h
theorem yu8 {r : V -> List V -> Hp -> VK -> Prop} (h : to σ H fun x H1 => tyV K T x H1 /\ t σ H1 fun xs H2 => r x xs H2 Q) : tBM K T r to t σ H Q := h
theorem yf2 {r r' : R2} {tb : TE} (h : ta σ H fun x H1 => tb σ H1 fun y H2 => r x y H2 fun z H3 => ∃ k, z = .bl k /\ (if k = true then tc σ H3 fun w' H4 => r' y w' H4 Q else Q (.bl false) H3)) : wx5 r r' ta tb tc σ H Q := h
end
variable {z : Str}
section
variable {Q : VK}
theorem yz7 (h : Q (.int (i + j)) H) : P4 K (.int i) (.int j) H Q := .inl ⟨i, j, rfl, rfl, h⟩
theorem wz1 {i j : Str} (hz : i.length + j.length <= sizeLine) (h : Q (.str (i ++ j)) H) : P4 K (.str i) (.str j) H Q := .inr (.inl ⟨i, j, rfl, rfl, hz, h⟩)
theorem xf9 (h1 : H a = some (.lst xs)) (h2 : H b = some (.lst ys)) (hz : xs.length + ys.length <= sizeLine) (h : ∀ p, H p = none -> Q (.ref p) (upd H p (.lst (xs ++ ys)))) : P4 K (.ref a) (.ref b) H Q := .inr (.inr (.inl ⟨a, b, xs, ys, rfl, rfl, h1, h2, hz, h⟩))
theorem wk4 (c : yc8 i j) (h : Q (.int (i * j)) H) : wk1 (.int i) (.int j) H Q := .inl ⟨i, j, rfl, rfl, c, h⟩
theorem yz8 (c : xw6 i j) (h : Q (.int (i / j)) H) : rI xw6 (fun i j => .int (i / j)) (.int i) (.int j) H Q := ⟨i, j, rfl, rfl, c, h⟩
theorem zg1 (c : 0 < j) (h : Q (.int (i % j)) H) : rI (fun _ j => 0 < j) (fun i j => .int (i % j)) (.int i) (.int j) H Q := ⟨i, j, rfl, rfl, c, h⟩
theorem zg2 (h : Q (.bl (decide (i < j))) H) : wk2 (.int i) (.int j) H Q := .inl ⟨i, j, rfl, rfl, h⟩
theorem zg3 (h : Q (.bl (decide (i <= j))) H) : xn3 (.int i) (.int j) H Q := .inl ⟨i, j, rfl, rfl, h⟩
theorem zg4 (h : Q (.bl (decide (j < i))) H) : xy5 (.int i) (.int j) H Q := .inl ⟨i, j, rfl, rfl, h⟩
theorem zg5 (h : Q (.bl (decide (j <= i))) H) : yp2 (.int i) (.int j) H Q := .inl ⟨i, j, rfl, rfl, h⟩
theorem zg6 {i j : Str} (h : Q (.bl (decide (i.cps.toList < j.cps.toList))) H) : wk2 (.str i) (.str j) H Q := .inr ⟨i, j, rfl, rfl, h⟩
theorem yu9 {i j : Str} (h : Q (.bl (!decide (j.cps.toList < i.cps.toList))) H) : xn3 (.str i) (.str j) H Q := .inr ⟨i, j, rfl, rfl, h⟩
theorem wq8 {x : V} (c : yn8 x y = true) (h : Q (.bl (decide (x = y))) H) : R1 K x y H Q := .inl ⟨c, h⟩
theorem yz9 {x : V} (c : yn8 x y = true) (h : Q (.bl (!decide (x = y))) H) : qm7 K x y H Q := .inl ⟨c, h⟩
theorem yv0 {x : V} {d e : PyData} (h1 : Dv K H d x) (h2 : Dv K H e y) (hz : min d.depth e.depth <= 190) (h : Q (.bl (PyData.eqv d e)) H) : R1 K x y H Q := .inr ⟨d, e, h1, h2, hz, h⟩
theorem xg0 {x : V} {d e : PyData} (h1 : Dv K H d x) (h2 : Dv K H e y) (hz : min d.depth e.depth <= 190) (h : Q (.bl (!PyData.eqv d e)) H) : qm7 K x y H Q := .inr ⟨d, e, h1, h2, hz, h⟩
theorem zk0 {x : V} (h : Q (.bl (decide (x = .non))) H) : wq7 x .non H Q := ⟨rfl, h⟩
theorem yp7 {x : V} (h : Q (.bl (!decide (x = .non))) H) : qi5 x .non H Q := ⟨rfl, h⟩
theorem M5 (h1 : SqL K H p xs) (e : atI xs i = some v) (h : Q v H) : rIx K (.ref p) (.int i) H Q := .inl ⟨p, xs, i, v, rfl, rfl, h1, e, h⟩
theorem M0 (h1 : SqT K H p xs) (e : atI xs i = some v) (h : Q v H) : rIx K (.ref p) (.int i) H Q := .inr (.inl ⟨p, xs, i, v, rfl, rfl, h1, e, h⟩)
theorem yf3 {c : Nat} (hz : z.length <= sizeLine) (e : atI z.cps.toList i = some c) (h : Q (.str ⟨#[c]⟩) H) : rIx K (.str z) (.int i) H Q := .inr (.inr ⟨z, i, c, rfl, rfl, hz, e, h⟩)
theorem wa2 {x : V} (h1 : SqL K H p xs \/ SqT K H p xs) (fx : qe3 x = true) (fs : xs.all qe3 = true) (h : Q (.bl (inV x xs)) H) : ye6 K false x (.ref p) H Q := .inl ⟨p, xs, rfl, h1, fx, fs, h⟩
theorem qo9 {x : V} (h1 : SqL K H p xs \/ SqT K H p xs) (fx : qe3 x = true) (fs : xs.all qe3 = true) (h : Q (.bl (!inV x xs)) H) : ye6 K true x (.ref p) H Q := .inl ⟨p, xs, rfl, h1, fx, fs, h⟩
theorem R5 (h1 : SqL K H p xs \/ SqT K H p xs) (h : Q (.int xs.length) H) : R8 K [.ref p] H Q := .inl ⟨p, xs, rfl, h1, h⟩
theorem xn7 (hz : z.length <= sizeLine) (h : Q (.int z.length) H) : R8 K [.str z] H Q := .inr (.inl ⟨z, rfl, hz, h⟩)
theorem za0 {k : Int} {j : Nat} {R : Hp -> Prop} (h1 : H p = some (.lst xs)) (e : ixN xs.length k = some j) (h : R (upd H p (.lst (xs.set j v)))) : yd2 (.ref p) (.int k) v H R := ⟨p, xs, k, j, rfl, rfl, h1, e, h⟩
theorem S2 (h1 : H p = some (.lst xs)) (hz : xs.length < sizeLine) (h : Q .non (upd H p (.lst (xs ++ [y])))) : S7 (.ref p) [y] H Q := ⟨p, xs, y, rfl, rfl, h1, hz, h⟩
end
def xs7 : yc4 := fun o i v H Q => yd2 o i v H Q \/ ∃ a H', o = .ref a /\ xx7 H a i v H' /\ Q H'
theorem wk5 (hu : X.A.units + 1 < cLine) : yw6 X xs7 := by
 intro pins s σ H o i v ov iv u Q I ro ri rv h
 rcases h with h | ⟨a, H', rfl, g, q⟩
 ·exact yd3 pins s σ H o i v ov iv u Q I ro ri rv h
 ·cases ro
  exact xx9 hu I g ri rv fun s' I' => ⟨H', I', q⟩
def G5 (K : Fg) : R2 := rIx K
theorem B9 (hu : X.A.units + 1 < cLine) : IxR X (G5 X.K) := yx6
def zk1 (neg : Bool) : R2 := fun x y H Q => ∃ a o, y = .ref a /\ qq1 H a x o /\ Q (.bl (if neg then !o.isSome else o.isSome)) H
def X5 (K : Fg) (neg : Bool) : R2 := fun x y H Q => ye6 K neg x y H Q \/ zk1 neg x y H Q
theorem X6 (hu : X.A.units + 1 < cLine) : OpR X (compareOp .In) (X5 X.K false) := by
 refine yz1.or ?_
 intro pins s σ H x y v u Q I rx ry h
 obtain ⟨a, o, rfl, g, q⟩ := h
 cases ry
 exact zj6 hu I g rx fun s' I' => ⟨.bl o.isSome, H, I', rfl, q⟩
theorem S8 (hu : X.A.units + 1 < cLine) : OpR X (compareOp .NotIn) (X5 X.K true) := by
 refine xy6.or ?_
 intro pins s σ H x y v u Q I rx ry h
 obtain ⟨a, o, rfl, g, q⟩ := h
 cases ry
 exact yo8 hu I g rx fun s' I' => ⟨.bl (!o.isSome), H, I', rfl, q⟩
def yf4 (K : Fg) : List V -> Hp -> VK -> Prop := fun xs H Q => (∃ (x : V) (T : String) (t : Value) (b : Bool), xs = [x, .ty T] /\ qt6 K H x t /\ PySem.W.kitOne K t (.type T) = some b /\ Q (.bl b) H) \/
 ∃ (a : Addr) (ys : List V) (T : String) (b : Bool), xs = [.ref a, .ty T] /\ SqT K H a ys /\ PySem.W.kitOne K (.type "tuple") (.type T) = some b /\ Q (.bl b) H
theorem X7 : Q7 X (.builtin "isinstance") (yf4 X.K) := by
 intro pins s σ H xs us Q I r h
 rcases h with ⟨x, T, t, b, rfl, ty, e, q⟩ | ⟨a, ys, T, b, rfl, hq, e, q⟩
 ·obtain ⟨u, w', rfl, r1, r2⟩ := wu8 r
  cases r2
  exact wpAny_with_toks (n := 1) I.tk (xx4 I r1 ty e fun tk ht => ⟨.bl b, H, I.tok _ ht, rfl, q⟩)
 ·obtain ⟨u, w', rfl, r1, r2⟩ := wu8 r
  cases r2
  cases r1
  obtain ⟨its, rv, pl, hz⟩ := I.tuple hq
  obtain ⟨o, h1, h2, _⟩ := pl
  exact wpAny_with_toks (n := 1) I.tk (PySem.W.kia_one PySem.W.kitx_tuple I.kIn ⟨o, h1, h2⟩ e (fun z => nomatch z) fun tk ht => ⟨.bl b, H, I.tok _ ht, rfl, q⟩)
theorem yv1 {Q : VK} {x : V} {t : Value} {b : Bool} (ty : qt6 K H x t) (e : PySem.W.kitOne K t (.type T) = some b) (h : Q (.bl b) H) : yf4 K [x, .ty T] H Q := .inl ⟨x, T, t, b, rfl, ty, e, h⟩
example (K : Fg) : PySem.W.kitOne K (.type "str") (.type "str") = some true := by rfl
example (K : Fg) : PySem.W.kitOne K (.type "bool") (.type "int") = some true := by rfl
example (K : Fg) : PySem.W.kitOne K (.type "int") (.type "bool") = some false := by rfl
example (K : Fg) : PySem.W.kitOne K (.type "list") (.type "list") = some true := by rfl
section
variable {σ : List (Option V)}
theorem Inv.turnLaid {o : HO} {ch : List Addr} (I : Inv X pins σ H s) (hf : ∀ b ∈ ch, wq4 X pins H b) (k : ∀ b u, b ∉ ch -> s.heap.get? b = some u -> h'.get? b = some u) (hp : s.heap.objs.size <= a) (new : N1 X.prog X.w (upd H a o) h' a o) (ht : 0 < t') :
 Inv X pins σ (upd H a o) { s with heap := h', toks := t' } := by
 have hn : H a = none := I.hok.fresh hp
 have nit : ∀ b u, H b = some u -> b ∉ ch := fun b u e z => by rw [(hf b z).1] at e; cases e
 have up : ∀ {b : Addr} {u : HO}, H b = some u -> upd H a o b = some u := fun {b u} e => by rw [C4 (P7 e hn)]; exact e
 have neA : ∀ b u, s.heap.get? b = some u -> b ≠ a := fun b u e => Nat.ne_of_lt (Nat.lt_of_lt_of_le (Heap.lt_size e) hp)
 refine I.step (g' := s.gens) (d' := s.drawn) (ch := ch) (fun b hb => ?_) (fun b u _ _ hc e _ => k b u hc e) (fun b u _ _ hc e _ => ⟨u.slots, k b u hc e⟩) (fun b u _ e n => by rw [C4 (neA b u e)]; exact n)
  (fun b u hc e => ⟨u, k b u hc e⟩) (fun _ _ e => up e) (fun _ _ _ e => up e) (fun b ps e => ⟨#[], by rw [up e]; simp⟩) (fun m hm => ?_) (fun b u e => ?_) I.bare ht
 ·obtain ⟨f0, f1, f2, f3, f4, f5⟩ := hf b hb
  exact ⟨f3, f1, f4, f5⟩
 ·obtain ⟨ob, es, ep, ho, r⟩ := hm
  exact ⟨ob, es, ep, k _ ob (fun z => (hf _ z).2.1 rfl) ho, r⟩
 ·by_cases hb : b = a
  ·subst hb; rw [A8] at e; cases e; exact new
  ·rw [C4 hb] at e
   refine (I.hok b u e).stay (fun c v hc q => k c v ?_ q) (fun _ q => up q) fun _ _ q => up q
   rcases hc with z | z
   ·rw [z]; exact nit b u e
   ·exact nit c _ z
end
def Itx (n : Nat) (V' : Nat -> V -> Prop) : It := ⟨fun i _ => i < n, fun i H x H' => H' = H /\ V' i x, fun i _ => n <= i⟩
theorem xn8 {Pv : Nat -> Value -> Prop} {St : Nat -> Heap -> Prop} {V' : Nat -> V -> Prop} {vs : Nat -> Array Value} (W : ∀ A : Around, A.handled = none -> Walks P w A it [it] [it] n Pv St) (hV : ∀ i v, Pv i v -> ∃ x, G2 x v /\ V' i x) (hO : ∀ i h, St i h -> ∃ o, h.get? it = some o /\ o.cls = .type T /\ o.data = .fields (vs i)) (hT : ["enumerate", "zip", "dict_itemiterator", "dict_reverseitemiterator", "odict_iterator", "itertools.zip_longest", "itertools.pairwise"].contains T = false) (hS : ∀ (A : Around) (i : Nat) (s : Shared) (Q : Value -> Shared -> Prop) (E : Value -> Shared -> Prop), St i s.heap -> Q (.ref it) s -> wpAny (model P w) A (pyIter (.ref it)) Q E s) :
 wj2 P w K tg (Itx n V') [it] it (fun i h => i <= n /\ St i h) where
 mem := by simp
 obj := fun i h st b hb => by
  have e : b = it := by simpa using hb
  subst e
  obtain ⟨o, e, _, d⟩ := hO i h st.2
  exact ⟨o, e, fun v z => by rw [d] at z; cases z⟩
 keep := fun i h h' st k => ⟨st.1, (W {} rfl).frame i h h' st.2 k⟩
 item := by
  intro X hP hw hK hc i pins s σ H E I hf st hg
  subst hP hw hK
  obtain ⟨f0, f1, f2, f3, f4, f5⟩ := hf it (by simp)
  refine wpAny_with_toks (n := 1) I.tk ((W X.A (I.ok.hd hc)).item i s _ _ hg st.2 fun v h' tk hv st' kk ht => ?_)
  have ht : 0 < tk := ht
  obtain ⟨x, rx, vx⟩ := hV i v hv
  have I1 : Inv X pins σ H { s with heap := h', toks := tk } := I.turned (fun b o hb e => kk b o (by simpa using hb) e) f0 f1 f3 f4 f5
  obtain ⟨o, e, c, d⟩ := hO _ _ st'
  exact ⟨v, rfl, xe9 (s := { s with heap := h', toks := tk }) e c d hT ⟨x, H, I1, rx, ⟨rfl, vx⟩, ⟨hg, st'⟩, fun b hb => (hf b hb).1⟩⟩
 done := by
  intro X hP hw hK hc i pins s σ H E I hf st hg
  subst hP hw hK
  obtain ⟨f0, f1, f2, f3, f4, f5⟩ := hf it (by simp)
  have hi : i = n := Nat.le_antisymm st.1 hg
  subst hi
  exact wpAny_with_toks (n := 1) I.tk ((W X.A (I.ok.hd hc)).done s _ _ st.2 fun h' tk eb ht => ⟨rfl, I.turned (fun b o hb e => eb b o (by simpa using hb) e) f0 f1 f3 f4 f5 ht⟩)
 self := fun A i s Q E st h => hS A i s Q E st.2 h
section
variable {σ : List (Option V)}
theorem Inv.turnedL {ch : List Addr} (I : Inv X pins σ H s) (hf : ∀ b ∈ ch, wq4 X pins H b) (k : ∀ b u, b ∉ ch -> s.heap.get? b = some u -> h'.get? b = some u) (ht : 0 < t') :
 Inv X pins σ H { s with heap := h', toks := t' } := by
 have nit : ∀ b u, H b = some u -> b ∉ ch := fun b u e z => by rw [(hf b z).1] at e; cases e
 refine I.step (g' := s.gens) (d' := s.drawn) (ch := ch) (fun b hb => ?_) (fun b u _ _ hc e _ => k b u hc e) (fun b u _ _ hc e _ => ⟨u.slots, k b u hc e⟩) (fun _ _ _ _ n => n)
  (fun b u hc e => ⟨u, k b u hc e⟩) (fun _ _ e => e) (fun _ _ _ e => e) (fun b ps e => ⟨#[], by rw [e]; simp⟩) (fun m hm => ?_) (fun b u e => ?_) I.bare ht
 ·obtain ⟨f0, f1, f2, f3, f4, f5⟩ := hf b hb
  exact ⟨f3, f1, f4, f5⟩
 ·obtain ⟨ob, es, ep, ho, r⟩ := hm
  exact ⟨ob, es, ep, k _ ob (fun z => (hf _ z).2.1 rfl) ho, r⟩
 ·refine (I.hok b u e).stay (fun c v hc q => k c v ?_ q) (fun _ q => q) fun _ _ q => q
  rcases hc with z | z
  ·rw [z]; exact nit b u e
  ·exact nit c _ z
end
theorem xy8 (hh : A.handled = none) (it : Addr) (x : Str) (t : Tok) : Walks P w A it [it] [it] x.cps.size (SignAt x) (fun i h => h.IsStrIter it (strIterType x) x t i) := by
 unfold strIterType
 split
 ·exact Walks.strAscii hh it x t
 ·exact Walks.strWide hh it x t
theorem xg1 {t : Tok} {i : Nat} (hit : s.heap.IsStrIter it (strIterType x) x t i) (h : Q (.ref it) s) :
 wpAny (model P w) A (pyIter (.ref it)) Q E s := by
 unfold strIterType at hit
 split at hit
 ·exact wpAny_pyIter_striter_ascii hit h
 ·exact wpAny_pyIter_striter_wide hit h
def xg2 (z : Str) (i : Nat) (x : V) : Prop := ∃ c, z.cps.toList[i]? = some c /\ x = .str ⟨#[c]⟩
theorem yf5 (i : Nat) (v : Value) (h : SignAt z i v) : ∃ x, G2 x v /\ xg2 z i x := by
 obtain ⟨c, u, e, rfl⟩ := h
 exact ⟨.str ⟨#[c]⟩, ⟨u, rfl⟩, c, by simpa using e, rfl⟩
theorem yf6 (it : Addr) (z : Str) (t : Tok) : wj2 P w K tg (Itx z.cps.size (xg2 z)) [it] it (fun i h => i <= z.cps.size /\ h.IsStrIter it (strIterType z) z t i) := by
 refine xn8 (T := strIterType z) (vs := fun i => #[.str z t, .int i 0]) (fun A hA => xy8 hA it z t) yf5 (fun i h st => ?_) ?_ (fun A i s Q E st h => xg1 st h)
 ·obtain ⟨o, e, c, d⟩ := st
  exact ⟨o, e, c, d⟩
 ·unfold strIterType
  split <;> decide
def yp8 (tl : TE) : TI := fun σ H R => tl σ H fun x H1 => ∃ z, x = .str z /\ R (Itx z.cps.size (xg2 z)) H1
theorem xs8 {l : Expr} (hl : PE X l tl) : PI X tg l (yp8 tl) := by
 intro pins s σ H R I h
 refine thn (hl pins s σ H _ I h) fun v s1 zq => ?_
 obtain ⟨x, H1, I1, r1, q1⟩ := zq
 obtain ⟨z, e, q⟩ := q1
 subst e
 obtain ⟨t, rfl⟩ := r1
 refine wpAny_pyIter_strU ?_
 refine ⟨s1.heap.objs.size, [s1.heap.objs.size], _, _, H1, rfl, I1.kept (t' := s1.toks) fun b o e => Heap.get?_push_of_some _ e, yf6 _ z t, ⟨Nat.zero_le _, _, Heap.get?_push_size _ rfl, rfl, rfl⟩, fun b hb => ?_, q⟩
 have e : b = s1.heap.objs.size := by simpa using hb
 subst e
 exact I1.fpOk (Nat.le_refl _) (I1.hok.fresh (Nat.le_refl _))
def qr7 (x : Str) (lo hi : Option Int) : Str := ⟨((x.cps.toList.drop (HT.sIx x.cps.toList.length 0 lo)).take (HT.sIx x.cps.toList.length x.cps.toList.length hi - HT.sIx x.cps.toList.length 0 lo)).toArray⟩
def zg7 : V -> Option Int -> Option Int -> Hp -> VK -> Prop := fun x lo hi H Q => ∃ z, x = .str z /\ z.length <= sizeLine /\ Q (.str (qr7 z lo hi)) H
theorem xy9 (x : Str) (lo hi : Option Int) : (⟨((Builtin.Str.strSliceIndices lo hi 1 x.length).filterMap (x.cps[·]?)).toArray⟩ : Str) = qr7 x lo hi := by
 obtain ⟨h1, h2, h3⟩ := qi3 lo hi x.length
 have e : Builtin.Str.strSliceIndices lo hi 1 x.length = sliceRange (sliceBounds lo hi none x.length).1 (sliceBounds lo hi none x.length).2.1 (sliceBounds lo hi none x.length).2.2 := rfl
 rw [e, h1, h2, h3]
 unfold qr7
 rw [sliceRange_one, pick_run]
 rfl
theorem xm7 (n d : Nat) (o : Option Int) (h : d <= n) : HT.sIx n d o <= n := by
 cases o with
 | none => exact h
 | some v =>
   show (if v < 0 then (v + (n : Int)).toNat else min v.toNat n) <= n
   split <;> omega
theorem za1 : SlR X zg7 := by
 intro pins s σ H x v vl vu lo hi sl Q I rx hs pl pu h
 obtain ⟨z, rfl, hz, q⟩ := h
 obtain ⟨t, rfl⟩ := rx
 refine ⟨"str", _, PySem.F.slot_str_getitem.lookup, typeIs_str _ _ _, ?_⟩
 have part : ∀ {v : Value} {k : Option Int}, IsPart v k -> ∃ l : Option (Int × Tok), v = partValue l /\ l.map (·.1) = k := fun {v k} h => by
  cases h with
  | none => exact ⟨none, rfl, rfl⟩
  | int i t => exact ⟨some (i, t), rfl, rfl⟩
 obtain ⟨l, rfl, el⟩ := part pl
 obtain ⟨u, rfl, eu⟩ := part pu
 refine wpAny_getItem_str_slice (l := l) (u := u) (st := none) hs rfl ?_
 have ep : slicePicked z l u none = Builtin.Str.strSliceIndices lo hi 1 z.length := by unfold slicePicked; rw [el, eu]; rfl
 have ec := xy9 z lo hi
 unfold sliceMade
 rw [ep]
 split
 ·rename_i hc
  have hlen : (Builtin.Str.strSliceIndices lo hi 1 z.length).length = z.length := by simpa using hc
  have : qr7 z lo hi = z := by
   obtain ⟨h1, h2, h3⟩ := qi3 lo hi z.length
   have e : Builtin.Str.strSliceIndices lo hi 1 z.length = sliceRange (sliceBounds lo hi none z.length).1 (sliceBounds lo hi none z.length).2.1 (sliceBounds lo hi none z.length).2.2 := rfl
   rw [e, h1, h2, h3, sliceRange_one, List.length_map, List.length_range] at hlen
   have hb := xm7 z.length z.length hi (Nat.le_refl _)
   have el : z.cps.toList.length = z.length := Array.length_toList
   obtain ⟨⟨l⟩⟩ := z
   unfold qr7
   rw [el, hlen]
   by_cases h0 : HT.sIx (Str.length ⟨⟨l⟩⟩) 0 lo = 0
   ·rw [h0, List.drop_zero, List.take_of_length_le (Nat.le_of_eq el)]
   ·have : Str.length ⟨⟨l⟩⟩ = 0 := by omega
    rw [this, List.take_zero]
    have : l = [] := List.eq_nil_of_length_eq_zero (by rw [<- this]; exact el.symm ▸ rfl)
    rw [this]
  rw [this] at q
  exact ⟨.str z, H, I, ⟨_, rfl⟩, q⟩
 ·rw [ec]
  refine ⟨?_, .str _, H, I.tok _, ⟨_, rfl⟩, q⟩
  have : (qr7 z lo hi).length <= z.length := by
   unfold qr7 Str.length
   simp only [List.size_toArray, List.length_take, List.length_drop, Array.length_toList]
   omega
  omega
def wk6 (K : Fg) : V -> Option Int -> Option Int -> Hp -> VK -> Prop := fun x lo hi H Q => zg7 x lo hi H Q \/ ze2 K x lo hi H Q \/ ze6 K x lo hi H Q
theorem qn0 : SlR X (wk6 X.K) := za1.or (yx3.or yo6)
variable {hi lo : Option Int}
section
variable {Q : VK}
theorem yv2 (hz : z.length <= sizeLine) (h : Q (.str (qr7 z lo hi)) H) : wk6 K (.str z) lo hi H Q := .inl ⟨z, rfl, hz, h⟩
theorem qu9 (hx : SqL K H a xs) (h : ∀ p, H p = none -> Q (.ref p) (upd H p (.lst (ql6 xs lo hi)))) : wk6 K (.ref a) lo hi H Q := .inr (.inr ⟨a, xs, rfl, hx, h⟩)
theorem zg8 {tl th : TO} (h : te σ H fun x H1 => tl σ H1 fun l H2 => th σ H2 fun u H3 => r x l u H3 Q) : tSl r te tl th σ H Q := h
theorem yp9 {t : TE} {R : Option Int -> Hp -> Prop} (h : t σ H fun x H1 => ∃ i, x = .int i /\ R (some i) H1) : qa6 t σ H R := h
theorem xz0 {R : Option Int -> Hp -> Prop} (h : R none H) : P8 σ H R := h
theorem za2 {R : Int -> Prop} (h : R i) : ∃ j, V.int i = .int j /\ R j := ⟨i, rfl, h⟩
theorem yq0 (h : tl σ H fun x H1 => ∃ z, x = .str z /\ R (Itx z.cps.size (xg2 z)) H1) : yp8 tl σ H R := h
theorem yf7 {y : Str} (h : Q (.bl (decide (x = y))) H) : R1 K (.str x) (.str y) H Q := by
 refine wq8 rfl ?_
 have e : (decide ((V.str x) = V.str y)) = decide (x = y) := by simp
 rw [e]; exact h
theorem yf8 {y : Str} (h : Q (.bl (!decide (x = y))) H) : qm7 K (.str x) (.str y) H Q := by
 refine yz9 rfl ?_
 have e : (decide ((V.str x) = V.str y)) = decide (x = y) := by simp
 rw [e]; exact h
theorem yv3 {x y : Int} (h : Q (.bl (decide (x = y))) H) : R1 K (.int x) (.int y) H Q := by
 refine wq8 rfl ?_
 have e : (decide ((V.int x) = V.int y)) = decide (x = y) := by simp
 rw [e]; exact h
theorem zg9 {x y : Int} (h : Q (.bl (!decide (x = y))) H) : qm7 K (.int x) (.int y) H Q := by
 refine yz9 rfl ?_
 have e : (decide ((V.int x) = V.int y)) = decide (x = y) := by simp
 rw [e]; exact h
end
def wk7 (xs : List Str) : TA := fun _ H R => R (B3 xs) H
theorem yf9 : PA X [] (wk7 []) := B0
theorem wd6 {xs : List Str} {j : Nat} {p : Pos} (h : PA X es (wk7 xs)) : PA X (.Constant (.str x) j p :: es) (wk7 (x :: xs)) := A6 (te := tC (.str x)) D4 h
theorem yq1 {xs : List Str} {R : List V -> Hp -> Prop} (h : R (B3 xs) H) : wk7 xs σ H R := h
section
open PySem.Builtin PySem.Builtin.Str
theorem yg0 : ∀ {bs : List Bool} {us : List Value}, G3 (bs.map V.bl) us -> us = bs.map Value.bool
 | [], _, h => by cases h; rfl
 | b :: bs, _, h => by
   have h : G3 (V.bl b :: bs.map V.bl) _ := h
   cases h with
   | cons r t => rw [yg0 t]; cases (show _ = Value.bool b from r); rfl
theorem xz1 (bs : List Bool) : (List.range bs.length).all (fun i => (bs[i]?).getD false) = bs.all id := by
 rw [Bool.eq_iff_iff, List.all_eq_true, List.all_eq_true]
 constructor
 ·intro h b hb
  obtain ⟨i, hi, e⟩ := List.getElem_of_mem hb
  have := h i (List.mem_range.mpr hi)
  rw [List.getElem?_eq_getElem hi, e] at this
  exact this
 ·intro h i hi
  have hi := List.mem_range.mp hi
  rw [List.getElem?_eq_getElem hi]
  exact h _ (List.getElem_mem hi)
def wv8 (K : Fg) : List V -> Hp -> VK -> Prop := fun xs H Q => ∃ (p : Addr) (bs : List Bool), xs = [.ref p] /\ SqL K H p (bs.map V.bl) /\ Q (.bl (bs.all id)) H
theorem qp0 (hc : X.calm = true) : Q7 X (.builtin "all") (wv8 X.K) := by
 intro pins s σ H xs us Q I r h
 obtain ⟨p, bs, rfl, hq, q⟩ := h
 obtain ⟨u, rfl, ru⟩ := qd0 r
 cases ru
 obtain ⟨its, rv, pl, hz⟩ := I.list hq
 have ei := yg0 rv
 subst ei
 refine wpAny_with_toks (n := 1) I.tk (call_all_walk (wpAny_pyIter_list pl.isList ?_))
 have ne : p ≠ s.heap.objs.size := Nat.ne_of_lt (by obtain ⟨o, e, _⟩ := pl.isList; exact Heap.lt_size e)
 refine ⟨_, _, _, _, _, _, fun i => (bs[i]?).getD false, rfl, Walks.list (show X.A.in1.handled = none from I.ok.hd hc) s.heap.objs.size p ne _, ⟨⟨_, Heap.get?_push_size _ rfl, rfl, rfl⟩, pl.isList.at fun o e => Heap.get?_push_of_some _ e⟩, ?_, fun h' tk hk ht => ?_⟩
 ·intro i v s Q E hP hQ
  have hP : (bs.map Value.bool)[i]? = some v := by simpa using hP
  rw [List.getElem?_map] at hP
  obtain ⟨b, hb, rfl⟩ := Option.map_eq_some_iff.mp hP
  have hQ : Q ((bs[i]?).getD false) s := hQ
  rw [hb] at hQ
  exact wpAny_pure hQ
 ·refine ⟨.bl (bs.all id), H, I.kept (fun b o e => hk b o ?_ (Heap.get?_push_of_some _ e)) ht, ?_, q⟩
  ·intro z
   have : b = s.heap.objs.size := by simpa using z
   exact absurd (Heap.lt_size e) (by rw [this]; exact Nat.lt_irrefl _)
  ·show Value.bool _ = Value.bool _
   rw [<- xz1 bs]
   congr 2
   simp
section
variable {Q : VK}
theorem xs9 {bs : List Bool} (h : SqL K H p (bs.map V.bl)) (q : Q (.bl (bs.all id)) H) : wv8 K [.ref p] H Q := ⟨p, bs, rfl, h, q⟩
theorem xg3 {g : TG} (Pv : Nat -> List V -> Hp -> Prop) (h0 : Pv 0 [] H) (hlen : ∀ i ys H, i <= z.cps.size -> Pv i ys H -> ys.length <= sizeLine) (hs : ∀ (i c : Nat) ys H, z.cps.toList[i]? = some c -> Pv i ys H -> g (.str ⟨#[c]⟩) σ' H fun σ2 H2 => tt σ2 H2 fun b H3 => if b = true then te σ2 H3 fun y H4 => PAt Pv (i + 1) (ys ++ [y]) H4 else PAt Pv (i + 1) ys H3) (hd : ∀ ys H, Pv z.cps.size ys H -> ∀ p, H p = none -> Q (.ref p) (upd H p (.lst ys))) :
 ∃ z', V.str z = .str z' /\ qu8 g tt te σ' Q (Itx z'.cps.size (xg2 z')) H := by
 refine ⟨z, rfl, fun i m ys H => m = z.cps.size - i /\ i <= z.cps.size /\ Pv i ys H, ⟨z.cps.size, by simp, Nat.zero_le _, h0⟩, ?_⟩
 rintro i m ys H ⟨rfl, hi, p⟩
 refine ⟨hlen i ys H hi p, ?_⟩
 by_cases hlt : i < z.cps.size
 ·refine .inr ⟨hlt, Pv (i + 1), fun ys' H' p' => ⟨z.cps.size - (i + 1), by omega, rfl, hlt, p'⟩, fun x H' y => ?_⟩
  obtain ⟨rfl, c, ec, rfl⟩ := y
  exact hs i c ys _ ec p
 ·have e : i = z.cps.size := by omega
  subst e
  exact .inl ⟨Nat.le_refl _, hd ys H p⟩
end
end
def yg1 (_ : Fg) : List V -> Hp -> VK -> Prop := fun xs H Q => ∃ i j, xs = [.int i, .int j] /\ Q (.int (if j < i then j else i)) H
def yg2 (_ : Fg) : List V -> Hp -> VK -> Prop := fun xs H Q => ∃ i j, xs = [.int i, .int j] /\ Q (.int (if j > i then j else i)) H
theorem xz2 (hc : X.calm = true) : Q7 X (.builtin "min") (yg1 X.K) := xx0 hc
theorem xz3 (hc : X.calm = true) : Q7 X (.builtin "max") (yg2 X.K) := xw9 hc
section
variable {Q : VK}
theorem za3 {r : V -> List V -> Hp -> VK -> Prop} (h : to σ H fun x H1 => tyV K T x H1 /\ r x [] H1 Q) : yx8 K T r to σ H Q := h
theorem zh0 (h : Q (.int (if j < i then j else i)) H) : yg1 K [.int i, .int j] H Q := ⟨i, j, rfl, h⟩
theorem zh1 (h : Q (.int (if j > i then j else i)) H) : yg2 K [.int i, .int j] H Q := ⟨i, j, rfl, h⟩
end
variable {items : Array Value}
theorem qq2 {t sl : Addr} {vl vu : Value} (ht : IsTup s.heap t items) (hs : s.heap.IsSliceOf sl vl vu .none) (pl : IsPart vl lo) (pu : IsPart vu hi) (hw : HT.sIx items.size 0 lo = 0 /\ HT.sIx items.size items.size hi = items.size) (h : Q (.ref t) s) : wpAny (model prog w) A (getItem (.ref t) (.ref sl)) Q E s := by
 obtain ⟨os, hos, hcs, hds⟩ := id hs
 have hTs : s.TypeIs (.ref sl) "slice" := ⟨os, hos, hcs⟩
 unfold getItem
 try with_reducible refine wpAny_holding ?_
 first | refine wpAny_bind (wpAny_pure ?_) | skip
 refine wpAny_bind (wpAny_sequenceKey ht.typeIs (by decide) ?_)
 refine wpAny_bind (wpAny_callSpecial?_slot (name := Str.ofString "__getitem__") ht.typeIs PyProof.Rows.slot_tuple_getitem
  (wpAny_call_entry PyProof.Rows.slot_tuple_getitem ht.typeIs entry_tuple_getitem ?_ (args_tuple_getitem _ _)))
 show wpAny _ _ (Builtin.Tuple.tupleItemsOf (.ref t) >>= _) _ _ s
 refine wpAny_bind (tupleItemsOf_ ht ?_)
 refine wpAny_bind (wpAny_typeOf hTs ?_)
 rw [if_pos (by decide)]
 refine wpAny_bind (HT.qh2 hs pl pu ?_)
 have hyes : ((((HT.sIx items.size 0 lo : Nat) : Int) == 0 && (1 : Int) == 1 && (HT.sIx items.size items.size hi - HT.sIx items.size 0 lo) == items.size) = true) := by
  rw [hw.1, hw.2]; simp
 show wpAny _ _ (if (((HT.sIx items.size 0 lo : Nat) : Int) == 0 && (1 : Int) == 1 && (HT.sIx items.size items.size hi - HT.sIx items.size 0 lo) == items.size) = true then _ else _) _ _ s
 rw [if_pos hyes]
 refine wpAny_bind (m := Builtin.Tuple.tupleIsExact (.ref t)) ?_
 unfold Builtin.Tuple.tupleIsExact
 refine wpAny_bind (wpAny_typeOf ht.typeIs (wpAny_pure ?_))
 rw [if_pos (by decide)]
 first
  | exact wpAny_bind (wpAny_rule (wpAny_bind (wpAny_pure ⟨_, rfl, wpAny_pure h⟩)))
  | exact wpAny_bind (wpAny_rule (wpAny_pure ⟨_, rfl, wpAny_pure h⟩))
  | exact wpAny_bind (wpAny_rule (wpAny_pure (wpAny_pure ⟨_, rfl, wpAny_pure h⟩)))
def zh2 (K : Fg) : V -> Option Int -> Option Int -> Hp -> VK -> Prop := fun x lo hi H Q => ∃ a xs, x = .ref a /\ SqT K H a xs /\ (HT.sIx xs.length 0 lo = 0 /\ HT.sIx xs.length xs.length hi = xs.length) /\ Q (.ref a) H
theorem yq2 : SlR X (zh2 X.K) := by
 intro pins s σ H x v vl vu lo hi sl Q I rx hs pl pu h
 obtain ⟨a, xs, rfl, hx, hw, q⟩ := h
 cases rx
 obtain ⟨its, r, ht, hz⟩ := I.tuple hx
 have hlen : its.toArray.size = xs.length := by rw [List.size_toArray]; exact r.length.symm
 refine ⟨"tuple", _, PyProof.Rows.slot_tuple_getitem.lookup, ht.typeIs, ?_⟩
 exact qq2 ht hs pl pu (by rw [hlen]; exact hw) ⟨.ref a, H, I, rfl, q⟩
def wz2 (K : Fg) : V -> Option Int -> Option Int -> Hp -> VK -> Prop := fun x lo hi H Q => wk6 K x lo hi H Q \/ zh2 K x lo hi H Q
theorem qp1 : SlR X (wz2 X.K) := qn0.or yq2
def yv4 (K : Fg) : R2 := fun x y H Q => ∃ a b ys, x = .ref a /\ y = .ref b /\ SqT K H a [] /\ SqT K H b ys /\ Q (.ref b) H
theorem yq3 : OpR X (binaryOp .Add) (yv4 X.K) := by
 intro pins s σ H x y v u Q I rx ry h
 obtain ⟨a, b, ys, rfl, rfl, ha, hb, q⟩ := h
 cases rx
 cases ry
 obtain ⟨its, r1, p1, _⟩ := I.tuple ha
 obtain ⟨its2, r2, p2, _⟩ := I.tuple hb
 cases r1
 obtain ⟨⟨cls, dd, data, sl⟩, ho, hc, n, hd⟩ := id p1
 obtain ⟨⟨cls2, dd2, data2, sl2⟩, ho2, hc2, n2, hd2⟩ := id p2
 simp only at hc hd hc2 hd2
 subst hc hd hc2 hd2
 exact concat_meets ⟨_, ho, rfl⟩ ⟨_, ho2, rfl⟩ noFill_tuple_add seq_tuple_add PySem.F.slot_tuple_add PySem.F.entry_tuple_add (PySem.F.args_tuple_add_2 _ _)
  (tuple_addW0 a b _ its2.toArray n n2 dd dd2 sl sl2 (by simp)) ⟨ho, ho2, ⟨.ref b, H, I, rfl, q⟩⟩
def xt0 (K : Fg) : R2 := fun x y H Q => P4 K x y H Q \/ yv4 K x y H Q
theorem xt1 : OpR X (binaryOp .Add) (xt0 X.K) := L8.or yq3
section
variable {Q : VK}
theorem yg3 (h1 : SqT K H a xs) (h2 : SqT K H b ys) (hz : xs.length + ys.length <= sizeLine) (h : ∀ p H', A7 H H' -> SqT K H' p (xs ++ ys) -> Q (.ref p) H') : xt0 K (.ref a) (.ref b) H Q := by
 by_cases hx : xs = []
 ·subst hx
  exact .inr ⟨a, b, ys, rfl, rfl, h1, h2, h b H (fun _ _ e => e) h2⟩
 ·refine .inl (.inr (.inr (.inr ⟨a, b, xs, ys, rfl, rfl, h1, h2, hx, hz, fun hy => ?_, fun hy p hp => h p _ (A7.new hp _) (SqT.of A8)⟩)))
  subst hy
  exact h a H (fun _ _ e => e) (by rw [List.append_nil]; exact h1)
theorem yg4 (h1 : SqT K H a xs) (h : ∀ p H', A7 H H' -> SqT K H' p (ql6 xs lo hi) -> Q (.ref p) H') : wz2 K (.ref a) lo hi H Q := by
 by_cases hw : HT.sIx xs.length 0 lo = 0 /\ HT.sIx xs.length xs.length hi = xs.length
 ·refine .inr ⟨a, xs, rfl, h1, hw, h a H (fun _ _ e => e) ?_⟩
  unfold ql6
  rw [hw.1, hw.2, List.drop_zero, Nat.sub_zero, List.take_length]; exact h1
 ·exact .inl (.inr (.inl ⟨a, xs, rfl, h1, hw, fun p hp => h p _ (A7.new hp _) (SqT.of A8)⟩))
end
theorem qe4 {i : Nat} {items} {x : Value} (hit : s.heap.IsTupleIter it l i) (hl : s.heap.IsTuple l items) (hx : items[i]? = some x) (hQ : ∀ h', h'.IsTupleIter it l (i + 1) -> Heap.SameBut it s.heap h' -> Q x { s with heap := h' }) :
 wpAny (model prog w) A (Builtin.SmallTypes.nextOf (.ref it)) Q E s := by
 obtain ⟨o, ho, hc, hd⟩ := id hit
 obtain ⟨ol, hol, _, nl, hdl⟩ := hl
 unfold Builtin.SmallTypes.nextOf
 refine wpAny_bind (wpAny_callSpecial?_slot (name := Str.ofString "__next__") hit.typeIs F.slot_tuple_iterator_next
  (wpAny_call_entry F.slot_tuple_iterator_next hit.typeIs F.entry_tuple_iterator_next ?_ (F.args_tuple_iterator_next_1 _)))
 show wpAny _ _ (field (.ref it) 0 >>= _) _ _ s
 refine wpAny_bind (wpAny_field ho hd (x := .ref l) rfl ?_)
 show wpAny _ _ (if (Value.ref l == Value.none) = true then _ else _) _ _ s
 rw [if_neg (show ¬ ((Value.ref l == Value.none) = true) from Bool.false_ne_true)]
 show wpAny _ _ (field (.ref it) 1 >>= _) _ _ s
 refine wpAny_bind (wpAny_field ho hd (x := .int i 0) rfl ?_)
 show wpAny _ _ (seqItems? (.ref l) >>= _) _ _ s
 refine wpAny_bind (wpAny_seqItems hol hdl ?_)
 simp only [Int.toNat_natCast, hx]
 refine wpAny_bind (wpAny_setField ho hd (by simp) (wpAny_pure ⟨x, rfl, wpAny_pure (hQ _ ?_ (Heap.SameBut.update ..))⟩))
 exact ⟨_, Heap.get?_update_self _ ho (Obj.isFreed_of_fields (Obj.data_mapFields hd _)), (Obj.cls_mapFields ..).trans hc, by
  rw [Obj.data_mapFields hd]; simp [rawInt]⟩
theorem X8 {i : Nat} {items} (hh : A.handled = none) (hit : s.heap.IsTupleIter it l i) (hl : s.heap.IsTuple l items) (hx : items[i]? = none) (hE : ∀ h' e, Heap.ExtBut it s.heap h' -> (∃ o, h'.get? e = some o /\ o.cls = .type "StopIteration") -> E (.ref e) { s with heap := h' }) :
 wpAny (model prog w) A (Builtin.SmallTypes.nextOf (.ref it)) Q E s := by
 obtain ⟨o, ho, hc, hd⟩ := id hit
 obtain ⟨ol, hol, _, nl, hdl⟩ := hl
 unfold Builtin.SmallTypes.nextOf
 refine wpAny_bind (wpAny_callSpecial?_slot (name := Str.ofString "__next__") hit.typeIs F.slot_tuple_iterator_next
  (wpAny_call_entry F.slot_tuple_iterator_next hit.typeIs F.entry_tuple_iterator_next ?_ (F.args_tuple_iterator_next_1 _)))
 show wpAny _ _ (field (.ref it) 0 >>= _) _ _ s
 refine wpAny_bind (wpAny_field ho hd (x := .ref l) rfl ?_)
 show wpAny _ _ (if (Value.ref l == Value.none) = true then _ else _) _ _ s
 rw [if_neg (show ¬ ((Value.ref l == Value.none) = true) from Bool.false_ne_true)]
 show wpAny _ _ (field (.ref it) 1 >>= _) _ _ s
 refine wpAny_bind (wpAny_field ho hd (x := .int i 0) rfl ?_)
 show wpAny _ _ (seqItems? (.ref l) >>= _) _ _ s
 refine wpAny_bind (wpAny_seqItems hol hdl ?_)
 simp only [Int.toNat_natCast, hx]
 refine wpAny_bind (wpAny_rule (wpAny_bind (wpAny_setField ho hd (by simp) ?_)))
 show wpAny _ _ (newExc (.type "StopIteration") [] >>= _) _ _ _
 refine wpAny_bind ?_
 simp only [newExc, newTuple]
 refine wpAny_bind (wpAny_newObj_type ?_ (by size_fits))
 refine wpAny_bind (m := firstArgMember _ _) (wpAny_of_eq (a := Value.none) (by first | rfl | (simp only [firstArgMember]; rfl)) ?_)
 refine wpAny_newObj_type ?_ (by size_fits)
 simp only [raiseNew]
 refine wpAny_bind (wpAny_handled ?_)
 first | rw [show A.in1.handled = none from hh] | rw [hh]
 refine wpAny_bind (wpAny_pure (wpAny_throw ?_))
 exact hE _ _ (((Heap.SameBut.update ..).extBut.push _).push _) ⟨_, Heap.get?_push_size _ rfl, rfl⟩
theorem xg4 (hh : A.handled = none) (it l : Addr) (hne : l ≠ it) (items : Array Value) :
 Draws prog w A it [it, l] items.size (fun i v => items[i]? = some v) (fun i h => h.IsTupleIter it l i /\ h.IsTuple l items) where
 live := fun _ _ st => let ⟨o, ho, _⟩ := st.1; ⟨o, ho⟩
 frame := fun _ _ _ st hk => ⟨st.1.at fun o e => hk it (by simp) o e, st.2.at fun o e => hk l (by simp) o e⟩
 item := fun i s Q E hi st hQ => by
  refine qe4 st.1 st.2 (x := items[i]) (by simp [hi]) fun h' hit' hs' => ?_
  exact hQ _ h' s.toks (by simp [hi]) ⟨hit', st.2.extBut hs'.extBut hne⟩ hs'
 done := fun s Q E st hE => X8 hh st.1 st.2 (by simp) hE
set_option maxHeartbeats 1000000 in
theorem qn1 (l : Addr) (items : Array Value) (n : Nat) (dct : Option Addr) (sl : Array (Option Value)) :
 Meets (Builtin.«enumerate.__new__» ⟨[.type "enumerate", .ref l], []⟩) (fun _ R s => s.heap.get? l = some { cls := .type "tuple", dict := dct, data := .seq items n, slots := sl } /\
  R (.ok (.ret (.ref (s.heap.push { cls := .type "tuple_iterator", data := .fields #[.ref l, .int 0 0] }).objs.size)))
   { s with heap := (s.heap.push { cls := .type "tuple_iterator", data := .fields #[.ref l, .int 0 0] }).push { cls := .type "enumerate", data := .fields #[.none, .bool false, .ref s.heap.objs.size, rawInt 0, .none, .none] } }) :=
 .of_wp fun prog w A R s h => by
  obtain ⟨hp, g, d, tk, os⟩ := s; obtain ⟨hl, h⟩ := h
  have hsub := sub_enumerate
  have hL : Heap.IsTuple (Shared.heap ⟨hp, g, d, tk, os⟩) l items := ⟨_, hl, rfl, n, rfl⟩
  wp_walk using AutoSeq1.wpAny_loadPart' hl
  refine wpAny_stack_any fun st => wpAny_pure ?_
  split
  ·rename_i c _ _ _ _ _
   cases (c == Value.type "enumerate")
   ·wp_walk using AutoSeq1.wpAny_loadPart' hl, wpAny_pyIter_tuple hL
    exact ⟨_, rfl, h⟩
   ·wp_walk using AutoSeq1.wpAny_loadPart' hl, wpAny_pyIter_tuple hL
    exact ⟨_, rfl, h⟩
  ·wp_walk using AutoSeq1.wpAny_loadPart' hl, wpAny_pyIter_tuple hL
   exact ⟨_, rfl, h⟩
theorem qn2 (hL : s.heap.IsTuple l items) (h : ∀ h', IsEnum h' (s.heap.objs.size + 1) s.heap.objs.size 0 .none -> h'.IsTupleIter s.heap.objs.size l 0 -> h'.objs.size = s.heap.objs.size + 2 ->
  (∀ b o, s.heap.get? b = some o -> h'.get? b = some o) -> Q (.ref (s.heap.objs.size + 1)) { s with heap := h' }) :
 wpAny (model prog w) A (call (.type "enumerate") [.ref l]) Q E s := by
 obtain ⟨⟨c, dct, dt, sl⟩, hl, hc, n, hd⟩ := hL
 replace hc : c = .type "tuple" := hc
 replace hd : dt = .seq items n := hd
 subst hc hd
 refine callType_new F.called_enumerate (by decide) (F.typeCall_enumerate_1 _) (F.newCall_enumerate_1 _) (fun obj => F.args_object_init_2 obj _) F.entry_enumerate_new
  (qn1 l items n dct sl) ⟨hl, ?_⟩
 have hz : (s.heap.push { cls := .type "tuple_iterator", data := .fields #[.ref l, .int 0 0] }).objs.size = s.heap.objs.size + 1 := Heap.size_push ..
 show _ /\ _
 rw [hz]
 have he : IsEnum ((s.heap.push { cls := .type "tuple_iterator", data := .fields #[.ref l, .int 0 0] }).push
  { cls := .type "enumerate", data := .fields #[.none, .bool false, .ref s.heap.objs.size, rawInt 0, .none, .none] }) (s.heap.objs.size + 1) s.heap.objs.size 0 .none := by
  have := Heap.get?_push_size (s.heap.push { cls := .type "tuple_iterator", data := .fields #[.ref l, .int 0 0] })
   (o := { cls := .type "enumerate", data := .fields #[.none, .bool false, .ref s.heap.objs.size, rawInt 0, .none, .none] }) rfl
  rw [hz] at this; exact this
 refine ⟨⟨_, he, rfl⟩, h _ he ⟨_, Heap.get?_push_of_some _ (Heap.get?_push_size _ rfl), rfl, rfl⟩ (by rw [Heap.size_push, hz]) fun b o y => Heap.get?_push_of_some _ (Heap.get?_push_of_some _ y)⟩
def Ite (K : Fg) (a : Addr) : It := ⟨fun i H => ∃ xs x, SqT K H a xs /\ xs[i]? = some x, fun i H x H' => ∃ p y, x = .ref p /\ H p = none /\ (∀ xs, SqT K H a xs -> xs[i]? = some y) /\ H' = upd H p (.tup [.int i, y]), fun i H => ∃ xs, SqT K H a xs /\ xs.length <= i⟩
variable {elts : List Expr}
theorem xn9 {k : Nat} (a e it : Addr) (hei : e ≠ it) :
 wj2 P w K (.Tuple elts k pos) (Ite K a) [e, it] e (fun i h => (∃ old, IsEnum h e it i old) /\ h.IsTupleIter it a i) where
 mem := by simp
 obj := by
  rintro i h ⟨⟨old, e1⟩, o2, e2, _, d2⟩ b hb
  have hb : b = e \/ b = it := by simpa using hb
  rcases hb with rfl | rfl
  ·exact ⟨_, e1, fun v z => by cases (show Data.fields _ = Data.cell v from z)⟩
  ·exact ⟨_, e2, fun v z => by rw [d2] at z; cases z⟩
 keep := fun i h h' st kk => ⟨let ⟨old, e1⟩ := st.1; ⟨old, kk e (by simp) _ e1⟩, st.2.at fun o q => kk it (by simp) o q⟩
 item := by
  intro X hP hw hK hc i pins s σ H E I hf st hg
  subst hP hw hK
  obtain ⟨xs, x, hq, hx⟩ := hg
  obtain ⟨its, rv, p, hz⟩ := I.tuple hq
  obtain ⟨u, hu, ru⟩ := rv.get hx
  have hil : i < its.toArray.size := by rw [List.size_toArray]; exact (List.getElem?_eq_some_iff.mp hu).1
  have pT : s.heap.IsTuple a its.toArray := p
  have nea : a ≠ it := fun z => by
   obtain ⟨o1, h1, c1, _⟩ := pT
   obtain ⟨o2, h2, c2, _⟩ := st.2
   rw [z, h2] at h1
   cases h1
   rw [c1] at c2
   exact absurd c2 (by decide)
  have nee : e ≠ a := fun z => by
   obtain ⟨o1, h1, c1, _⟩ := pT
   obtain ⟨old, h2⟩ := st.1
   rw [<- z] at h1
   have h2 : s.heap.get? e = some _ := h2
   rw [h2] at h1
   cases h1
   exact absurd c1 (show ¬ (Value.type "enumerate" = Value.type "tuple") by decide)
  have W := WalksT.enumerateD (prog := X.prog) (w := X.w) (A := X.A) (xg4 (A := X.A.in1) (show X.A.in1.handled = none from I.ok.hd hc) it a nea its.toArray) e hei (by simp [hei, nee]) (by simp)
  refine wpAny_with_toks (n := 1) I.tk (W.item i s _ _ hil ⟨st.1, st.2, pT⟩ fun T vs h' tk hv hT htup hmid kk ht => ?_)
  have ht : 0 < tk := ht
  obtain ⟨tk1, y, hy, rfl⟩ := hv
  have hy : its[i]? = some y := by simpa using hy
  rw [hu] at hy
  injection hy with hy
  subst hy
  have hap := W.apart i T h' hmid
  refine ⟨_, rfl, W.go elts k pos i T { s with heap := h', toks := tk } _ _ hmid fun h2 st2 k2 => ?_⟩
  have htup2 : IsTup h2 T [Value.int i tk1, u].toArray := by
   obtain ⟨o, e, c⟩ := htup
   exact ⟨o, k2 T o hap e, by simpa using c⟩
  have I1 : Inv X pins σ (upd H T (.tup [.int i, x])) { s with heap := h2, toks := tk } := I.turnLaid (ch := [e, it]) (fun b hb => hf b hb) (fun b u hb e => k2 b u hb (kk b u hb e)) hT ⟨by rw [sizeLine_eq]; simp, [Value.int i tk1, u], .cons ⟨tk1, rfl⟩ (.cons ru .nil), htup2⟩ ht
  refine ⟨.ref T, _, I1, rfl, ⟨T, x, rfl, I.hok.fresh hT, fun ys hy => by rw [I.tuple_inj hy hq]; exact hx, rfl⟩, ⟨st2.1, st2.2.1⟩, fun b hb => ?_⟩
  have hb2 : ∃ o, s.heap.get? b = some o := by
   have hb : b = e \/ b = it := by simpa using hb
   rcases hb with rfl | rfl
   ·obtain ⟨old, e1⟩ := st.1; exact ⟨_, e1⟩
   ·obtain ⟨o, e1, _⟩ := st.2; exact ⟨_, e1⟩
  obtain ⟨o, e⟩ := hb2
  rw [C4 (Nat.ne_of_lt (Nat.lt_of_lt_of_le (Heap.lt_size e) hT))]
  exact (hf b hb).1
 done := by
  intro X hP hw hK hc i pins s σ H E I hf st hg
  subst hP hw hK
  obtain ⟨xs, hq, hx⟩ := hg
  obtain ⟨its, rv, p, hz⟩ := I.tuple hq
  have pT : s.heap.IsTuple a its.toArray := p
  have hno : its.toArray[i]? = none := by
   have := rv.length
   simp; omega
  obtain ⟨old, he⟩ := st.1
  have D : Draws X.prog X.w X.A.in1 it [it, a] 0 (fun _ _ => True) (fun _ h => h.IsTupleIter it a i /\ h.IsTuple a its.toArray) :=
   { live := fun _ _ st => let ⟨o, ho, _⟩ := st.1; ⟨o, ho⟩
     frame := fun _ _ _ st hk => ⟨st.1.at fun o e => hk it (by simp) o e, st.2.at fun o e => hk a (by simp) o e⟩
     item := fun j s Q E hj => absurd hj (Nat.not_lt_zero _)
     done := fun s Q E st hE => X8 (show X.A.in1.handled = none from I.ok.hd hc) st.1 st.2 hno hE }
  exact wpAny_pyNext_enum_endD D he ⟨st.2, pT⟩ fun h' hx => ⟨rfl, I.turnedL (ch := [e, it]) (t' := s.toks) (fun b hb => hf b hb) (fun b o hb y => hx b o (fun z => hb (by simp [z])) y) I.tk⟩
 self := fun A i s Q E st h => let ⟨old, e1⟩ := st.1; wpAny_pyIter_enum e1 h
def xo0 (K : Fg) (ta : TA) : TI := fun σ H R => ta σ H fun vs H1 => ∃ a xs, vs = [.ref a] /\ SqT K H1 a xs /\ R (Ite K a) H1
theorem yg5 {k : Nat} {p : Pos} {l : Expr} {ta : TA} (hg : Gl X "enumerate") (hm : X.mg "enumerate" = none) (ha : PA X [l] ta) (hs : autoParam (starEach [l] X.env = [(false, eval l X.env)]) zAr) :
 PI X (.Tuple elts k tpos) (.Call (.Name "enumerate" p) [l] [] pos) (xo0 X.K ta) := by
 intro pins s σ H R I h
 refine Call_ (ql7 I hg hm boot_enumerate (PyProof.Rows.callWith_type1 (thn (ha pos pins s σ H _ I h) fun us s1 zq => ?_) hs rfl))
 obtain ⟨vs, H1, I1, r1, q1⟩ := zq
 obtain ⟨a, xs, e, hq, q⟩ := q1
 subst e
 obtain ⟨v, rfl, rv⟩ := qd0 r1
 cases rv
 obtain ⟨its, rv, pT, hz⟩ := I1.tuple hq
 refine qn2 (show s1.heap.IsTuple a its.toArray from pT) fun h' he hit hz hk => ?_
 have I2 : Inv X pins σ H1 { s1 with heap := h' } := I1.kept (t' := s1.toks) hk
 refine wpAny_pyIter_enum he ?_
 have ne : s1.heap.objs.size + 1 ≠ s1.heap.objs.size := by omega
 refine ⟨s1.heap.objs.size + 1, _, _, _, H1, rfl, I2, xn9 a (s1.heap.objs.size + 1) s1.heap.objs.size ne, ⟨⟨_, he⟩, hit⟩, fun b hb => ?_, q⟩
 have hb : b = s1.heap.objs.size + 1 \/ b = s1.heap.objs.size := by simpa using hb
 rcases hb with rfl | rfl
 ·exact I1.fpOk (Nat.le_succ _) (I1.hok.fresh (Nat.le_succ _))
 ·exact I1.fpOk (Nat.le_refl _) (I1.hok.fresh (Nat.le_refl _))
theorem xg5 {ta : TA} (h : ta σ H fun vs H1 => ∃ a xs, vs = [.ref a] /\ SqT K H1 a xs /\ R (Ite K a) H1) : xo0 K ta σ H R := h
theorem xz4 {g : TG} (hq : SqT K H a xs) (Pv : Nat -> St -> Hp -> Prop) (h0 : Pv 0 σ H) (hk : ∀ i σ H', Pv i σ H' -> SqT K H' a xs) (hs : ∀ i x σ H p, xs[i]? = some x -> Pv i σ H -> H p = none -> g (.ref p) σ (upd H p (.tup [.int i, x])) fun σ2 H2 => tb { D with nx := PAt Pv (i + 1), ct := PAt Pv (i + 1), bk := D.nx } σ2 H2) (hd : ∀ σ H, Pv xs.length σ H -> D.nx σ H) :
 ∃ b ys, [V.ref a] = [.ref b] /\ SqT K H b ys /\ wy7 g tb D σ (Ite K b) H := by
 refine ⟨a, xs, rfl, hq, fun i m σ H => m = xs.length - i /\ i <= xs.length /\ Pv i σ H, ⟨xs.length, by simp, Nat.zero_le _, h0⟩, ?_⟩
 rintro i m σ H ⟨rfl, hi, p⟩
 have sq := hk i σ H p
 by_cases hlt : i < xs.length
 ·refine .inr ⟨⟨xs, xs[i], sq, by simp [hlt]⟩, Pv (i + 1), fun σ' H' p' => ⟨xs.length - (i + 1), by omega, rfl, hlt, p'⟩, fun x H' y => ?_⟩
  obtain ⟨t, z, rfl, ht, hz, rfl⟩ := y
  exact hs i z σ H t (hz xs sq) p ht
 ·have e : i = xs.length := by omega
  subst e
  exact .inl ⟨⟨xs, sq, Nat.le_refl _⟩, hd σ H p⟩
section
variable {o : Expr}
theorem za4 {kvs : List (Key × V)} (e : H a = some (.dK kvs)) : tyV K "dict" (.ref a) H := .inr (.inr (.inl ⟨rfl, .inl ⟨kvs, e⟩⟩))
end
section
variable {Q : VK}
theorem yq4 (h : td σ H fun x H1 => ty σ H1 fun y H2 => ∃ a v, x = .ref a /\ qq1 H2 a y (some v) /\ Q v H2) : yd9 td ty σ H Q := h
end
def Dk {α : Type} : Sem α -> Prop
 | .pure _ => True
 | .raise _ => True
 | .unsupported _ => True
 | .finish _ => True
 | .rule _ k => Dk (k ())
 | .at _ k => Dk (k ())
 | .load _ _ k => ∀ o, Dk (k o)
 | .update _ _ f k => (∀ o : Obj, (f o).dict = o.dict) /\ Dk (k ())
 | .loadIfAlive _ k => ∀ o, Dk (k o)
 | .point _ k => Dk (k ())
 | .alloc _ k => ∀ a, Dk (k a)
 | .fresh k => ∀ a, Dk (k a)
 | .ask k => ∀ a, Dk (k a)
 | .handled _ k => ∀ a, Dk (k a)
 | .stack k => ∀ a, Dk (k a)
 | .thread k => ∀ a, Dk (k a)
 | _ => False
def wk8 (e : Addr) (od : Option Addr) (s : Shared) : Prop := ∃ o, s.heap.objs[e]? = some o /\ o.dict = od
theorem wk8.at {e : Addr} (h : wk8 e od s) (g : s.heap.get? e = some o) : o.dict = od := by
 obtain ⟨o', e1, e2⟩ := h
 have := (Heap.get?_some_iff.mp g).1
 rw [e1] at this; cases this; exact e2
theorem wk8.of {e : Addr} (g : s.heap.get? e = some o) (h : o.dict = od) : wk8 e od s := ⟨o, (Heap.get?_some_iff.mp g).1, h⟩
variable {Γ : PySem.Ctx}
theorem zh3 {e : Addr} {E : Value -> Pos -> Shared -> Prop} {t : Sem α} (d : Dk t) : ∀ {Q : α -> Pos -> Shared -> Prop} {p : Pos} {s : Shared}, wk8 e od s -> Sem.wp M Γ t Q E p s -> Sem.wp M Γ t (fun a p s => Q a p s /\ wk8 e od s) E p s := by
 induction t with
 | pure a => intro Q p s h w; exact ⟨w, h⟩
 | raise v => intro Q p s h w; exact w
 | unsupported v => intro Q p s h w; exact w
 | finish v => intro Q p s h w; exact w
 | rule _ k ih => intro Q p s h w; exact ih () d h w
 | «at» _ k ih => intro Q p s h w; exact ih () d h w
 | load a _ k ih => intro Q p s h w; obtain ⟨o, ho, w⟩ := w; exact ⟨o, ho, ih o (d o) h w⟩
 | update a _ f k ih =>
   intro Q p s h w
   obtain ⟨ha, w⟩ := w
   refine ⟨ha, ih () d.2 ?_ w⟩
   obtain ⟨o, h1, h2⟩ := h
   obtain ⟨⟨objs, l⟩, g, dr, tk, os⟩ := s
   show ∃ o, (objs.modify a f)[e]? = some o /\ o.dict = od
   have h1 : objs[e]? = some o := h1
   rw [Array.getElem?_modify]
   by_cases z : a = e
   ·rw [if_pos z, h1]; exact ⟨_, rfl, (d.1 o).trans h2⟩
   ·rw [if_neg z]; exact ⟨o, h1, h2⟩
 | loadIfAlive a k ih => intro Q p s h w; exact ih _ (d _) h w
 | point _ k ih => intro Q p s h w; exact ih () d h w
 | alloc ob k ih =>
   intro Q p s h w
   refine ih _ (d _) ?_ w
   obtain ⟨o, h1, h2⟩ := h
   obtain ⟨⟨objs, l⟩, g, dr, tk, os⟩ := s
   show ∃ o, (objs.push ob)[e]? = some o /\ o.dict = od
   have h1 : objs[e]? = some o := h1
   have hlt : e < objs.size := (Array.getElem?_eq_some_iff.mp h1).1
   refine ⟨o, ?_, h2⟩
   rw [Array.getElem?_push, if_neg (Nat.ne_of_lt hlt)]; exact h1
 | fresh k ih => intro Q p s h w; exact ih _ (d _) h w
 | ask k ih => intro Q p s h w; exact ih _ (d _) h w
 | handled _ k ih => intro Q p s h w; exact ih _ (d _) h w
 | stack k ih => intro Q p s h w; exact ih _ (d _) h w
 | thread k ih => intro Q p s h w; exact ih _ (d _) h w
 | register | choose | os | call | newGen | genState | resume | yield | fork | await => exact False.elim d
theorem wk9 {e : Addr} {t : Sem α} {Q : α -> Shared -> Prop} (d : Dk t) (h : wk8 e od s) (w : wpAny M A t Q E s) : wpAny M A t (fun a s => Q a s /\ wk8 e od s) E s :=
 fun Γ p hΓ => zh3 d h (w Γ p hΓ)
variable {β : Type}
theorem M1 {t : Sem α} {k : α -> Sem β} (h : Dk t) (hk : ∀ a, Dk (k a)) : Dk (t >>= k) := by
 show Dk (t.bind k)
 induction t with
 | pure a => exact hk a
 | raise v => exact True.intro
 | unsupported v => exact True.intro
 | finish v => exact True.intro
 | rule _ k ih => exact ih () h
 | «at» _ k ih => exact ih () h
 | load a _ k ih => exact fun o => ih o (h o)
 | update a _ f k ih => exact ⟨h.1, ih () h.2⟩
 | loadIfAlive a k ih => exact fun o => ih o (h o)
 | point _ k ih => exact ih () h
 | alloc ob k ih => exact fun o => ih o (h o)
 | fresh k ih => exact fun o => ih o (h o)
 | ask k ih => exact fun o => ih o (h o)
 | handled _ k ih => exact fun o => ih o (h o)
 | stack k ih => exact fun o => ih o (h o)
 | thread k ih => exact fun o => ih o (h o)
 | register | choose | os | call | newGen | genState | resume | yield | fork | await => exact False.elim h
theorem O6 {a : α} : Dk (pure a : Sem α) := True.intro
theorem qg8 {w : String} : Dk (unsupported w : Sem α) := True.intro
theorem wz3 : Dk (load a) := fun _ => True.intro
theorem wl0 : Dk stack := fun _ => True.intro
theorem xg6 (v : Value) : Dk (fieldsOf v) := by
 unfold fieldsOf
 split
 ·refine M1 wz3 fun o => ?_
  split
  ·exact O6
  ·exact qg8
 ·exact qg8
theorem qv0 (v : Value) (i : Nat) : Dk (field v i) := by
 unfold field
 refine M1 (xg6 v) fun o => ?_
 split
 ·exact O6
 ·exact qg8
theorem wl1 (f : Array Value -> Array Value) (o : Obj) : (Obj.mapFields f o).dict = o.dict := by
 unfold Obj.mapFields
 split <;> rfl
theorem qn3 (v : Value) (i : Nat) (x : Value) : Dk (setField v i x) := by
 unfold setField
 split
 ·unfold updateField
  refine M1 wz3 fun o => ?_
  split
  ·split
   ·exact ⟨fun o => wl1 _ o, True.intro⟩
   ·exact qg8
  ·exact qg8
 ·exact qg8
theorem qi6 (e : Value) (f : Option Addr) : Dk (setFlight e f) := by
 unfold setFlight
 refine M1 (qv0 _ _) fun tb => ?_
 split
 ·exact qn3 _ _ _
 ·exact O6
theorem xz5 (env : Env) (outer : List Env) : Dk (behindIsImport env outer) := by
 unfold behindIsImport
 split
 ·exact O6
 ·split
  ·exact O6
  ·exact M1 (qv0 _ _) fun _ => O6
theorem yg6 : Dk underTheClaimsCaller := by
 unfold underTheClaimsCaller
 exact M1 wl0 fun _ => O6
theorem yq5 (env : Env) (i : Bool) : ∀ outer : List Env, Dk (keptBack env i outer)
 | [] => by
   show Dk (if (env.scope.isGenerator || env.scope.isCoroutine) = true then pure Value.none else do return if <- underTheClaimsCaller then .notImplemented else .none)
   split
   ·exact O6
   ·exact M1 yg6 fun b => O6
 | c :: l => O6
theorem xg7 : ∀ l : List Env, Dk (readyFrames l)
 | [] => O6
 | env :: outer => by
   unfold readyFrames
   split
   ·refine M1 wz3 fun o => ?_
    split
    ·exact O6
    ·exact M1 (xz5 _ _) fun b => M1 (yq5 _ _ _) fun v => M1 ⟨fun o => rfl, True.intro⟩ fun _ => xg7 outer
   ·exact qg8
theorem wl2 (l : List Env) : Dk (frameObject l) := by
 cases l with
 | nil => exact O6
 | cons env outer => unfold frameObject; exact M1 (xg7 _) fun _ => O6
theorem xo1 (env : Env) : Dk (PySem.frameOf env) := by
 unfold PySem.frameOf frameEnvs
 refine M1 (M1 wl0 fun _ => O6) fun l => M1 (wl2 _) fun o => ?_
 split
 ·exact O6
 ·exact qg8
theorem yg7 (f : Addr) (b : Bool) : Dk (entryPlaceOf f b) := by
 unfold entryPlaceOf
 refine M1 wl0 fun l => ?_
 split <;> exact O6
theorem xg8 (a b c d e : Value) (l : List Value) : Dk (EntryCells.newEntry a b c d e l) := by
 unfold EntryCells.newEntry newFields
 have last : ∀ dt : Data, Dk (newObjAsIs (.type "traceback") dt) := fun dt => by unfold newObjAsIs; exact fun a => True.intro
 have two : ∀ vs : List Value, Dk (newObj (.type "traceback") (.fields vs.toArray)) := fun vs => by
  show Dk (if vs.toArray.size > sizeLine + 2 then (unsupported "record:memory" >>= fun _ => newObjAsIs (.type "traceback") (.fields vs.toArray)) else newObjAsIs (.type "traceback") (.fields vs.toArray))
  split
  ·exact M1 qg8 fun _ => last _
  ·exact last _
 exact two _
theorem xt2 (e : Value) (env : Env) : Dk (noteFrame e env) := by
 unfold noteFrame
 split
 ·refine M1 (qv0 _ _) fun head => ?_
  have last : ∀ f, Dk (do setField e 1 (<- EntryCells.newEntry head (<- PySem.frameOf env) .none (rawInt f) .none (<- entryPlaceOf f (head != .none)))) := fun f =>
   M1 (xo1 _) fun a => M1 (yg7 _ _) fun b => M1 (xg8 _ _ _ _ _ _) fun c => qn3 _ _ _
  split
  ·refine M1 (qv0 _ _) fun x => ?_
   split
   ·exact O6
   ·exact M1 (qn3 _ _ _) fun _ => last _
  ·exact last _
 ·exact qg8
theorem wl3 (env : Env) (e : Value) : Dk (leaving env e) := M1 (xt2 _ _) fun _ => qi6 _ _
variable {cls : Value}
section
variable {T : Addr} {o : HO} {l : List Env}
theorem N1.lies (x : N1 P w H h a o) : ∃ u, h.get? a = some u := by
 cases o with
 | lst xs => obtain ⟨_, _, _, _, e⟩ := x; exact ⟨_, e⟩
 | tup xs => obtain ⟨_, _, _, _, e, _⟩ := x; exact ⟨_, e⟩
 | dK kvs => obtain ⟨_, _, _, _, o, _, _, e, _⟩ := x; exact ⟨_, e⟩
 | dT kvs => obtain ⟨_, _, _, _, o, _, _, e, _⟩ := x; exact ⟨_, e⟩
 | set S n => obtain ⟨o, _, _, _, e, _⟩ := x; exact ⟨_, e⟩
 | ins C dx fs => obtain ⟨_, _, _, e, _⟩ := x; exact ⟨_, e⟩
 | own y => obtain ⟨_, e⟩ := x; exact ⟨_, e⟩
 | xd fs => obtain ⟨_, ⟨_, _, _, e, _⟩, _⟩ := x; exact ⟨_, e⟩
 | rng lo hi => obtain ⟨_, _, _, e⟩ := x; exact ⟨_, e⟩
 | frz ob u => obtain ⟨e, _⟩ := x; exact ⟨_, e⟩
 | tbl ps => exact ⟨_, (show h.get? a = some _ from x)⟩
 | met f y => exact ⟨_, (show h.get? a = some _ from x)⟩
 | ext φ => obtain ⟨_, ⟨_, e⟩, _⟩ := x; exact ⟨_, e⟩
theorem HOk.gone (x : HOk P w H h) (e : h.get? a = none) : H a = none := by
 cases q : H a with
 | none => rfl
 | some u =>
   obtain ⟨v, z⟩ := (x a u q).lies
   rw [e] at z; cases z
structure Aw (l : List Env) (a T : Addr) (h h' : Heap) : Prop where
 keep : ∀ b o, h.get? b = some o -> b ≠ a -> b ≠ T -> b ∉ frs l -> h'.get? b = some o
 slot : ∀ b o, h.get? b = some o -> b ∈ frs l -> ∃ sl, h'.get? b = some { o with slots := sl }
theorem Un.away (u : Un (frs l) [] H H' h h1) (na : h.get? a = none) (nT : h.get? T = none) (w : Aw l a T h1 h2) : Un (frs l) [] H H' h h2 := by
 have ne : ∀ {b o c}, h.get? b = some o -> h.get? c = none -> b ≠ c := fun e n z => by rw [z, n] at e; cases e
 refine ⟨fun b o q n hb hx => w.keep b o (u.keep b o q n hb hx) (ne q na) (ne q nT) hb, fun b o q n hb hx => ?_, u.free, fun b o q hx => ?_, u.tups, u.frzs, u.tbls⟩
 ·obtain ⟨sl, e⟩ := u.slot b o q n hb hx
  obtain ⟨sl', e'⟩ := w.slot b _ e hb
  exact ⟨sl', e'⟩
 ·obtain ⟨o', e⟩ := u.there b o q hx
  by_cases hb : b ∈ frs l
  ·obtain ⟨sl, e'⟩ := w.slot b o' e hb
   exact ⟨_, e'⟩
  ·exact ⟨o', w.keep b o' e (ne q na) (ne q nT) hb⟩
theorem HOk.away (x : HOk P w H h1) (nf : ∀ b ∈ frs l, H b = none) (na : H a = none) (nT : H T = none) (y : Aw l a T h1 h2) : HOk P w H h2 := fun b u e => by
 have ne : ∀ {b o c}, H b = some o -> H c = none -> b ≠ c := fun e n z => by rw [z, n] at e; cases e
 refine (x b u e).stay (fun c v hc q => ?_) (fun _ q => q) fun _ _ q => q
 have hs : ∃ o, H c = some o := by
  rcases hc with rfl | hc
  ·exact ⟨_, e⟩
  ·exact ⟨_, hc⟩
 obtain ⟨o, e'⟩ := hs
 exact y.keep c v q (ne e' na) (ne e' nT) fun hb => by rw [nf c hb] at e'; cases e'
theorem zh4 {base B : Heap} : ∀ {l : List Env}, h.FunFrames base l -> (∀ b ∈ frs l, B.get? b = none) -> (∀ b o, h.get? b = some o -> b ∈ frs l -> ∃ sl, h1.get? b = some { o with slots := sl }) -> h1.FunFrames B l := by
 intro l
 induction l with
 | nil => intro _ _ _; trivial
 | cons env r ih =>
   intro hl hB hs
   obtain ⟨hk, ⟨L, o, hf, hn, ho, hd⟩, hr⟩ := hl
   have sub : ∀ b ∈ frs r, b ∈ frs (env :: r) := fun b hb => by unfold frs; rw [List.filterMap_cons, hf]; exact List.mem_cons_of_mem _ hb
   have hL : L ∈ frs (env :: r) := by unfold frs; rw [List.filterMap_cons, hf]; exact List.mem_cons_self
   obtain ⟨sl, e⟩ := hs L o ho hL
   exact ⟨hk, ⟨L, _, hf, hB L hL, e, hd⟩, ih hr (fun b hb => hB b (sub b hb)) fun b o q hb => hs b o q (sub b hb)⟩
structure Trc (h h' : Heap) (H : Hp) (a : Addr) (cls : Value) (od : Option Addr) : Prop where
 new : h.get? a = none
 nH : H a = none
 ex : ∃ oe vs a0 T oT ts, h'.get? a = some oe /\ oe.cls = cls /\ vs[0]? = some a0 /\ oe.data = Data.fields vs /\ vs[1]? = some (Value.ref T) /\ T ≠ a /\ h'.get? T = some oT /\ oT.data = Data.fields ts /\ ts[3]? = some Value.none /\ h.get? T = none /\ H T = none /\ oe.dict = od
def Fly (P : Program) (w : World) : CXT := fun outer H s E e s' =>
 ∃ a cls od H', e = Value.ref a /\ 0 < s'.toks /\ s'.os = s.os /\ AllBare s'.gens /\ Un (frs outer) [] H H' s.heap s'.heap /\ HOk P w H' s'.heap /\ Trc s.heap s'.heap H' a cls od /\ E cls od H'
abbrev qi7 (h : Heap) (a T : Addr) (l : List Env) : Heap := PySem.W.hideAll h (a :: T :: frs l)
theorem qr8 (h : Heap) (a T : Addr) (l : List Env) : (qi7 h a T l).StaysIn h := fun b o e => PySem.W.of_hideAll _ e
theorem xo2 : (qi7 h a T l).get? a = none := PySem.W.hideAll_none _ (by simp)
theorem yg8 : (qi7 h a T l).get? T = none := PySem.W.hideAll_none _ (by simp)
theorem wz4 : ∀ b ∈ frs l, (qi7 h a T l).get? b = none := fun b hb => PySem.W.hideAll_none _ (by simp [hb])
theorem yg9 (hs : (qi7 h a T l).StaysIn h2) (hf : ∀ b o, h.get? b = some o -> (∀ vs : Array Value, o.data ≠ Data.fields vs) -> ∃ sl, h2.get? b = some { cls := o.cls, dict := o.dict, data := o.data, slots := sl }) {base : Heap} (ff : h.FunFrames base l) : Aw l a T h h2 := by
 refine ⟨fun b o e n1 n2 n3 => hs b o (PySem.W.hideAll_get _ e (by simp [n1, n2, n3])), fun b o e hb => ?_⟩
 obtain ⟨_, o', e', d⟩ := ff.mem hb
 rw [e] at e'; cases e'
 exact hf b _ e d
theorem yh0 {a0 : Value} {h0 base : Heap} (new : h0.get? a = none) (nH : H a = none) (nT0 : h0.get? T = none) (nT : H T = none) (hu : ∀ b o, h0.get? b = some o -> ∃ o', h.get? b = some o') (hok : HOk P w H h) (ff : h2.FunFrames base l) (t : h2.TracedW (qi7 h a T l) a cls a0) (hd : ∀ o, h2.get? a = some o -> o.dict = od) : Trc h0 h2 H a cls od := by
 obtain ⟨oe, vs, T', oT, ts, e1, ⟨e2, e3⟩, e4, e5, e6, e7, e8, e9, e10⟩ := t
 have q : h0.get? T' = none /\ H T' = none := by
  by_cases z : T' = T
  ·rw [z]; exact ⟨nT0, nT⟩
  ·have hb : T' ∉ frs l := fun hb => by
    obtain ⟨_, o, eo, d⟩ := ff.mem hb
    rw [e8] at eo; cases eo
    exact d _ e9
   have hh : h.get? T' = none := by
    cases q : h.get? T' with
    | none => rfl
    | some u =>
      have := PySem.W.hideAll_get (a :: T :: frs l) q (by simp [z, e7, hb])
      rw [e6] at this; cases this
   refine ⟨?_, hok.gone hh⟩
   cases q : h0.get? T' with
   | none => rfl
   | some u =>
     obtain ⟨_, r⟩ := hu _ _ q
     rw [hh] at r; cases r
 exact ⟨new, nH, oe, vs, a0, T', oT, ts, e1, e2, e3, e4, e5, e7, e8, e9, e10, q.1, q.2, hd _ e1⟩
end
variable {d : Drawn} {Q' : Value -> Shared -> Prop}
section
variable {E : XK}
theorem yh1 (I : Inv X pins σ H s) (u : Un (frs X.stack) [] H H' s.heap h') : ∀ b ∈ frs X.stack, H' b = none := fun b hb => by
 obtain ⟨_, o, e, _⟩ := I.stack.mem hb
 exact u.free b o e (I.stkFree b hb) (by simp)
theorem xo3 (I : Inv X pins σ H s) {B : Heap} (u : Un (frs X.stack) [] H H' s.heap h') (hB : ∀ b ∈ frs X.stack, B.get? b = none) : h'.FunFrames B X.stack :=
 zh4 I.stack hB fun b o e hb => u.slot b o e (I.stkFree b hb) hb (by simp)
theorem Inv.landed {T : Addr} {g : Array GenState} {t : Nat} (I : Inv X pins σ H s) (u : Un (frs X.stack) [] H H' s.heap s'.heap) (hok : HOk X.prog X.w H' s'.heap) (hg : AllBare g) (ht : 0 < t) (na : s.heap.get? a = none) (nT : s.heap.get? T = none) (ha : H' a = none) (hT : H' T = none) (w : Aw X.stack a T s'.heap h2) : Inv X pins σ H' { s with heap := h2, gens := g, drawn := d, toks := t } :=
 I.call (ch := []) (u.away na nT w) (hok.away (yh1 I u) ha hT w) hg (fun b z => absurd z (by simp)) ht
theorem xo4 {t : Addr} (hst : X.stack = X.env :: X.outer) (hex : X.ex = []) (hf : X.env.frame = some X.env.locals) (I : Inv X pins σ H s) (u : Un (frs X.stack) [] H H' s.heap s'.heap) (hok : HOk X.prog X.w H' s'.heap) (tk : 0 < s'.toks) (os : s'.os = s.os) (bare : AllBare s'.gens) (new : s.heap.get? a = none) (na : H' a = none) (e1 : s'.heap.get? a = some { cls := cls, dict := od, data := .fields #[.ref t, .none, .none, .none, .bool false, .none] }) (hE : E cls od H') :
 wpAny (model X.prog X.w) X.A (leaving X.env (.ref a)) (fun _ s'' => Fly X.prog X.w X.outer X.H₀ X.s₀ E (.ref a) s'') Q' s' := by
 have ff : s'.heap.FunFrames (qi7 s'.heap a a X.stack) X.stack := xo3 I u wz4
 refine wpAny_mono (wk9 (wl3 _ _) (wk8.of e1 rfl) (wpAny_leaving_firstW (Q := fun _ s'' => ∃ h2, s'' = { s' with heap := h2 } /\ Heap.LeftW (qi7 s'.heap a a X.stack) (X.env :: X.outer) a cls (.ref t) s'.heap h2) (base := qi7 s'.heap a a X.stack) (outer := X.outer) (L := X.env.locals) (a0 := Value.ref t) (by rw [I.ok.frames, hst]) (by rw [<- hst]; exact ff) hf e1 (qr8 _ _ _ _) xo2 rfl rfl rfl fun h2 L => ⟨h2, rfl, L⟩)) (fun _ s2 h => ?_) fun _ _ h => h
 obtain ⟨⟨h2, rfl, L⟩, hD⟩ := h
 rw [<- hst] at L
 obtain ⟨L1, L2, L3, L4⟩ := L
 have aw : Aw X.stack a a s'.heap h2 := yg9 L1 L4 ff
 have J : Inv X pins σ H' { s with heap := h2, gens := s'.gens, drawn := s'.drawn, toks := s'.toks } := I.landed u hok bare tk new new na na aw
 have hs0 : ∀ b o, X.s₀.heap.get? b = some o -> ∃ o', s.heap.get? b = some o' := fun b o e => I.base.there b o e (by rw [hex]; simp)
 have new0 : X.s₀.heap.get? a = none := by
  cases q : X.s₀.heap.get? a with
  | none => rfl
  | some o => obtain ⟨_, r⟩ := hs0 a o q; rw [new] at r; cases r
 refine ⟨a, cls, od, H', rfl, tk, os.trans I.os, bare, ?_, J.hok, yh0 new0 na new0 na (fun b o e => ?_) hok L2 L3 (fun o g => hD.at g), hE⟩
 ·have := J.base; rw [hex] at this; exact this
 ·obtain ⟨o', r⟩ := hs0 b o e
  exact u.there b o' r (by simp)
theorem yh2 {e : Value} (hst : X.stack = X.env :: X.outer) (hex : X.ex = []) (hf : X.env.frame = some X.env.locals) (I : Inv X pins σ H s) (F : Fly X.prog X.w X.stack H s E e s') :
 wpAny (model X.prog X.w) X.A (leaving X.env e) (fun _ s'' => Fly X.prog X.w X.outer X.H₀ X.s₀ E e s'') Q' s' := by
 obtain ⟨a, cls, od, H', rfl, tk, os, bare, u, hok, tr, hE⟩ := F
 obtain ⟨oe, vs, a0, T, oT, ts, e1, e2, e3, e4, e5, e6, e7, e8, e9, e10, e11, e12⟩ := tr.ex
 have ff : s'.heap.FunFrames (qi7 s'.heap a T X.stack) X.stack := xo3 I u wz4
 refine wpAny_mono (wk9 (wl3 _ _) (wk8.of e1 e12) (wpAny_leaving_nextW (Q := fun _ s'' => ∃ h2, s'' = { s' with heap := h2 } /\ Heap.LeftW (qi7 s'.heap a T X.stack) (X.env :: X.outer) a cls a0 s'.heap h2) (base := qi7 s'.heap a T X.stack) (outer := X.outer) (L := X.env.locals) (cls := cls) (a0 := a0) (by rw [I.ok.frames, hst]) (by rw [<- hst]; exact ff) hf ⟨oe, vs, T, oT, ts, e1, ⟨e2, e3⟩, e4, e5, yg8, e6, e7, e8, e9⟩ (qr8 _ _ _ _) xo2 fun h2 L => ⟨h2, rfl, L⟩)) (fun _ s2 h => ?_) fun _ _ h => h
 obtain ⟨⟨h2, rfl, L⟩, hD⟩ := h
 rw [<- hst] at L
 obtain ⟨L1, L2, L3, L4⟩ := L
 have aw : Aw X.stack a T s'.heap h2 := yg9 L1 L4 ff
 have J : Inv X pins σ H' { s with heap := h2, gens := s'.gens, drawn := s'.drawn, toks := s'.toks } := I.landed u hok bare tk tr.new e10 tr.nH e11 aw
 have hs0 : ∀ b o, X.s₀.heap.get? b = some o -> ∃ o', s.heap.get? b = some o' := fun b o e => I.base.there b o e (by rw [hex]; simp)
 have new0 : ∀ c, s.heap.get? c = none -> X.s₀.heap.get? c = none := fun c n => by
  cases q : X.s₀.heap.get? c with
  | none => rfl
  | some o => obtain ⟨_, r⟩ := hs0 c o q; rw [n] at r; cases r
 refine ⟨a, cls, od, H', rfl, tk, os.trans I.os, bare, ?_, J.hok, yh0 (new0 a tr.new) tr.nH (new0 T e10) e11 (fun b o e => ?_) hok L2 L3 (fun o g => hD.at g), hE⟩
 ·have := J.base; rw [hex] at this; exact this
 ·obtain ⟨o', r⟩ := hs0 b o e
  exact u.there b o' r (by simp)
end
section
variable {base : Heap} {f : Addr} {E : XK}
def xt3 (X : Cx) (E : XK) : Prop := ∀ (pins : List (Addr × Obj)) (σ : St) (H H' : Hp) (s s' : Shared) (a t : Addr) (cls : Value) (od : Option Addr), Inv X pins σ H s -> Un (frs X.stack) [] H H' s.heap s'.heap -> HOk X.prog X.w H' s'.heap -> 0 < s'.toks -> s'.os = s.os -> AllBare s'.gens -> s.heap.get? a = none -> H' a = none ->
 s'.heap.get? a = some { cls := cls, dict := od, data := .fields #[.ref t, .none, .none, .none, .bool false, .none] } -> E cls od H' -> X.xe (.ref a) s'
theorem qr9 : xt3 (qt7 (Fly P w) P w K mg base N qual scope f cd A outer s H E) E := fun pins σ H1 H2 s1 s2 a t cls od I u hok tk os bare new na e1 hE =>
 xo4 (X := qt7 (Fly P w) P w K mg base N qual scope f cd A outer s H E) rfl rfl rfl I u hok tk os bare new na e1 hE
theorem xz6 : wx6 (Fly P w) (qt7 (Fly P w) P w K mg base N qual scope f cd A outer s H E) E := fun pins σ H1 s1 e s' I F =>
 yh2 (X := qt7 (Fly P w) P w K mg base N qual scope f cd A outer s H E) rfl rfl rfl I F
theorem za5 : PassesOwn (model P w) (qt7 (Fly P w) P w K mg base N qual scope f cd A outer s H E).A (qt7 (Fly P w) P w K mg base N qual scope f cd A outer s H E).env (qt7 (Fly P w) P w K mg base N qual scope f cd A outer s H E).xe :=
 PassesOwn.leaving
theorem Fun.okX {k : Nat} (F : Fun K x qual st f fd) (S : E4 N ps (B8 st)) (len : ∀ vs H Q E, sp vs H Q E -> vs.length = ps.length) (hbody : ∀ (cdv : Value) (A : Around) (outer : List Env) (s : Shared) (H : Hp) (vs : List V) (Q : VK) (E : XK), qa4 k (A.deeper (envOfC qual (B8 st) s.heap.objs.size f cdv)) -> sp vs H Q E ->
  ∃ t, PSs (qt7 (Fly P w) P w K mg base N qual (B8 st) f cdv A outer s H E) (qi4 st) t /\ t { nx := fun _ H' => Q .non H', rt := Q } (I9 N vs) H) : N5 P w K mg base (Fly P w) (k + 1) f fd ps sp := by
 obtain ⟨oc, od, kV, doc, pm, an, cdv, ct, osl, rfl, lk, hcd⟩ := F.ex
 exact yu3 lk hcd S len fun A outer s H vs Q E hr hsp => hbody cdv A outer s H vs Q E hr hsp
end
abbrev bmV : List Value := [Value.type "ValueError", Value.type "Exception", Value.type "BaseException", Value.type "object"]
abbrev Cx.held (X : Cx) (a : Addr) (E : Value -> Shared -> Prop) : Cx := { X with A := X.A.mark (some (.ref a)), calm := false, xe := E }
theorem Cx.Ok.held (ok : X.Ok) (a : Addr) (E : Value -> Shared -> Prop) : (X.held a E).Ok :=
 ⟨ok.mod, ok.kind, ok.glob, ok.blt, ok.above, ok.inj, ok.has, ok.cab, (fun z => Bool.noConfusion z), ok.frames, ok.stk, ok.exf, ok.bs, ok.bsz, ok.noex, ok.exfs, ok.funs, ok.frf⟩
theorem Inv.held (I : Inv X pins σ H s) (a : Addr) (E : Value -> Shared -> Prop) : Inv (X.held a E) pins σ H s := ⟨I.ok.held a E, I.os, I.bare, I.base, I.loc, I.cell, I.free, I.freeC, I.pin, I.hok, I.len, I.tk⟩
theorem Inv.unheld (ok : X.Ok) (I : Inv (X.held a E) pins σ H s) : Inv X pins σ H s := ⟨ok, I.os, I.bare, I.base, I.loc, I.cell, I.free, I.freeC, I.pin, I.hok, I.len, I.tk⟩
theorem SP.unheld {f : Flow} (ok : X.Ok) (h : SP (X.held a E) pins D f s') : SP X pins D f s' := by
 cases f with
 | next => obtain ⟨σ', H', I, q⟩ := h; exact ⟨σ', H', I.unheld ok, q⟩
 | brk => obtain ⟨σ', H', I, q⟩ := h; exact ⟨σ', H', I.unheld ok, q⟩
 | cont => obtain ⟨σ', H', I, q⟩ := h; exact ⟨σ', H', I.unheld ok, q⟩
 | ret u => obtain ⟨v, σ', H', I, r, q⟩ := h; exact ⟨v, σ', H', I.unheld ok, r, q⟩
def PX (X : Cx) (e : Expr) (t : XK -> TE) : Prop :=
 ∀ (pins : List (Addr × Obj)) (s : Shared) (σ : St) (H : Hp) (Q : VK) (E : XK) (xe' : Value -> Shared -> Prop), Inv X pins σ H s -> (∀ H1 s1 e s2, Inv X pins σ H1 s1 -> Fly X.prog X.w X.stack H1 s1 E e s2 -> xe' e s2) -> t E σ H Q ->
  wpAny (model X.prog X.w) X.A (eval e X.env) (EP X pins σ Q) xe' s
section
variable {k : Nat} {f D : Addr} {ds : List Value} {p : Pos}
theorem yq6 (F : N5 X.prog X.w X.K X.mg X.base (Fly X.prog X.w) k f fd ps sp) (hr : qa4 k X.A) (hg : Gl X x) (hm : X.mg x = some (.ref f)) (hk : PySem.W.keepIn X.K (.ref f) = true) (hb : qq6 X.K fd ps ds) (hd : G3 dvs ds) (ha : ∀ xe', PA (X.wish xe') (e :: es) t) (hdb : autoParam ((x == ("__debug__" : Str)) = false) zAd) (he : autoParam (starEach (e :: es) X.env = (false, eval e X.env) :: starEach es X.env) zAr) (hpl : autoParam ((backTo pos (starEach es X.env)).any (·.1) = false) zAr) :
 PX X (.Call (.Name x p) (e :: es) [] pos) (fun E => D9 sp dvs E t) := by
 intro pins s σ H Q E xe' I hx h
 refine wpAny_Call_Name_kw (qo6 I hg hm ?_ hdb)
 refine PySem.W.callWith_K (h₀ := X.base) I.ok.mod.kin hk (thn (ha xe' pos pins s σ H _ (I.wish xe') h) fun us s1 ⟨vs, H1, I1, r, q⟩ => ⟨I1.kIn, ?_⟩) he hpl
 have J := I1.unwish
 have r2 : G3 (vs ++ dvs) (us ++ ds) := r.append hd
 have hl : (us ++ ds).length = ps.length := by rw [<- r2.length]; exact F.len _ _ _ _ q
 refine wpAny_call (codeAny_mono (F.run X.A X.stack s1 H1 ⟨us, []⟩ (us ++ ds) (vs ++ dvs) Q E hr J.env0 (hb s1 us J.kIn hl) r2 q) fun r s' hq => ?_)
 cases r with
 | error e => exact hx H1 s1 e s' J hq
 | ok fl =>
   cases fl with
   | ret u => exact J.after hq
   | next => exact False.elim hq
   | brk => exact False.elim hq
   | cont => exact False.elim hq
theorem zh5 {E : XK} {e : Value} {hs : List ExceptHandler} {Q : Flow -> Shared -> Prop} {E' : Value -> Shared -> Prop} (hst : X.stack = X.env :: X.outer) (hf : X.env.frame = some X.env.locals) (I : Inv X pins σ H s) (F : Fly X.prog X.w X.stack H s E e s') (k : ∀ a cls od H' s2, e = .ref a -> s.heap.get? a = none -> E cls od H' -> Inv X pins σ H' s2 -> (∃ oe, s2.heap.get? a = some oe /\ oe.cls = cls) ->
  (∀ (A : Around) (E2 : Value -> Shared -> Prop) (Q2 : Unit -> Shared -> Prop), (∀ s3, Inv X pins σ H' s3 -> (∃ oe, s3.heap.get? a = some oe /\ oe.cls = cls /\ oe.dict = od /\ ∃ vs, oe.data = Data.fields vs) -> H' a = none -> Q2 () s3) -> wpAny (model X.prog X.w) A (setFlight (.ref a) none) Q2 E2 s2) ->
  wpAny (model X.prog X.w) X.A (handleBy (.ref a) X.env hs) Q E' s2) :
 wpAny (model X.prog X.w) X.A (noteFrame e X.env) (fun _ s₂ => wpAny (model X.prog X.w) X.A (setFlight e none) (fun _ s₃ => wpAny (model X.prog X.w) X.A (handleBy e X.env hs) Q E' s₃) E' s₂) E' s' := by
 obtain ⟨a, cls, od, H', rfl, tk, os, bare, u, hok, tr, hE⟩ := F
 obtain ⟨oe, vs, a0, T, oT, ts, e1, e2, e3, e4, e5, e6, e7, e8, e9, e10, e11, e12⟩ := tr.ex
 have ff : s'.heap.FunFrames (qi7 s'.heap a T X.stack) X.stack := xo3 I u wz4
 have W : (qi7 s'.heap a T X.stack).FlyingW X.stack a cls a0 s'.heap := ⟨qr8 _ _ _ _, xo2, ff, oe, vs, T, oT, ts, e1, ⟨e2, e3⟩, e4, e5, yg8, e6, e7, e8, e9⟩
 have inv : ∀ {h2 : Heap}, (qi7 s'.heap a T X.stack).FlyingW X.stack a cls a0 h2 -> s'.heap.UpToSlots h2 -> Inv X pins σ H' { s' with heap := h2 } := fun {h2} W2 U2 => by
  have aw : Aw X.stack a T s'.heap h2 := yg9 W2.1 U2 ff
  have J := I.landed (g := s'.gens) (d := s'.drawn) (t := s'.toks) u hok bare tk tr.new e10 tr.nH e11 aw
  obtain ⟨hh, g, d, t, os'⟩ := s'
  obtain rfl : os' = s.os := os
  exact J
 refine wpAny_mono (wk9 (xt2 _ _) (wk8.of e1 e12) (wpAny_looks_onW (Q := fun _ s2 => ∃ h1, s2 = { s' with heap := h1 } /\ Heap.HeldW (qi7 s'.heap a T X.stack) (X.env :: X.outer) a cls a0 X.env.locals h1 /\ s'.heap.UpToSlots h1) (base := qi7 s'.heap a T X.stack) (outer := X.outer) (by rw [I.ok.frames, hst]) hf (by rw [<- hst]; exact W) fun h1 W1 U1 => ⟨h1, rfl, W1, U1⟩)) (fun _ sA h => ?_) fun _ _ h => h
 obtain ⟨⟨h1, rfl, W1, U1⟩, D1⟩ := h
 refine wpAny_mono (wk9 (qi6 _ _) D1 (wpAny_landsW (s := { s' with heap := h1 }) (Q := fun _ s2 => ∃ h2, s2 = { s' with heap := h2 } /\ Heap.FlyingW (qi7 s'.heap a T X.stack) (X.env :: X.outer) a cls a0 h2 /\ h1.UpToSlots h2) W1 fun h2 W2 U2 => ⟨h2, rfl, W2, U2⟩)) (fun _ sB h => ?_) fun _ _ h => h
 obtain ⟨⟨h2, rfl, W2, U2⟩, D2⟩ := h
 rw [<- hst] at W2
 have U12 := U1.trans U2
 refine k a cls od H' _ rfl tr.new hE (inv W2 U12) ?_ fun A E2 Q2 hQ => wpAny_mono (wk9 (qi6 _ _) D2 (lands_againW (s := { s' with heap := h2 }) (Q := fun _ s3 => ∃ h3, s3 = { s' with heap := h3 } /\ Heap.FlyingW (qi7 s'.heap a T X.stack) X.stack a cls a0 h3 /\ h2.UpToSlots h3) W2 fun h3 W3 U3 => ⟨h3, rfl, W3, U3⟩)) (fun _ sC h => ?_) fun _ _ h => h
 ·obtain ⟨oe', vs', T', oT', ts', f1, ⟨f2, f3⟩, _⟩ := W2.2.2.2
  exact ⟨oe', f1, f2⟩
 ·obtain ⟨⟨h3, rfl, W3, U3⟩, D3⟩ := h
  refine hQ _ (inv W3 (U12.trans U3)) ?_ tr.nH
  obtain ⟨oe', vs', T', oT', ts', f1, ⟨f2, f3⟩, f4, _⟩ := W3.2.2.2
  exact ⟨oe', f1, f2, D3.at f1, vs', f4⟩
end
structure wl4 (K : Fg) (C : Addr) : Prop where
 ga : PySem.W.findIn K (.ref C) "__getattribute__" = some (some (.builtin "BaseException.__getattribute__"))
 gn : PySem.W.findIn K (.ref C) "__getattr__" = some none
 cl : PySem.W.findIn K (.ref C) "__class__" = some (some (.builtin "object.__class__"))
 bx : PySem.W.subIn K (.ref C) (.type "BaseException") = some true
 ob : PySem.W.subIn K (.ref C) (.type "object") = some true
variable {os : OsState} {nameV : Value} {tk : Tok} {B : String}
section
variable {g : Array GenState} {t : Nat}
theorem yh3 {R : Result -> Shared -> Prop} (X : K.In h) (Z : wl4 K C) (hx : h.get? a = some o) (hc : o.cls = .ref C) (hq : R (.ok (.ret (.ref C))) ⟨h, g, d, t, os⟩) :
 codeAny (model prog w) A (.call (.builtin "getset_descriptor.__get__") ⟨[.builtin "object.__class__", .ref a, .ref C], []⟩) R ⟨h, g, d, t, os⟩ := by
 have hT5 : (⟨h, g, d, t, os⟩ : Shared).TypeIs (.builtin "object.__class__") "getset_descriptor" := F.typeOf_object_class
 have L := PySem.W.looks_subIn (M := model prog w) X Z.ob
 rw [<- F.owner_object_class] at L
 refine codeAny_call_builtin F.slot_gs_get.plain F.entry_gs_get (F.slot_gs_get.check _ _ _ _ _ _ _ _ hT5 (F.args_gs_get _ _ _) ?_)
 repeat (any_goals (first | assumption | (with_reducible refine wpAny_loadPart_at hx ?_; rw [hc]) | with_reducible refine L.at ?_ | wp_step))
 refine ⟨Code.quiet_builtin _ (by decide +kernel), codeAny_builtin F.entry_object_class ?_⟩
 repeat (any_goals (first | assumption | (with_reducible refine wpAny_loadPart_at hx ?_; rw [hc]) | wp_step))
theorem wl5 {Q : Unit -> Shared -> Prop} (X : K.In h) (Z : wl4 K C) (hx : h.get? a = some o) (hc : o.cls = .ref C) (hq : Q () ⟨h, g, d, t, os⟩) :
 wpAny M A (checkBuiltinCall "BaseException.__getattribute__" ⟨[.ref a, nameV], []⟩) Q E ⟨h, g, d, t, os⟩ := by
 have hk : builtinKind "BaseException.__getattribute__" = some .slot := by decide +kernel
 have hs : splitId "BaseException.__getattribute__" = some ("BaseException", "__getattribute__") := by decide +kernel
 have L := PySem.W.looks_subIn (M := M) X Z.bx
 have ha := F.args_bexc_ga (.ref a) nameV
 simp only [checkBuiltinCall, hk, hs]
 refine wpAny_bind ?_
 ·unfold isInstance
  repeat (first | (with_reducible refine wpAny_loadPart_at hx ?_; rw [hc]) | with_reducible refine L.at ?_ | wp_step)
  exact hq
theorem xo5 {Q : Fin -> Shared -> Prop} (X : K.In h) (Z : wl4 K C) (hx : h.get? a = some o) (hc : o.cls = .ref C) (hq : Q (.done (.ret (.ref C))) ⟨h, g, d, t, os⟩) :
 wpAny (model prog w) A (Builtin.«object.__getattribute__» ⟨[.ref a, .str "__class__" tk], []⟩) Q E ⟨h, g, d, t, os⟩ := by
 have hT5 : (⟨h, g, d, t, os⟩ : Shared).TypeIs (.builtin "object.__class__") "getset_descriptor" := F.typeOf_object_class
 have f5 := F.typeOf_object_class
 have f6 := F.slot_gs_get.lookup
 have f7 := F.slot_gs_set.lookup
 have L := PySem.W.looks_findIn (M := model prog w) X Z.cl
 repeat (any_goals (first | assumption | (with_reducible refine wpAny_loadPart_at hx ?_; rw [hc]) | with_reducible refine L.at ?_ | wp_step))
 refine yh3 X Z hx hc ?_
 repeat (any_goals (first | assumption | wp_step))
theorem xz7 {R : Result -> Shared -> Prop} (FB : ExcAttrFacts B) (X : K.In h) (Z : wl4 K C) (hx : h.get? a = some o) (hc : o.cls = .ref C) (hq : R (.ok (.ret (.ref C))) ⟨h, g, d, t, os⟩) :
 codeAny (model prog w) A (.call (.builtin "BaseException.__getattribute__") ⟨[.ref a, .str "__class__" tk], []⟩) R ⟨h, g, d, t, os⟩ :=
 codeAny_call_builtin FB.ga.plain F.entry_bexc_ga (wl5 X Z hx hc (xo5 X Z hx hc hq))
theorem yq7 (FB : ExcAttrFacts B) (X : K.In h) (Z : wl4 K C) (hx : h.get? a = some o) (hc : o.cls = .ref C) (hq : Q (.ref C) ⟨h, g, d, t, os⟩) :
 wpAny (model prog w) A (getAttrBy (.ref a) (.str "__class__" tk) false) Q E ⟨h, g, d, t, os⟩ := by
 have f3 := FB.ga.bind (.ref a)
 have hx0 : (false && onTheHeap (Value.builtin "BaseException.__getattribute__")) = false := rfl
 have hx2 : (Value.builtin "BaseException.__getattribute__" == Value.builtin "object.__getattribute__") = false := by decide +kernel
 have hx1 : (onTheHeap (Value.ref C) && Value.builtin "BaseException.__getattribute__" == Value.builtin "object.__getattribute__") = false := by rw [hx2]; rfl
 have L1 := PySem.W.looks_findIn (M := model prog w) X Z.ga
 have L2 := PySem.W.looks_findIn (M := model prog w) X Z.gn
 repeat (any_goals (first | assumption | (with_reducible refine wpAny_loadPart_at hx ?_; rw [hc]) | with_reducible refine L1.at ?_ | with_reducible refine L2.at ?_ | wp_step))
 refine xz7 FB X Z hx hc ?_
 repeat (any_goals (first | assumption | wp_step))
theorem xz8 {Q : Option Value -> Shared -> Prop} (FB : ExcAttrFacts B) (X : K.In h) (Z : wl4 K C) (hx : h.get? a = some o) (hc : o.cls = .ref C) (hq : Q (some (.ref C)) ⟨h, g, d, t + 1, os⟩) :
 wpAny (model prog w) A (getAttr? (.ref a) "__class__") Q E ⟨h, g, d, t, os⟩ := by
 unfold getAttr? getAttrBy?
 repeat (any_goals (first | assumption | with_reducible apply yq7 FB X Z hx hc | wp_step))
end
theorem wh2 {i : Nat} {n : Str} {Q : Unit -> Shared -> Prop} (I : Inv X pins σ H s) (hN : X.N.Nodup) (hi : X.N[i]? = some n) (hk : X.env.scope.names.lookup n = some .local) (h : ∀ s', Inv X pins (σ.set i none) H s' -> Q () s') : wpAny M A (do bindName X.env n .none; unbindBehindTheSuite X.env n pos) Q E s := by
 obtain ⟨m, hn, hl⟩ := id I.loc
 have hp : (X.env.scope.kind == .class || (X.env.scope.kind == .module && X.env.locals != X.env.globals)) = false := by rw [I.ok.kind]; rfl
 refine wpAny_nameGoes_keeps hk hn hp fun h' v hn' hs => h _ ?_
 have other : ∀ {b : Addr} {o : Obj}, b ≠ X.env.locals -> s.heap.get? b = some o -> h'.get? b = some o := fun nb e => (hs.2 _ nb).trans e
 have low : ∀ {b : Addr} {o : Obj}, X.s₀.heap.get? b = some o -> b ≠ X.env.locals := fun e => Nat.ne_of_lt (Nat.lt_of_lt_of_le (Heap.lt_size e) I.ok.above)
 have trk : ∀ {b : Addr} {u : HO}, H b = some u -> b ≠ X.env.locals := fun e z => by rw [z, I.free] at e; cases e
 refine ⟨I.ok, I.os, I.bare, ⟨fun b o e z hb hx => other (low e) (I.base.keep b o e z hb hx), fun b o e z hb hx => ?_, I.base.free, fun b o e hx => ?_, I.base.tups, I.base.frzs, I.base.tbls⟩, ⟨_, hn', fun j y w e1 e2 e3 => ?_⟩, fun y c e => ?_, I.free, I.freeC, fun p hp => ?_, fun b u e => ?_, ?_, Nat.succ_pos _⟩
 ·obtain ⟨sl, q⟩ := I.base.slot b o e z hb hx
  exact ⟨sl, other (low e) q⟩
 ·obtain ⟨o', q⟩ := I.base.there b o e hx
  exact ⟨o', other (low e) q⟩
 ·by_cases hj : j = i
  ·subst hj
   have := List.getElem?_set_self (l := σ) (a := (none : Option V)) (i := j) (by rw [I.len]; exact (List.getElem?_eq_some_iff.mp hi).1)
   rw [this] at e2; cases e2
  ·rw [List.getElem?_set_ne (Ne.symm hj)] at e2
   obtain ⟨u, r, q⟩ := hl j y w e1 e2 e3
   refine ⟨u, r, ?_⟩
   rcases q with ⟨k, e⟩ | ⟨k, c, e, z⟩
   ·have : y ≠ n := fun e => hj (wi6 hN e1 (e ▸ hi))
    exact .inl ⟨k, by simp [this, e]⟩
   ·exact .inr ⟨k, c, e, z.sameBut hs (I.cne y c e)⟩
 ·obtain ⟨w, z⟩ := I.cell y c e
  exact ⟨w, z.sameBut hs (I.cne y c e)⟩
 ·obtain ⟨e, z, ne, nf, d⟩ := I.pin p hp
  exact ⟨other ne e, z, ne, nf, d⟩
 ·refine (I.hok b u e).stay (fun c w hc q => other ?_ q) (fun _ q => q) fun _ _ q => q
  rcases hc with rfl | hc
  ·exact trk e
  ·exact trk hc
 ·rw [List.length_set]; exact I.len
theorem Inv.track {o : HO} (I1 : Inv X pins σ H s) (na : s.heap.get? a = none) (I : Inv X pins σ H' s2) (ha : H' a = none) (hex : X.ex = []) (new : N1 X.prog X.w (upd H' a o) s2.heap a o) : Inv X pins σ (upd H' a o) s2 := by
 have ne : ∀ {b : Addr} {u : Obj}, s.heap.get? b = some u -> b ≠ a := fun e z => by rw [z, na] at e; cases e
 have nH : ∀ {b : Addr} {u : HO}, H' b = some u -> b ≠ a := fun e z => by rw [z, ha] at e; cases e
 have n0 : ∀ {b : Addr} {u : Obj}, X.s₀.heap.get? b = some u -> b ≠ a := fun {b u} e => by
  obtain ⟨u', q⟩ := I1.base.there b u e (by rw [hex]; simp)
  exact ne q
 refine ⟨I.ok, I.os, I.bare, ⟨I.base.keep, I.base.slot, fun b u e z hx => ?_, I.base.there, fun b xs e => ?_, fun b u xs e => ?_, fun b ps e => ?_⟩, I.loc, I.cell, ?_, fun y c e => ?_, fun p hp => ?_, fun b u e => ?_, I.len, I.tk⟩
 ·rw [C4 (n0 e)]; exact I.base.free b u e z hx
 ·have := I.base.tups b xs e; rw [C4 (nH this)]; exact this
 ·have := I.base.frzs b u xs e; rw [C4 (nH this)]; exact this
 ·obtain ⟨m, q⟩ := I.base.tbls b ps e
  exact ⟨m, by rw [C4 (nH q)]; exact q⟩
 ·obtain ⟨m, ⟨u, _, _, q, _⟩, _⟩ := I1.loc
  rw [C4 (ne q)]; exact I.free
 ·obtain ⟨v, u, q, _⟩ := I1.cell y c e
  rw [C4 (ne q)]; exact I.freeC y c e
 ·obtain ⟨e, z, n1, nf, d⟩ := I.pin p hp
  exact ⟨e, by rw [C4 (ne (I1.pin p hp).1)]; exact z, n1, nf, d⟩
 ·by_cases hb : b = a
  ·subst hb; rw [A8] at e; cases e; exact new
  ·rw [C4 hb] at e
   exact (I.hok b u e).stay (fun c v _ q => q) (fun c q => by rw [C4 (nH q)]; exact q) fun c xs q => by rw [C4 (nH q)]; exact q
structure wq9 (K : Fg) (D : Addr) : Prop where
 c : PySem.W.isClsIn K D = true
 t : PySem.W.typeIn K (.ref D) = some (.type "type")
section
variable {D : Addr} {b : Bool}
theorem yq8 (hs : PySem.W.subIn K (.ref C) (.ref C) = some true) (hc : wq9 K D) (h : PySem.W.subIn K (.ref C) (.ref D) = some b) : PySem.W.kitOne K (.ref C) (.ref D) = some b := by
 unfold PySem.W.kitOne
 by_cases e : C = D
 ·subst e
  rw [hs] at h; cases h
  rw [if_pos (by simp)]
 ·rw [if_neg (by simpa using e)]
  unfold PySem.W.kitCls
  dsimp only
  have h1 : (PySem.W.clsIn K D).isSome = true := hc.c
  rw [if_pos (by rw [h1, hc.t]; rfl)]
  exact h
theorem yh4 (Z : wl4 K C) (hc : wq9 K C) : PySem.W.KitX K (.ref a) (.ref C) (fun h => ∃ o, h.get? a = some o /\ o.cls = .ref C) where
 ty := fun M h X ⟨o, e, c⟩ => c ▸ (PySem.W.Looks.ld e).andThen .now
 it := fun M h X _ => by
  have z : (PySem.W.clsIn K C).isSome = true := hc.c
  unfold PySem.W.clsIn at z
  split at z
  next o1 o2 cd o3 ho =>
   intro A' Q' E' s' k q
   unfold isType loadHead
   exact wpAny_bind (wpAny_loadPart (k _ _ (X _ _ ho)) (wpAny_pure q))
  next => cases z
 ne := fun h tp dd its n sl X e => by
  have z : (PySem.W.clsIn K C).isSome = true := hc.c
  unfold PySem.W.clsIn at z
  split at z
  next o1 o2 cd o3 ho =>
   refine Bool.eq_false_iff.mpr fun q => ?_
   obtain rfl : C = tp := Value.ref.inj (beq_iff_eq.mp q)
   have := (X _ _ ho).symm.trans e
   cases this
  next => cases z
 ca := fun {prog w A E Q s} X ⟨o, e, c⟩ q => by
  obtain ⟨h, g, d, t, os⟩ := s
  exact xz8 F.excAttr_ValueError X Z e c q
end
structure yq9 (K : Fg) (C : Addr) : Prop where
 z : wl4 K C
 c : wq9 K C
 s : PySem.W.subIn K (.ref C) (.ref C) = some true
theorem wq9.obj (c : wq9 K C) (X : K.In h) : ∃ o, h.get? C = some o /\ o.cls = .type "type" := by
 have z : (PySem.W.clsIn K C).isSome = true := c.c
 have t := c.t
 unfold PySem.W.clsIn at z
 split at z
 next o1 o2 cd o3 ho =>
  refine ⟨_, X _ _ ho, ?_⟩
  simpa [PySem.W.typeIn, ho] using t
 next => cases z
theorem xz9 {x : Sem Value} {Q : Flow -> Shared -> Prop} (hb : PySem.W.subIn K (.ref C) (.type "BaseException") = some true) (hc : wq9 K C) (hh : A.handled = none) (h : wpAny M A x (fun v s₁ => ∃ e dx t, v = .ref e /\ K.In s₁.heap /\ s₁.heap.get? e = some { cls := .ref C, dict := dx, data := .fields #[t, .none, .none, .none, .bool false, .none] } /\ E (.ref e) s₁) E s) :
 wpAny M A (raiseStmt env (some x) none) Q E s := by
 unfold raiseStmt
 refine wpAny_bind (wpAny_mono h (fun v s₁ h₁ => ?_) fun _ _ x => x)
 obtain ⟨e, dx, t, rfl, X, he, hE⟩ := h₁
 obtain ⟨hp, g, d, tk, os⟩ := s₁
 have L := PySem.W.looks_subIn (M := M) X hb
 obtain ⟨oC, hC, hCc⟩ := hc.obj X
 repeat (first | with_reducible refine wpAny_loadPart_at he ?_ | (with_reducible refine wpAny_loadPart_at hC ?_; rw [hCc]) | with_reducible refine L.at ?_ | wp_step)
 exact wpAny_raiseNew_none hh hE
variable {ab : Bool} {bm bmB sub rest : List Value} {col : Option Bool} {dd : Option Addr} {k0 k1 k2 k3 k5 : Option Value} {newId : String} {q : Str} {sn : List Str} {fI : Addr}
section
variable {g : Array GenState} {t : Nat}
variable {nm : Str} {N : Addr} {bs : List Value} {hdct : Bool} {initId : String}
theorem zh6 (F : ExcBaseFacts B newId initId bmB) (T : OwnTail h bmB bm) (X : K.In h) {Q : Fin -> Shared -> Prop} (hC : h.get? C = some (excClassObj nm q C N bs bm hdct sn sub ab col dd k0 k1 k2 k3 k5 newId)) (hi : PySem.W.findIn K (.ref C) "__init__" = some (some (.ref fI))) (hf : PySem.W.typeIn K (.ref fI) = some (.type "function")) (hq : ∀ h' e, h.objs.size <= e -> Heap.MadeExcOf h h' e (.ref C) rest -> wpAny (model prog w) A (call (.ref fI) (.ref e :: rest)) (fun r s' => r = .none /\ Q (.done (.ret (.ref e))) s') E ⟨h', g, d, t, os⟩) (hz : rest.length <= sizeLine) :
 wpAny (model prog w) A (Builtin.«type.__call__» ⟨.ref C :: rest, []⟩) Q E ⟨h, g, d, t, os⟩ := by
 repeat (first | with_reducible refine wpAny_loadPart_at hC ?_ | with_reducible refine wpAny_madeBy_exc hC ?_ | wp_step)
 refine codeAny_call_builtin_code (Code.quiet_builtin _ F.quiet) (wpAny_check_new_subT F T hC ?_)
 refine codeAny_exc_new_subT F T hC ?_ hz
 show wpAny _ _ _ _ _ _
 have keep : ∀ b o, h.get? b = some o -> ((h.push { cls := .type "tuple", data := .seq rest.toArray }).push { cls := .ref C, data := .fields #[.ref h.objs.size, .none, .none, .none, .bool false, .none] }).get? b = some o := fun b o e => Heap.get?_push_of_some _ (Heap.get?_push_of_some _ e)
 have here : ((h.push { cls := .type "tuple", data := .seq rest.toArray }).push { cls := .ref C, data := .fields #[.ref h.objs.size, .none, .none, .none, .bool false, .none] }).get? (h.objs.size + 1) = some { cls := .ref C, data := .fields #[.ref h.objs.size, .none, .none, .none, .bool false, .none] } := by heap_get
 have own : (Value.ref C :: bm).contains (.ref C) = true := by simp
 have X1 := X.keeps keep
 have hC1 := keep _ _ hC
 unfold isInstance
 repeat (first | with_reducible refine wpAny_loadPart_at here ?_ | (with_reducible refine wpAny_isSubtype_exc hC1 ?_; rw [own]) | wp_step)
 show wpAny _ _ (typeLookup (.ref C) _) _ _ _
 refine (PySem.W.looks_findIn X1 hi).at ?_
 refine wpAny_holding (wpAny_bind ?_)
 unfold bindSpecial
 refine wpAny_bind ((PySem.W.looks_typeIn X1 hf).at ?_)
 rw [if_pos (by decide)]
 refine wpAny_pure (wpAny_bind (wpAny_mono (hq _ (h.objs.size + 1) (Nat.le_succ _) ⟨keep, Heap.get?_none_of_le (Nat.le_succ _), h.objs.size, here, Heap.get?_none_of_le (Nat.le_refl _), ?_⟩) (fun r s' hr => ?_) fun _ _ x => x))
 ·exact Heap.get?_push_of_some _ (Heap.get?_push_at rfl rfl)
 ·obtain ⟨rfl, hQ⟩ := hr
  wp_walk
  exact hQ
theorem zh7 (F : ExcBaseFacts B newId initId bmB) (T : OwnTail h bmB bm) (X : K.In h) (hC : h.get? C = some (excClassObj nm q C N bs bm hdct sn sub ab col dd k0 k1 k2 k3 k5 newId)) (hi : PySem.W.findIn K (.ref C) "__init__" = some (some (.ref fI))) (hf : PySem.W.typeIn K (.ref fI) = some (.type "function")) (hq : ∀ h' e, h.objs.size <= e -> Heap.MadeExcOf h h' e (.ref C) rest -> wpAny (model prog w) (A.under (.builtin "type.__call__" ⟨.ref C :: rest, []⟩)) (call (.ref fI) (.ref e :: rest)) (fun r s' => r = .none /\ Q (.ref e) s') E ⟨h', g, d, t, os⟩) (hz : rest.length <= sizeLine) :
 wpAny (model prog w) A (call (.ref C) rest) Q E ⟨h, g, d, t, os⟩ := by
 have f1 := tc_lookup
 have f2 := tc_bind (.ref C)
 have hT : (⟨h, g, d, t, os⟩ : Shared).TypeIs (.ref C) "type" := ⟨_, hC, rfl⟩
 refine wpAny_call (codeAny_of_tree ?_)
 show wpAny _ _ (callAny (.ref C) _) _ _ _
 repeat (any_goals (first | assumption | with_reducible refine wpAny_loadPart_at hC ?_ | wp_step))
 refine ⟨rfl, ?_⟩
 refine codeAny_call_builtin_at (Code.quiet_builtin _ (by decide +kernel)) entry_typeCall (wpAny_check_type_call_sub hC (zh6 F T X hC hi hf (fun h' e hle hm => ?_) hz))
 exact hq h' e hle hm
theorem zh8 (F : ExcBaseFacts B newId initId bmB) (T : OwnTail h bmB bm) {e t0 : Addr} {dx : Option Addr} {v : Value} (hC : h.get? C = some (excClassObj nm q C N bs bm hdct sn sub ab col dd k0 k1 k2 k3 k5 newId)) (he : h.get? e = some { cls := .ref C, dict := dx, data := .fields #[.ref t0, .none, .none, .none, .bool false, .none] }) (hq : ∀ h' a, (∀ b o, b ≠ e -> h.get? b = some o -> h'.get? b = some o) -> h'.get? e = some { cls := .ref C, dict := dx, data := .fields #[.ref a, .none, .none, .none, .bool false, .none] } -> Q .none ⟨h', g, d, t, os⟩) :
 wpAny (model prog w) A (call (.builtin initId) [.ref e, v]) Q E ⟨h, g, d, t, os⟩ := by
 refine wpAny_call (codeAny_call_builtin F.init.plain F.initEntry (wpAny_check_init_subT F T hC he rfl ?_))
 wp_walk
 refine hq _ h.objs.size (fun b o nb hb => ?_) ?_
 ·rw [Heap.get?_update_other _ _ (Ne.symm nb)]
  exact Heap.get?_push_of_some _ hb
 ·rw [Heap.get?_update_self _ (Heap.get?_push_of_some _ he) rfl]
  rfl
end
variable {ns : List Str}
section
open Builtin Builtin.ObjectAttr
variable {g : Array GenState} {t : Nat}
variable {nm : Str} {N x : Addr} {bs : List Value} {y : Str} {v : Value}
theorem xg9 {tl : List Value} (self : Value) (what : Str) (T : OwnTail h bmB tl) : refuseLoop self what tl = refuseLoop self what bmB := by
 induction T with
 | base => rfl
 | own _ _ _ _ ih => rw [refuseLoop_ref]; exact ih
theorem xo6 {Q : Fin -> Shared -> Prop} (SF : StoreFacts "ValueError" bmV "object.__setattr__" "object") (T : OwnTail h bmV bm) (X : K.In h) (hC : h.get? C = some (excClassObj nm q C N bs bm true sn sub ab col dd k0 k1 k2 k3 k5 newId)) (hy : PySem.W.findIn K (.ref C) y = some none) (I : h.Inst x C mA) (hq : ∀ h' tk', h'.Inst x C (fun z => if z = y then some v else mA z) ->
  (∀ b o, b ≠ x -> (∀ o0 dx, h.get? x = some o0 -> o0.dict = some dx -> b ≠ dx) -> h.get? b = some o -> h'.get? b = some o) ->
  (∀ o0, h.get? x = some o0 -> ∃ o1, h'.get? x = some o1 /\ o1.cls = o0.cls /\ o1.data = o0.data /\ o1.slots = o0.slots /\ (∀ dx, o0.dict = some dx -> o1.dict = some dx) /\ (o0.dict = none -> o1.dict = some h.objs.size)) -> t <= tk' -> Q (.done (.ret .none)) ⟨h', g, d, tk', os⟩) (hw : Within mA ns) (hz : ns.length <= 1000) : wpAny (model prog w) A (Builtin.«object.__setattr__» ⟨[.ref x, .str y tk, v], []⟩) Q E ⟨h, g, d, t, os⟩ := by
 obtain ⟨o, ex, ec, enc, ed⟩ := I
 have hp : refuseLoop (.ref x) "__setattr__" bm = pure () := (xg9 _ _ T).trans (SF.passes (.ref x))
 have L := PySem.W.looks_findIn (M := model prog w) X hy
 unfold Builtin.«object.__setattr__»
 repeat (first | rw [refuse_eq] | (rw [refuseLoop_ref, hp]) | (with_reducible refine wpAny_loadPart_at ex ?_; rw [ec]) | with_reducible refine wpAny_mroOf_exc hC ?_ | with_reducible refine L.at ?_ | wp_step)
 rcases ed with ⟨dn, mn⟩ | ⟨dx, de, nx, hns⟩
 ·rw [dn, if_neg (by simp [typeHasDict])]
  split
  ·rename_i z; cases z
  split
  ·rename_i c z; exact absurd z (enc c)
  ·have ex1 : (h.push { cls := .type "dict", data := .dict #[] }).get? x = some o := Heap.get?_push_of_some _ ex
   have nxs : x ≠ h.objs.size := Nat.ne_of_lt (Heap.lt_size ex)
   refine wpAny_bind (wpAny_alloc' (wpAny_bind (wpAny_update' ex1 (wpAny_pure ?_))))
   have e2 : ((h.push { cls := .type "dict", data := .dict #[] }).update x fun o => { cls := o.cls, dict := some h.objs.size, data := o.data, slots := o.slots }).get? h.objs.size = some { cls := .type "dict", data := .dict #[] } := (Heap.get?_update_ne _ _ _ _ nxs.symm).trans (Heap.get?_push_at rfl rfl)
   have e3 : ((h.push { cls := .type "dict", data := .dict #[] }).update x fun o => { cls := o.cls, dict := some h.objs.size, data := o.data, slots := o.slots }).Ns h.objs.size (fun _ => none) := ⟨_, #[], _, e2, rfl, fun e he => absurd he (by simp), fun _ => rfl⟩
   show wpAny _ _ (storeInDict h.objs.size (.str y tk) y v) _ _ _
   unfold storeInDict newKeyGuard
   refine wpAny_bind (wpAny_pure (wpAny_bind (wpAny_nsSet1 (Heap.Ns1.of_empty e3) fun h' en es => ?_)))
   obtain ⟨oD, eD, pD, f1, f2, f3⟩ := en.count (Within.cons y v Within.nil)
   refine wpAny_bind (wpAny_lookBehind f1 (by rw [f2]; exact pastItsLine_dict (Nat.le_trans f3 (by rw [List.length_cons, List.length_nil, sizeLine_eq]; omega))) ?_)
   wp_walk
   have ex' : h'.get? x = some { cls := o.cls, dict := some h.objs.size, data := o.data, slots := o.slots } := by
    refine (es.2 x nxs).trans (Heap.get?_update_self _ ex1 ?_)
    have fr := (Heap.get?_some_iff.mp ex).2
    obtain ⟨oc, od, odt, osl⟩ := o
    cases odt <;> first | rfl | exact fr
   refine hq h' _ ⟨_, ex', ec, enc, .inr ⟨h.objs.size, rfl, nxs.symm, ?_⟩⟩ (fun b ob nb _ eb => ?_) (fun o0 e0 => ?_) (Nat.le_succ _)
   ·obtain ⟨o', l, p, a1, a2, a3, a4, a5⟩ := en
    exact ⟨o', l, p, a1, a2, a3, a4, fun z => by rw [a5 z]; by_cases hz : z = y <;> simp [hz, mn]⟩
   ·exact (es.2 b (Nat.ne_of_lt (Heap.lt_size eb))).trans ((Heap.get?_update_ne _ _ _ _ nb).trans (Heap.get?_push_of_some _ eb))
   ·rw [ex] at e0; cases e0
    exact ⟨_, ex', rfl, rfl, rfl, fun dx e => (by rw [dn] at e; cases e), fun _ => rfl⟩
 ·rw [de]
  refine wpAny_pure ?_
  show wpAny _ _ (storeInDict dx (.str y tk) y v) _ _ _
  unfold storeInDict newKeyGuard
  refine wpAny_bind (wpAny_pure (wpAny_bind (wpAny_nsSet1 hns fun h' en es => ?_)))
  obtain ⟨oD, eD, pD, f1, f2, f3⟩ := en.count (Within.cons y v hw)
  refine wpAny_bind (wpAny_lookBehind f1 (by rw [f2]; exact pastItsLine_dict (Nat.le_trans f3 (by rw [List.length_cons, sizeLine_eq]; omega))) ?_)
  wp_walk
  refine hq h' _ ⟨o, (es.2 x nx.symm).trans ex, ec, enc, .inr ⟨dx, de, nx, en⟩⟩ (fun b ob _ nb eb => (es.2 b (nb o dx ex de)).trans eb) (fun o0 e0 => ⟨o0, (es.2 x nx.symm).trans e0, rfl, rfl, rfl, fun _ e => e, fun z => by rw [ex] at e0; cases e0; rw [de] at z; cases z⟩) (Nat.le_succ _)
theorem xo7 {Q : Unit -> Shared -> Prop} (SF : StoreFacts "ValueError" bmV "object.__setattr__" "object") (T : OwnTail h bmV bm) (hC : h.get? C = some (excClassObj nm q C N bs bm true sn sub ab col dd k0 k1 k2 k3 k5 newId)) (ex : h.get? x = some o) (ec : o.cls = .ref C) (hq : Q () ⟨h, g, d, t, os⟩) :
 wpAny M A (checkBuiltinCall "object.__setattr__" ⟨[.ref x, nameV, v], []⟩) Q E ⟨h, g, d, t, os⟩ := by
 have cb : (Value.ref C :: bm).contains (.type "object") = true := by rw [List.contains_cons, T.hasType SF.hasOwner, Bool.or_true]
 have ha := SF.args (.ref x) nameV v
 simp only [checkBuiltinCall, SF.kind, SF.split]
 refine wpAny_bind ?_
 ·unfold isInstance
  repeat (first | (with_reducible refine wpAny_loadPart_at ex ?_; rw [ec]) | (with_reducible refine wpAny_isSubtype_exc hC ?_; rw [cb]) | wp_step)
  exact hq
theorem zk2 {Q : Unit -> Shared -> Prop} (SF : StoreFacts "ValueError" bmV "object.__setattr__" "object") (T : OwnTail h bmV bm) (X : K.In h) (hC : h.get? C = some (excClassObj nm q C N bs bm true sn sub ab col dd k0 k1 k2 k3 k5 newId)) (hsa : PySem.W.findIn K (.ref C) "__setattr__" = some (some (.builtin "object.__setattr__"))) (hy : PySem.W.findIn K (.ref C) y = some none) (I : h.Inst x C mA) (hq : ∀ h' tk', h'.Inst x C (fun z => if z = y then some v else mA z) ->
  (∀ b o, b ≠ x -> (∀ o0 dx, h.get? x = some o0 -> o0.dict = some dx -> b ≠ dx) -> h.get? b = some o -> h'.get? b = some o) ->
  (∀ o0, h.get? x = some o0 -> ∃ o1, h'.get? x = some o1 /\ o1.cls = o0.cls /\ o1.data = o0.data /\ o1.slots = o0.slots /\ (∀ dx, o0.dict = some dx -> o1.dict = some dx) /\ (o0.dict = none -> o1.dict = some h.objs.size)) -> t <= tk' -> Q () ⟨h', g, d, tk', os⟩) (hw : Within mA ns) (hz : ns.length <= 1000) : wpAny (model prog w) A (setAttr (.ref x) y v) Q E ⟨h, g, d, t, os⟩ := by
 obtain ⟨o, ex, ec, _⟩ := id I
 have f3 := SF.slot.bind (.ref x)
 have L := PySem.W.looks_findIn (M := model prog w) X hsa
 unfold setAttr callSpecial? specialOf
 repeat (any_goals (first | assumption | (with_reducible refine wpAny_loadPart_at ex ?_; rw [ec]) | with_reducible refine L.at ?_ | wp_step))
 refine codeAny_call_builtin SF.slot.plain SF.entry (xo7 SF T hC ex ec (xo6 SF T X hC hy I (fun h' tk' I' a b c => ?_) hw hz))
 repeat (any_goals (first | assumption | wp_step))
 exact hq h' tk' I' a b (by omega)
end
theorem wl6 : ∀ (xs : List V) (us : List Value), xs.length = us.length -> (∀ (j : Nat) (u : Value), us[j]? = some u -> ∃ x, xs[j]? = some x /\ G2 x u) -> G3 xs us
 | [], [], _, _ => .nil
 | [], _ :: _, h, _ => by cases h
 | _ :: _, [], h, _ => by cases h
 | x :: xs, u :: us, h, g => by
   obtain ⟨y, e, r⟩ := g 0 u rfl
   cases e
   exact .cons r (wl6 xs us (by simpa using h) fun j v e => by simpa using g (j + 1) v (by simpa using e))
structure qa0 (h : Heap) (z TI TO i1 i2 l1 l2 : Addr) (f0 a b : Value) (k1 k2 : Nat) (xs ys : Array Value) : Prop where
 z : IsZip h z TI TO f0
 TI : IsPair h TI (.ref i1) (.ref i2)
 TO : IsPair h TO a b
 i1 : h.IsTupleIter i1 l1 k1
 i2 : h.IsTupleIter i2 l2 k2
 l1 : h.IsTuple l1 xs
 l2 : h.IsTuple l2 ys
variable {i1 i2 l1 l2 : Addr}
section
variable {z TI TO : Addr} {k1 k2 : Nat} {xs ys : Array Value} {x y a b f0 f1 : Value}
theorem qa0.setZ (hA : ZipApart z TI TO i1 i2 l1 l2) (Z : qa0 h z TI TO i1 i2 l1 l2 f0 a b k1 k2 xs ys) {j : Nat} {v : Value} (e : #[f0, Value.bool false, Value.bool false, Value.ref TI, Value.ref TO].setIfInBounds j v = #[f1, Value.bool false, Value.bool false, Value.ref TI, Value.ref TO]) : qa0 (h.update z (Obj.mapFields fun x => x.setIfInBounds j v)) z TI TO i1 i2 l1 l2 f1 a b k1 k2 xs ys := by
 have sz := (Heap.SameBut.update h z (Obj.mapFields fun x => x.setIfInBounds j v)).2
 refine ⟨?_, (sz _ hA.TIz).trans Z.TI, (sz _ hA.TOz).trans Z.TO, Z.i1.at fun o e => (sz _ hA.i1z).trans e, Z.i2.at fun o e => (sz _ hA.i2z).trans e, Z.l1.at fun o e => (sz _ hA.l1z).trans e, Z.l2.at fun o e => (sz _ hA.l2z).trans e⟩
 have e0 : Obj.mapFields (fun x => x.setIfInBounds j v) { cls := Value.type "zip", data := Data.fields #[f0, Value.bool false, Value.bool false, Value.ref TI, Value.ref TO] } = { cls := Value.type "zip", data := Data.fields #[f1, Value.bool false, Value.bool false, Value.ref TI, Value.ref TO] } := by
  unfold Obj.mapFields
  simp only [e]
 have := Heap.get?_update_self (Obj.mapFields fun x => x.setIfInBounds j v) Z.z (by rw [e0]; rfl)
 rw [e0] at this
 exact this
theorem qa0.keep (Z : qa0 h z TI TO i1 i2 l1 l2 f0 a b k1 k2 xs ys) (k : ∀ c o, h.get? c = some o -> h'.get? c = some o) : qa0 h' z TI TO i1 i2 l1 l2 f0 a b k1 k2 xs ys :=
 ⟨k _ _ Z.z, k _ _ Z.TI, k _ _ Z.TO, Z.i1.at (k _), Z.i2.at (k _), Z.l1.at (k _), Z.l2.at (k _)⟩
theorem qa0.fst (hA : ZipApart z TI TO i1 i2 l1 l2) (Z : qa0 h z TI TO i1 i2 l1 l2 f0 a b k1 k2 xs ys) (g : h'.IsTupleIter i1 l1 (k1 + 1)) (sb : Heap.SameBut i1 h h') : qa0 h' z TI TO i1 i2 l1 l2 f0 a b (k1 + 1) k2 xs ys :=
 ⟨(sb.2 _ (Ne.symm hA.i1z)).trans Z.z, (sb.2 _ hA.TIi1).trans Z.TI, (sb.2 _ hA.TOi1).trans Z.TO, g, Z.i2.at fun o e => (sb.2 _ (Ne.symm hA.i12)).trans e, Z.l1.at fun o e => (sb.2 _ hA.l1i1).trans e, Z.l2.at fun o e => (sb.2 _ hA.l2i1).trans e⟩
theorem qa0.snd (hA : ZipApart z TI TO i1 i2 l1 l2) (Z : qa0 h z TI TO i1 i2 l1 l2 f0 a b k1 k2 xs ys) (g : h'.IsTupleIter i2 l2 (k2 + 1)) (sb : Heap.SameBut i2 h h') : qa0 h' z TI TO i1 i2 l1 l2 f0 a b k1 (k2 + 1) xs ys :=
 ⟨(sb.2 _ (Ne.symm hA.i2z)).trans Z.z, (sb.2 _ hA.TIi2).trans Z.TI, (sb.2 _ hA.TOi2).trans Z.TO, Z.i1.at fun o e => (sb.2 _ hA.i12).trans e, g, Z.l1.at fun o e => (sb.2 _ hA.l1i2).trans e, Z.l2.at fun o e => (sb.2 _ hA.l2i2).trans e⟩
theorem qa0.setO (hA : ZipApart z TI TO i1 i2 l1 l2) (Z : qa0 h z TI TO i1 i2 l1 l2 f0 a b k1 k2 xs ys) {a' b' : Value} {j : Nat} {v : Value} (e : #[a, b].setIfInBounds j v = #[a', b']) : qa0 (h.update TO (Obj.mapSeq fun x => x.setIfInBounds j v)) z TI TO i1 i2 l1 l2 f0 a' b' k1 k2 xs ys := by
 have sz := (Heap.SameBut.update h TO (Obj.mapSeq fun x => x.setIfInBounds j v)).2
 refine ⟨(sz _ (Ne.symm hA.TOz)).trans Z.z, (sz _ hA.TITO).trans Z.TI, ?_, Z.i1.at fun o e => (sz _ (Ne.symm hA.TOi1)).trans e, Z.i2.at fun o e => (sz _ (Ne.symm hA.TOi2)).trans e, Z.l1.at fun o e => (sz _ hA.l1TO).trans e, Z.l2.at fun o e => (sz _ hA.l2TO).trans e⟩
 have e0 : Obj.mapSeq (fun x => x.setIfInBounds j v) { cls := Value.type "tuple", data := Data.seq #[a, b] } = { cls := Value.type "tuple", data := Data.seq #[a', b'] } := by
  unfold Obj.mapSeq
  simp only [e]
  rfl
 have := Heap.get?_update_self (Obj.mapSeq fun x => x.setIfInBounds j v) Z.TO (by rw [e0]; rfl)
 rw [e0] at this
 exact this
theorem yh5 {f : Value -> Sem Unit} {i : Nat} {items} {x : Value} {Q : Option Value -> Shared -> Prop} (hit : s.heap.IsTupleIter it l i) (hl : s.heap.IsTuple l items) (hx : items[i]? = some x) (hQ : ∀ h', h'.IsTupleIter it l (i + 1) -> Heap.SameBut it s.heap h' -> Q (some x) { s with heap := h' }) :
 wpAny (model prog w) A ((Builtin.SmallTypes.nextOf (.ref it) >>= fun v => pure (some v)).onRaise f) Q E s :=
 wpAny_onRaise (wpAny_bind (qe4 hit hl hx fun h' a b => wpAny_pure (hQ h' a b)))
theorem wv9 {f : Value -> Sem Unit} {i : Nat} {items} {Q : Option Value -> Shared -> Prop} (hh : A.handled = none) (hit : s.heap.IsTupleIter it l i) (hl : s.heap.IsTuple l items) (hx : items[i]? = none) (hE : ∀ h' e, Heap.ExtBut it s.heap h' -> (∃ o, h'.get? e = some o /\ o.cls = .type "StopIteration") -> wpAny (model prog w) A (f (.ref e)) (fun _ s' => E (.ref e) s') E { s with heap := h' }) :
 wpAny (model prog w) A ((Builtin.SmallTypes.nextOf (.ref it) >>= fun v => pure (some v)).onRaise f) Q E s :=
 wpAny_onRaise (wpAny_bind (X8 hh hit hl hx hE))
theorem ya0 (hA : ZipApart z TI TO i1 i2 l1 l2) (Z : qa0 s.heap z TI TO i1 i2 l1 l2 .none a b k1 k2 xs ys) (e1 : xs[k1]? = some x) (e2 : ys[k2]? = some y) (h : ∀ h', qa0 h' z TI TO i1 i2 l1 l2 (rawInt s.heap.objs.size) x y (k1 + 1) (k2 + 1) xs ys -> IsPair h' s.heap.objs.size x y -> h'.objs.size = s.heap.objs.size + 1 ->
  (∀ c o, c ≠ z -> c ≠ TO -> c ≠ i1 -> c ≠ i2 -> s.heap.get? c = some o -> h'.get? c = some o) -> Q (.ref s.heap.objs.size) { s with heap := h' }) :
 wpAny (model prog w) A (Builtin.«zip.__next__» { pos := [.ref z] }) (fun fin s' => ∃ v, fin = Fin.done (Flow.ret v) /\ Q v s') E s := by
 obtain ⟨hp, g, d, tk, os⟩ := s
 unfold Builtin.«zip.__next__»
 refine wpAny_bind (wpAny_of_eq (a := (Value.ref z, [])) rfl ?_)
 show wpAny _ _ (field (.ref z) 2 >>= _) _ _ _
 refine wpAny_bind (wpAny_field Z.z rfl (x := .bool false) rfl ?_)
 show wpAny _ _ (field (.ref z) 3 >>= _) _ _ _
 refine wpAny_bind (wpAny_field Z.z rfl (x := .ref TI) rfl ?_)
 show wpAny _ _ (seqItems? (.ref TI) >>= _) _ _ _
 refine wpAny_bind (wpAny_seqItems Z.TI rfl ?_)
 show wpAny _ _ (Builtin.SmallTypes.ownedTupleIsFree (.ref z) >>= _) _ _ _
 refine wpAny_bind ?_
 show wpAny _ _ (field (.ref z) 0 >>= _) _ _ _
 refine wpAny_bind (wpAny_field Z.z rfl (x := .none) rfl ?_)
 refine wpAny_pure ?_
 show wpAny _ _ (rule "zip.__next__.owned-tuple-again" >>= _) _ _ _
 refine wpAny_bind (wpAny_rule ?_)
 show wpAny _ _ (field (.ref z) 4 >>= _) _ _ _
 refine wpAny_bind (wpAny_field Z.z rfl (x := .ref TO) rfl ?_)
 show wpAny _ _ (setField (.ref z) 0 .ellipsis >>= _) _ _ _
 refine wpAny_bind (wpAny_setField Z.z rfl (by simp) ?_)
 replace Z : qa0 hp z TI TO i1 i2 l1 l2 .none a b k1 k2 xs ys := Z
 have Z1 := Z.setZ hA (f1 := .ellipsis) (j := 0) (v := .ellipsis) rfl
 have kz := (Heap.SameBut.update hp z (Obj.mapFields fun x => x.setIfInBounds 0 .ellipsis))
 generalize hp.update z (Obj.mapFields fun x => x.setIfInBounds 0 .ellipsis) = H1 at *
 refine wpAny_bind ?_
 show wpAny _ _ (forIn [(Value.ref i1, 0), (Value.ref i2, 1)] _ _) _ _ _
 rw [List.forIn_cons]
 refine wpAny_bind ?_
 refine wpAny_bind (yh5 (s := ⟨H1, _, _, _, _⟩) Z1.i1 Z1.l1 e1 fun H2 g2 sb2 => ?_)
 have Z2 := Z1.fst hA g2 sb2
 refine wpAny_bind (wpAny_seqItems (s := ⟨H2, _, _, _, _⟩) Z2.TO rfl ?_)
 refine wpAny_bind (wpAny_updateSeq (s := ⟨H2, _, _, _, _⟩) Z2.TO rfl ?_ (by rw [sizeLine_eq]; simp) (by rw [sizeLine_eq]; simp))
 have Z3 := Z2.setO hA (j := 0) (v := x) (a' := x) (b' := b) rfl
 have k3 := (Heap.SameBut.update H2 TO (Obj.mapSeq fun x_1 => x_1.setIfInBounds 0 x))
 generalize H2.update TO (Obj.mapSeq fun x_1 => x_1.setIfInBounds 0 x) = H3 at *
 refine wpAny_bind (wpAny_letGo (wpAny_pure ?_))
 show wpAny _ _ (forIn [(Value.ref i2, 1)] _ _) _ _ _
 rw [List.forIn_cons]
 refine wpAny_bind ?_
 refine wpAny_bind (yh5 (s := ⟨H3, _, _, _, _⟩) Z3.i2 Z3.l2 e2 fun H4 g4 sb4 => ?_)
 have Z4 := Z3.snd hA g4 sb4
 refine wpAny_bind (wpAny_seqItems (s := ⟨H4, _, _, _, _⟩) Z4.TO rfl ?_)
 refine wpAny_bind (wpAny_updateSeq (s := ⟨H4, _, _, _, _⟩) Z4.TO rfl ?_ (by rw [sizeLine_eq]; simp) (by rw [sizeLine_eq]; simp))
 have Z5 := Z4.setO hA (j := 1) (v := y) (a' := x) (b' := y) rfl
 have k5 := (Heap.SameBut.update H4 TO (Obj.mapSeq fun x_1 => x_1.setIfInBounds 1 y))
 generalize H4.update TO (Obj.mapSeq fun x_1 => x_1.setIfInBounds 1 y) = H5 at *
 refine wpAny_bind (wpAny_letGo (wpAny_pure ?_))
 show wpAny _ _ (forIn [] _ _) _ _ _
 rw [List.forIn_nil]
 refine wpAny_pure ?_
 refine wpAny_bind (wpAny_seqItems (s := ⟨H5, _, _, _, _⟩) Z5.TO rfl ?_)
 refine wpAny_bind (wpAny_newTuple ?_ (by rw [sizeLine_eq]; simp))
 have hsz : H5.objs.size = hp.objs.size := by rw [k5.1, sb4.1]; show H3.objs.size = _; rw [k3.1, sb2.1]; exact kz.1
 have Z6 := Z5.keep (h' := H5.push { cls := Value.type "tuple", data := Data.seq #[x, y] }) fun c o e => Heap.get?_push_of_some _ e
 have hn : IsPair (H5.push { cls := Value.type "tuple", data := Data.seq #[x, y] }) hp.objs.size x y := by rw [<- hsz]; exact Heap.get?_push_size _ rfl
 have hs6 : (H5.push { cls := Value.type "tuple", data := Data.seq #[x, y] }).objs.size = hp.objs.size + 1 := by rw [Heap.size_push, hsz]
 have k6 : ∀ c o, c ≠ z -> c ≠ TO -> c ≠ i1 -> c ≠ i2 -> hp.get? c = some o -> (H5.push { cls := Value.type "tuple", data := Data.seq #[x, y] }).get? c = some o := fun c o n1 n2 n3 n4 e =>
  Heap.get?_push_of_some _ ((k5.2 c n2).trans ((sb4.2 c n4).trans ((k3.2 c n2).trans ((sb2.2 c n3).trans ((kz.2 c n1).trans e)))))
 show wpAny _ _ (Builtin.SmallTypes.ownedTupleHandOut (.ref z) (.ref H5.objs.size) >>= _) _ _ _
 rw [hsz]
 show wpAny _ _ (_ >>= _) _ _ ⟨H5.push { cls := Value.type "tuple", data := Data.seq #[x, y] }, _, _, _, _⟩
 generalize H5.push { cls := Value.type "tuple", data := Data.seq #[x, y] } = H6 at *
 have nz : hp.objs.size ≠ z := fun e => absurd (Heap.lt_size Z.z) (by rw [e]; exact Nat.lt_irrefl _)
 refine wpAny_bind ?_
 show wpAny _ _ (setField (.ref z) 0 (rawInt hp.objs.size) >>= _) _ _ _
 refine wpAny_bind (wpAny_setField Z6.z rfl (by simp) ?_)
 have Z7 := Z6.setZ hA (f1 := rawInt hp.objs.size) (j := 0) (v := rawInt hp.objs.size) rfl
 have k7 := Heap.SameBut.update H6 z (Obj.mapFields fun x => x.setIfInBounds 0 (rawInt hp.objs.size))
 show wpAny _ _ _ _ _ ⟨H6.update z (Obj.mapFields fun x => x.setIfInBounds 0 (rawInt hp.objs.size)), _, _, _, _⟩
 generalize H6.update z (Obj.mapFields fun x => x.setIfInBounds 0 (rawInt hp.objs.size)) = H7 at *
 show wpAny _ _ (setField (.ref z) 1 (.bool false)) _ _ _
 refine wpAny_setField Z7.z rfl (by simp) ?_
 have Z8 := Z7.setZ hA (f1 := rawInt hp.objs.size) (j := 1) (v := .bool false) rfl
 have k8 := Heap.SameBut.update H7 z (Obj.mapFields fun x => x.setIfInBounds 1 (.bool false))
 refine wpAny_pure ⟨_, rfl, h _ Z8 ((k8.2 _ nz).trans ((k7.2 _ nz).trans hn)) (by rw [k8.1, k7.1]; exact hs6) fun c o n1 n2 n3 n4 e => (k8.2 _ n1).trans ((k7.2 _ n1).trans (k6 c o n1 n2 n3 n4 e))⟩
theorem yh6 {Q : PySem.Fin -> Shared -> Prop} (hh : A.handled = none) (hA : ZipApart z TI TO i1 i2 l1 l2) (Z : qa0 s.heap z TI TO i1 i2 l1 l2 .none a b k1 k2 xs ys) (e : xs[k1]? = none \/ ys[k2]? = none) (h : ∀ h' e, (∀ c o, c ≠ z -> c ≠ TO -> c ≠ i1 -> c ≠ i2 -> s.heap.get? c = some o -> h'.get? c = some o) -> (∃ o, h'.get? e = some o /\ o.cls = .type "StopIteration") -> E (.ref e) { s with heap := h' }) :
 wpAny (model prog w) A (Builtin.«zip.__next__» { pos := [.ref z] }) Q E s := by
 obtain ⟨hp, g, d, tk, os⟩ := s
 unfold Builtin.«zip.__next__»
 refine wpAny_bind (wpAny_of_eq (a := (Value.ref z, [])) rfl ?_)
 show wpAny _ _ (field (.ref z) 2 >>= _) _ _ _
 refine wpAny_bind (wpAny_field Z.z rfl (x := .bool false) rfl ?_)
 show wpAny _ _ (field (.ref z) 3 >>= _) _ _ _
 refine wpAny_bind (wpAny_field Z.z rfl (x := .ref TI) rfl ?_)
 show wpAny _ _ (seqItems? (.ref TI) >>= _) _ _ _
 refine wpAny_bind (wpAny_seqItems Z.TI rfl ?_)
 show wpAny _ _ (Builtin.SmallTypes.ownedTupleIsFree (.ref z) >>= _) _ _ _
 refine wpAny_bind ?_
 show wpAny _ _ (field (.ref z) 0 >>= _) _ _ _
 refine wpAny_bind (wpAny_field Z.z rfl (x := .none) rfl ?_)
 refine wpAny_pure ?_
 show wpAny _ _ (rule "zip.__next__.owned-tuple-again" >>= _) _ _ _
 refine wpAny_bind (wpAny_rule ?_)
 show wpAny _ _ (field (.ref z) 4 >>= _) _ _ _
 refine wpAny_bind (wpAny_field Z.z rfl (x := .ref TO) rfl ?_)
 show wpAny _ _ (setField (.ref z) 0 .ellipsis >>= _) _ _ _
 refine wpAny_bind (wpAny_setField Z.z rfl (by simp) ?_)
 replace Z : qa0 hp z TI TO i1 i2 l1 l2 .none a b k1 k2 xs ys := Z
 have Z1 := Z.setZ hA (f1 := .ellipsis) (j := 0) (v := .ellipsis) rfl
 have kz := (Heap.SameBut.update hp z (Obj.mapFields fun x => x.setIfInBounds 0 .ellipsis))
 generalize hp.update z (Obj.mapFields fun x => x.setIfInBounds 0 .ellipsis) = H1 at *
 refine wpAny_bind ?_
 show wpAny _ _ (forIn [(Value.ref i1, 0), (Value.ref i2, 1)] _ _) _ _ _
 rw [List.forIn_cons]
 refine wpAny_bind ?_
 have hdl : ∀ (h' : Heap) (e : Addr) (Hb : Heap), Hb.get? z = some { cls := Value.type "zip", data := Data.fields #[Value.ellipsis, Value.bool false, Value.bool false, Value.ref TI, Value.ref TO] } -> (∀ c o, c ≠ i1 -> c ≠ i2 -> Hb.get? c = some o -> h'.get? c = some o) -> (∀ c o, c ≠ z -> c ≠ TO -> c ≠ i1 -> c ≠ i2 -> hp.get? c = some o -> Hb.get? c = some o) -> (∃ o, h'.get? e = some o /\ o.cls = .type "StopIteration") ->
  wpAny (model prog w) A (setField (.ref z) 0 .none) (fun _ s' => E (.ref e) s') E ⟨h', g, d, tk, os⟩ := by
  intro h' e Hb hb kb kp ⟨o, ho, hc⟩
  have hz := kb z _ (Ne.symm hA.i1z) (Ne.symm hA.i2z) hb
  have ne : e ≠ z := fun c => by rw [c, hz] at ho; cases ho; exact absurd hc (show ¬ (Value.type "zip" = Value.type "StopIteration") by decide)
  refine wpAny_setField hz rfl (by simp) ?_
  have k8 := Heap.SameBut.update h' z (Obj.mapFields fun x => x.setIfInBounds 0 .none)
  exact h _ e (fun c o n1 n2 n3 n4 q => (k8.2 _ n1).trans (kb c o n3 n4 (kp c o n1 n2 n3 n4 q))) ⟨o, (k8.2 _ ne).trans ho, hc⟩
 cases q : xs[k1]? with
 | none =>
   exact wpAny_bind (wv9 (s := ⟨H1, _, _, _, _⟩) hh Z1.i1 Z1.l1 q fun h' e k hs => hdl h' e H1 Z1.z (fun c o n1 _ y => k c o n1 y) (fun c o n1 _ _ _ y => (kz.2 c n1).trans y) hs)
 | some x =>
   have q2 : ys[k2]? = none := by rcases e with e | e; · rw [q] at e; cases e
                                  ·exact e
   refine wpAny_bind (yh5 (s := ⟨H1, _, _, _, _⟩) Z1.i1 Z1.l1 q fun H2 g2 sb2 => ?_)
   have Z2 := Z1.fst hA g2 sb2
   refine wpAny_bind (wpAny_seqItems (s := ⟨H2, _, _, _, _⟩) Z2.TO rfl ?_)
   refine wpAny_bind (wpAny_updateSeq (s := ⟨H2, _, _, _, _⟩) Z2.TO rfl ?_ (by rw [sizeLine_eq]; simp) (by rw [sizeLine_eq]; simp))
   have Z3 := Z2.setO hA (j := 0) (v := x) (a' := x) (b' := b) rfl
   have k3 := (Heap.SameBut.update H2 TO (Obj.mapSeq fun x_1 => x_1.setIfInBounds 0 x))
   generalize H2.update TO (Obj.mapSeq fun x_1 => x_1.setIfInBounds 0 x) = H3 at *
   refine wpAny_bind (wpAny_letGo (wpAny_pure ?_))
   show wpAny _ _ (forIn [(Value.ref i2, 1)] _ _) _ _ _
   rw [List.forIn_cons]
   refine wpAny_bind ?_
   exact wpAny_bind (wv9 (s := ⟨H3, _, _, _, _⟩) hh Z3.i2 Z3.l2 q2 fun h' e k hs => hdl h' e H3 Z3.z (fun c o _ n2 y => k c o n2 y) (fun c o n1 n2 n3 _ y => (k3.2 c n2).trans ((sb2.2 c n3).trans ((kz.2 c n1).trans y))) hs)
theorem wa3 {Q : Option Value -> Shared -> Prop} (hA : ZipApart z TI TO i1 i2 l1 l2) (Z : qa0 s.heap z TI TO i1 i2 l1 l2 .none a b k1 k2 xs ys) (e1 : xs[k1]? = some x) (e2 : ys[k2]? = some y) (h : ∀ h', qa0 h' z TI TO i1 i2 l1 l2 (rawInt s.heap.objs.size) x y (k1 + 1) (k2 + 1) xs ys -> IsPair h' s.heap.objs.size x y -> h'.objs.size = s.heap.objs.size + 1 ->
  (∀ c o, c ≠ z -> c ≠ TO -> c ≠ i1 -> c ≠ i2 -> s.heap.get? c = some o -> h'.get? c = some o) -> Q (some (.ref s.heap.objs.size)) { s with heap := h' }) :
 wpAny (model prog w) A (pyNext (.ref z)) Q E s := by
 have ty : s.TypeIs (.ref z) "zip" := ⟨_, Z.z, rfl⟩
 unfold pyNext
 refine wpAny_bind (wpAny_attempt (wpAny_callSpecial?_slot (name := Str.ofString "__next__") ty F.slot_zip_next
  (wpAny_call_entry F.slot_zip_next ty F.entry_zip_next ?_ (F.args_zip_next_1 _))))
 exact ya0 hA Z e1 e2 fun h' a b c d => wpAny_pure (h h' a b c d)
theorem wf2 {Q : Option Value -> Shared -> Prop} (hh : A.handled = none) (hA : ZipApart z TI TO i1 i2 l1 l2) (Z : qa0 s.heap z TI TO i1 i2 l1 l2 .none a b k1 k2 xs ys) (e : xs[k1]? = none \/ ys[k2]? = none) (h : ∀ h', (∀ c o, c ≠ z -> c ≠ TO -> c ≠ i1 -> c ≠ i2 -> s.heap.get? c = some o -> h'.get? c = some o) -> Q none { s with heap := h' }) :
 wpAny (model prog w) A (pyNext (.ref z)) Q E s := by
 have ty : s.TypeIs (.ref z) "zip" := ⟨_, Z.z, rfl⟩
 unfold pyNext
 refine wpAny_bind (wpAny_attempt (wpAny_callSpecial?_slot (name := Str.ofString "__next__") ty F.slot_zip_next
  (wpAny_call_entry F.slot_zip_next ty F.entry_zip_next ?_ (F.args_zip_next_1 _))))
 refine yh6 hh hA Z e fun h' ex kk zq => ?_
 obtain ⟨o, ho, hc⟩ := zq
 refine wpAny_bind (wpAny_isInstance (T := "StopIteration") (b := true) ⟨_, ho, hc⟩ isSubtype_stop ?_)
 exact wpAny_pure (h h' kk)
end
theorem yr0 : isSubtype (.type "zip") (.type "zip") = pure true := by rw [isSubtype_type]; kernel_rfl
theorem wl7 (l1 l2 : Addr) (xs ys : Array Value) (n1 n2 : Nat) (d1 d2 : Option Addr) (s1 s2 : Array (Option Value)) :
 Meets (Builtin.«zip.__new__» ⟨[.type "zip", .ref l1, .ref l2], []⟩) (fun _ R s => s.heap.get? l1 = some { cls := .type "tuple", dict := d1, data := .seq xs n1, slots := s1 } /\ s.heap.get? l2 = some { cls := .type "tuple", dict := d2, data := .seq ys n2, slots := s2 } /\
  R (.ok (.ret (.ref (s.heap.objs.size + 4))))
   { s with heap := ((((s.heap.push { cls := .type "tuple_iterator", data := .fields #[.ref l1, .int 0 0] }).push { cls := .type "tuple_iterator", data := .fields #[.ref l2, .int 0 0] }).push { cls := .type "tuple", data := .seq #[.ref s.heap.objs.size, .ref (s.heap.objs.size + 1)] }).push { cls := .type "tuple", data := .seq #[.none, .none] }).push { cls := .type "zip", data := .fields #[.none, .bool false, .bool false, .ref (s.heap.objs.size + 2), .ref (s.heap.objs.size + 3)] } }) :=
 .of_wp fun prog w A R s h => by
  obtain ⟨hp, g, d, tk, os⟩ := s; obtain ⟨hl1, hl2, h⟩ := h
  have hL1 : Heap.IsTuple (Shared.heap ⟨hp, g, d, tk, os⟩) l1 xs := ⟨_, hl1, rfl, n1, rfl⟩
  have hL2 : Heap.IsTuple (hp.push { cls := .type "tuple_iterator", data := .fields #[.ref l1, .int 0 0] }) l2 ys := ⟨_, Heap.get?_push_of_some _ hl2, rfl, n2, rfl⟩
  have hsub := yr0
  unfold Builtin.«zip.__new__»
  refine wpAny_bind ?_
  show wpAny _ _ (isType (.type "zip") >>= _) _ _ _
  refine wpAny_bind (wpAny_of_eq (a := true) rfl ?_)
  show wpAny _ _ (isSubtype (.type "zip") (.type "zip") >>= _) _ _ _
  rw [hsub]
  refine wpAny_bind (wpAny_pure ?_)
  show wpAny _ _ (pure (Value.type "zip", [Value.ref l1, Value.ref l2])) _ _ _
  refine wpAny_pure ?_
  show wpAny _ _ (Builtin.SmallTypes.iterAll [Value.ref l1, Value.ref l2] >>= _) _ _ _
  refine wpAny_bind ?_
  unfold Builtin.SmallTypes.iterAll
  refine wpAny_bind ?_
  rw [List.forIn_cons]
  refine wpAny_bind ?_
  refine wpAny_bind (wpAny_holding (wpAny_pyIter_tuple hL1 (wpAny_pure ?_)))
  show wpAny _ _ (forIn [Value.ref l2] _ _) _ _ _
  rw [List.forIn_cons]
  refine wpAny_bind ?_
  refine wpAny_bind (wpAny_holding (wpAny_pyIter_tuple (s := ⟨_, _, _, _, _⟩) hL2 (wpAny_pure ?_)))
  show wpAny _ _ (forIn [] _ _) _ _ _
  rw [List.forIn_nil]
  refine wpAny_pure ?_
  refine wpAny_pure ?_
  refine wpAny_bind (wpAny_newTuple ?_ (by rw [sizeLine_eq]; simp))
  refine wpAny_bind (wpAny_newTuple ?_ (by rw [sizeLine_eq]; simp))
  refine wpAny_bind ?_
  unfold Builtin.SmallTypes.newRecord
  refine wpAny_newObj_type (T := "zip") ?_ (by show _ <= _; rw [sizeLine_eq]; simp [Builtin.SmallTypes.ownedTupleFields])
  simp only [Heap.size_push]
  refine wpAny_pure ?_
  exact ⟨_, rfl, h⟩
theorem wf3 {xs ys : Array Value} (h1 : s.heap.IsTuple l1 xs) (h2 : s.heap.IsTuple l2 ys) (h : ∀ h', qa0 h' (s.heap.objs.size + 4) (s.heap.objs.size + 2) (s.heap.objs.size + 3) s.heap.objs.size (s.heap.objs.size + 1) l1 l2 .none .none .none 0 0 xs ys -> (∀ b o, s.heap.get? b = some o -> h'.get? b = some o) -> Q (.ref (s.heap.objs.size + 4)) { s with heap := h' }) :
 wpAny (model prog w) A (call (.type "zip") [.ref l1, .ref l2]) Q E s := by
 obtain ⟨hp, g, d, tk, os⟩ := s
 obtain ⟨⟨c1, d1, t1, s1⟩, g1, hc1, n1, hd1⟩ := h1
 obtain ⟨⟨c2, d2, t2, s2⟩, g2, hc2, n2, hd2⟩ := h2
 replace hc1 : c1 = .type "tuple" := hc1
 replace hd1 : t1 = .seq xs n1 := hd1
 replace hc2 : c2 = .type "tuple" := hc2
 replace hd2 : t2 = .seq ys n2 := hd2
 subst hc1 hd1 hc2 hd2
 replace g1 : hp.get? l1 = _ := g1
 replace g2 : hp.get? l2 = _ := g2
 refine callType_new F.called_zip (by decide) (F.typeCall_zip_2 _ _) (F.newCall_zip_2 _ _) (fun obj => F.args_object_init_3 obj _ _) F.entry_zip_new
  (wl7 l1 l2 xs ys n1 n2 d1 d2 s1 s2) ⟨g1, g2, ?_⟩
 have z1 : (hp.push { cls := .type "tuple_iterator", data := .fields #[.ref l1, .int 0 0] }).objs.size = hp.objs.size + 1 := Heap.size_push ..
 have k1 : ∀ b o, hp.get? b = some o -> (hp.push { cls := .type "tuple_iterator", data := .fields #[.ref l1, .int 0 0] }).get? b = some o := fun b o e => Heap.get?_push_of_some _ e
 have e1 : Heap.IsTupleIter (hp.push { cls := .type "tuple_iterator", data := .fields #[.ref l1, .int 0 0] }) hp.objs.size l1 0 := ⟨_, Heap.get?_push_size _ rfl, rfl, rfl⟩
 show _ /\ Q (.ref (hp.objs.size + 4)) ⟨((((hp.push { cls := .type "tuple_iterator", data := .fields #[.ref l1, .int 0 0] }).push { cls := .type "tuple_iterator", data := .fields #[.ref l2, .int 0 0] }).push { cls := .type "tuple", data := .seq #[.ref hp.objs.size, .ref (hp.objs.size + 1)] }).push { cls := .type "tuple", data := .seq #[.none, .none] }).push { cls := .type "zip", data := .fields #[.none, .bool false, .bool false, .ref (hp.objs.size + 2), .ref (hp.objs.size + 3)] }, g, d, tk, os⟩
 generalize hp.push { cls := .type "tuple_iterator", data := .fields #[.ref l1, .int 0 0] } = A1 at *
 have z2 : (A1.push { cls := .type "tuple_iterator", data := .fields #[.ref l2, .int 0 0] }).objs.size = hp.objs.size + 2 := by rw [Heap.size_push, z1]
 have k2 : ∀ b o, A1.get? b = some o -> (A1.push { cls := .type "tuple_iterator", data := .fields #[.ref l2, .int 0 0] }).get? b = some o := fun b o e => Heap.get?_push_of_some _ e
 have e2 : Heap.IsTupleIter (A1.push { cls := .type "tuple_iterator", data := .fields #[.ref l2, .int 0 0] }) (hp.objs.size + 1) l2 0 := ⟨_, by rw [<- z1]; exact Heap.get?_push_size _ rfl, rfl, rfl⟩
 generalize A1.push { cls := .type "tuple_iterator", data := .fields #[.ref l2, .int 0 0] } = A2 at *
 have z3 : (A2.push { cls := .type "tuple", data := .seq #[.ref hp.objs.size, .ref (hp.objs.size + 1)] }).objs.size = hp.objs.size + 3 := by rw [Heap.size_push, z2]
 have k3 : ∀ b o, A2.get? b = some o -> (A2.push { cls := .type "tuple", data := .seq #[.ref hp.objs.size, .ref (hp.objs.size + 1)] }).get? b = some o := fun b o e => Heap.get?_push_of_some _ e
 have e3 : IsPair (A2.push { cls := .type "tuple", data := .seq #[.ref hp.objs.size, .ref (hp.objs.size + 1)] }) (hp.objs.size + 2) (.ref hp.objs.size) (.ref (hp.objs.size + 1)) := by rw [<- z2]; exact Heap.get?_push_size _ rfl
 generalize A2.push { cls := .type "tuple", data := .seq #[.ref hp.objs.size, .ref (hp.objs.size + 1)] } = A3 at *
 have z4 : (A3.push { cls := .type "tuple", data := .seq #[.none, .none] }).objs.size = hp.objs.size + 4 := by rw [Heap.size_push, z3]
 have k4 : ∀ b o, A3.get? b = some o -> (A3.push { cls := .type "tuple", data := .seq #[.none, .none] }).get? b = some o := fun b o e => Heap.get?_push_of_some _ e
 have e4 : IsPair (A3.push { cls := .type "tuple", data := .seq #[.none, .none] }) (hp.objs.size + 3) .none .none := by rw [<- z3]; exact Heap.get?_push_size _ rfl
 generalize A3.push { cls := .type "tuple", data := .seq #[.none, .none] } = A4 at *
 have k5 : ∀ b o, A4.get? b = some o -> (A4.push { cls := .type "zip", data := .fields #[.none, .bool false, .bool false, .ref (hp.objs.size + 2), .ref (hp.objs.size + 3)] }).get? b = some o := fun b o e => Heap.get?_push_of_some _ e
 have e5 : IsZip (A4.push { cls := .type "zip", data := .fields #[.none, .bool false, .bool false, .ref (hp.objs.size + 2), .ref (hp.objs.size + 3)] }) (hp.objs.size + 4) (hp.objs.size + 2) (hp.objs.size + 3) .none := by rw [<- z4]; exact Heap.get?_push_size _ rfl
 generalize A4.push { cls := .type "zip", data := .fields #[.none, .bool false, .bool false, .ref (hp.objs.size + 2), .ref (hp.objs.size + 3)] } = A5 at *
 have k25 : ∀ b o, A2.get? b = some o -> A5.get? b = some o := fun b o e => k5 _ _ (k4 _ _ (k3 _ _ e))
 have k05 : ∀ b o, hp.get? b = some o -> A5.get? b = some o := fun b o e => k25 _ _ (k2 _ _ (k1 _ _ e))
 exact ⟨⟨_, e5, rfl⟩, h A5 ⟨e5, k5 _ _ (k4 _ _ e3), k5 _ _ e4, (e1.at (k2 _)).at (k25 _), e2.at (k25 _), ⟨_, k05 _ _ g1, rfl, n1, rfl⟩, ⟨_, k05 _ _ g2, rfl, n2, rfl⟩⟩ k05⟩
def Itz (K : Fg) (a b : Addr) : It := ⟨fun i H => ∃ xs ys x y, SqT K H a xs /\ SqT K H b ys /\ xs[i]? = some x /\ ys[i]? = some y, fun i H v H' => ∃ p x y, v = .ref p /\ H p = none /\ (∀ xs, SqT K H a xs -> xs[i]? = some x) /\ (∀ ys, SqT K H b ys -> ys[i]? = some y) /\ H' = upd H p (.tup [x, y]), fun i H => ∃ xs ys, SqT K H a xs /\ SqT K H b ys /\ (xs.length <= i \/ ys.length <= i)⟩
theorem ya1 {k : Nat} {z TI TO : Addr} (hA : ZipApart z TI TO i1 i2 a b) :
 wj2 P w K (.Tuple elts k pos) (Itz K a b) [z, TI, TO, i1, i2] z (fun i h => IsZip h z TI TO .none /\ IsPair h TI (.ref i1) (.ref i2) /\ (∃ u v, IsPair h TO u v) /\ h.IsTupleIter i1 a i /\ h.IsTupleIter i2 b i) where
 mem := by simp
 obj := by
  rintro i h ⟨e1, e2, ⟨u, v, e3⟩, ⟨o4, e4, _, d4⟩, o5, e5, _, d5⟩ c hc
  have hc : c = z \/ c = TI \/ c = TO \/ c = i1 \/ c = i2 := by simpa using hc
  rcases hc with rfl | rfl | rfl | rfl | rfl
  ·exact ⟨_, e1, fun v z => by cases (show Data.fields _ = Data.cell v from z)⟩
  ·exact ⟨_, e2, fun v z => by cases (show Data.seq _ _ = Data.cell v from z)⟩
  ·exact ⟨_, e3, fun v z => by cases (show Data.seq _ _ = Data.cell v from z)⟩
  ·exact ⟨_, e4, fun v z => by rw [d4] at z; cases z⟩
  ·exact ⟨_, e5, fun v z => by rw [d5] at z; cases z⟩
 keep := fun i h h' ⟨e1, e2, ⟨u, v, e3⟩, e4, e5⟩ kk => ⟨kk z (by simp) _ e1, kk TI (by simp) _ e2, ⟨u, v, kk TO (by simp) _ e3⟩, e4.at fun o q => kk i1 (by simp) o q, e5.at fun o q => kk i2 (by simp) o q⟩
 item := by
  intro X hP hw hK hc i pins s σ H E I hf ⟨e1, e2, ⟨u, v, e3⟩, e4, e5⟩ hg
  subst hP hw hK
  obtain ⟨xs, ys, x, y, hq1, hq2, hx, hy⟩ := hg
  obtain ⟨its, rv, p1, hz⟩ := I.tuple hq1
  obtain ⟨jts, rw_, p2, hz2⟩ := I.tuple hq2
  obtain ⟨x', hx', rx⟩ := rv.get hx
  obtain ⟨y', hy', ry⟩ := rw_.get hy
  have Z : qa0 s.heap z TI TO i1 i2 a b .none u v i i its.toArray jts.toArray := ⟨e1, e2, e3, e4, e5, p1, p2⟩
  have nT : ∀ c, c ∈ [z, TI, TO, i1, i2] -> s.heap.objs.size ≠ c := by
   intro c hc e
   have hc : c = z \/ c = TI \/ c = TO \/ c = i1 \/ c = i2 := by simpa using hc
   have hlt : c < s.heap.objs.size := by
    rcases hc with rfl | rfl | rfl | rfl | rfl
    ·exact Heap.lt_size e1
    ·exact Heap.lt_size e2
    ·exact Heap.lt_size e3
    ·obtain ⟨o, e4, _⟩ := e4; exact Heap.lt_size e4
    ·obtain ⟨o, e5, _⟩ := e5; exact Heap.lt_size e5
   rw [e] at hlt
   exact absurd hlt (Nat.lt_irrefl _)
  refine wa3 hA Z (x := x') (y := y') (by simpa using hx') (by simpa using hy') fun h' Z' hp hsz kk => ⟨_, rfl, wpAny_letOwnedTupleGo_zip Z'.z fun h2 z2 sb => ?_⟩
  have k2 : ∀ c, c ≠ z -> h2.get? c = h'.get? c := fun c n => sb.2 c n
  have hp2 : IsPair h2 s.heap.objs.size x' y' := (k2 _ (nT z (by simp))).trans hp
  have I1 : Inv X pins σ (upd H s.heap.objs.size (.tup [x, y])) { s with heap := h2, toks := s.toks } := I.turnLaid (ch := [z, TI, TO, i1, i2]) (fun b hb => hf b hb) (fun c o hb e => by
   have hb : c ≠ z /\ c ≠ TI /\ c ≠ TO /\ c ≠ i1 /\ c ≠ i2 := by simpa using hb
   exact (k2 c hb.1).trans (kk c o hb.1 hb.2.2.1 hb.2.2.2.1 hb.2.2.2.2 e)) (Nat.le_refl _) ⟨by rw [sizeLine_eq]; simp, [x', y'], .cons rx (.cons ry .nil), ⟨_, hp2, rfl, 0, rfl⟩⟩ I.tk
  refine ⟨.ref s.heap.objs.size, _, I1, rfl, ⟨s.heap.objs.size, x, y, rfl, I.hok.fresh (Nat.le_refl _), fun xs2 h2 => by rw [I.tuple_inj h2 hq1]; exact hx, fun ys2 h2 => by rw [I.tuple_inj h2 hq2]; exact hy, rfl⟩, ⟨z2, (k2 _ hA.TIz).trans Z'.TI, ⟨_, _, (k2 _ hA.TOz).trans Z'.TO⟩, Z'.i1.at fun o e => (k2 _ hA.i1z).trans e, Z'.i2.at fun o e => (k2 _ hA.i2z).trans e⟩, fun c hc => ?_⟩
  rw [C4 (Ne.symm (nT c hc))]
  exact (hf c hc).1
 done := by
  intro X hP hw hK hc i pins s σ H E I hf ⟨e1, e2, ⟨u, v, e3⟩, e4, e5⟩ hg
  subst hP hw hK
  obtain ⟨xs, ys, hq1, hq2, hl⟩ := hg
  obtain ⟨its, rv, p1, hz⟩ := I.tuple hq1
  obtain ⟨jts, rw_, p2, hz2⟩ := I.tuple hq2
  have Z : qa0 s.heap z TI TO i1 i2 a b .none u v i i its.toArray jts.toArray := ⟨e1, e2, e3, e4, e5, p1, p2⟩
  have l1 := rv.length
  have l2 := rw_.length
  exact wf2 (I.ok.hd hc) hA Z (by rcases hl with hl | hl; · left; simp; omega
                                  ·right; simp; omega) fun h' kk => ⟨rfl, I.turnedL (ch := [z, TI, TO, i1, i2]) (t' := s.toks) (fun b hb => hf b hb) (fun c o hb e => by
   have hb : c ≠ z /\ c ≠ TI /\ c ≠ TO /\ c ≠ i1 /\ c ≠ i2 := by simpa using hb
   exact kk c o hb.1 hb.2.2.1 hb.2.2.2.1 hb.2.2.2.2 e) I.tk⟩
 self := fun A i s Q E st h => wpAny_pyIter_zip st.1 h
def za6 (K : Fg) (ta : TA) : TI := fun σ H R => ta σ H fun vs H1 => ∃ a b xs ys, vs = [.ref a, .ref b] /\ SqT K H1 a xs /\ SqT K H1 b ys /\ R (Itz K a b) H1
theorem za7 {k : Nat} {p : Pos} {l m : Expr} {ta : TA} (hg : Gl X "zip") (hm : X.mg "zip" = none) (ha : PA X [l, m] ta) (hs : autoParam (starEach [l, m] X.env = (false, eval l X.env) :: starEach [m] X.env) zAr) (hs2 : autoParam (starEach [m] X.env = [(false, eval m X.env)]) zAr) :
 PI X (.Tuple elts k tpos) (.Call (.Name "zip" p) [l, m] [] pos) (za6 X.K ta) := by
 intro pins s σ H R I h
 refine Call_ (ql7 I hg hm boot_zip (PyProof.Rows.callWith_type1 (thn (ha pos pins s σ H _ I h) fun us s1 zq => ?_) hs (by rw [hs2]; rfl)))
 obtain ⟨vs, H1, I1, r1, q1⟩ := zq
 obtain ⟨a, b, xs, ys, e, hq1, hq2, q⟩ := q1
 subst e
 obtain ⟨v, w, rfl, rv, rw_⟩ := wu8 r1
 cases rv
 cases rw_
 obtain ⟨its, rv, pT, hz⟩ := I1.tuple hq1
 obtain ⟨jts, rw_, pU, hz2⟩ := I1.tuple hq2
 have ha1 : a < s1.heap.objs.size := by obtain ⟨o, e, _⟩ := (show s1.heap.IsTuple a its.toArray from pT); exact Heap.lt_size e
 have hb1 : b < s1.heap.objs.size := by obtain ⟨o, e, _⟩ := (show s1.heap.IsTuple b jts.toArray from pU); exact Heap.lt_size e
 refine wf3 (show s1.heap.IsTuple a its.toArray from pT) (show s1.heap.IsTuple b jts.toArray from pU) fun h' Z hk => ?_
 have I2 : Inv X pins σ H1 { s1 with heap := h' } := I1.kept (t' := s1.toks) hk
 refine wpAny_pyIter_zip Z.z ?_
 refine ⟨s1.heap.objs.size + 4, _, _, _, H1, rfl, I2, ya1 (PyProof.Rows.zipApart_new ha1 hb1), ⟨Z.z, Z.TI, ⟨_, _, Z.TO⟩, Z.i1, Z.i2⟩, fun c hc => ?_, q⟩
 have hc : s1.heap.objs.size <= c := by
  have hc : c = s1.heap.objs.size + 4 \/ c = s1.heap.objs.size + 2 \/ c = s1.heap.objs.size + 3 \/ c = s1.heap.objs.size \/ c = s1.heap.objs.size + 1 := by simpa using hc
  rcases hc with rfl | rfl | rfl | rfl | rfl
  all_goals first | exact Nat.le_refl _ | exact Nat.le_add_right _ _
 exact I1.fpOk hc (I1.hok.fresh hc)
theorem za8 {ta : TA} (h : ta σ H fun vs H1 => ∃ a b xs ys, vs = [.ref a, .ref b] /\ SqT K H1 a xs /\ SqT K H1 b ys /\ R (Itz K a b) H1) : za6 K ta σ H R := h
theorem yh7 {g : TG} {Q : VK} (hq : SqT K H a xs) (hr : SqT K H b zs) (Pv : Nat -> List V -> Hp -> Prop) (h0 : Pv 0 [] H) (hlen : ∀ i ys H, i <= min xs.length zs.length -> Pv i ys H -> ys.length <= sizeLine) (hk : ∀ i ys H, Pv i ys H -> SqT K H a xs /\ SqT K H b zs) (hs : ∀ i x z ys H p, xs[i]? = some x -> zs[i]? = some z -> Pv i ys H -> H p = none -> g (.ref p) σ' (upd H p (.tup [x, z])) fun σ2 H2 => tt σ2 H2 fun b H3 => if b = true then te σ2 H3 fun y H4 => PAt Pv (i + 1) (ys ++ [y]) H4 else PAt Pv (i + 1) ys H3) (hd : ∀ ys H, Pv (min xs.length zs.length) ys H -> ∀ p, H p = none -> Q (.ref p) (upd H p (.lst ys))) :
 ∃ c d xs' ys', [V.ref a, V.ref b] = [.ref c, .ref d] /\ SqT K H c xs' /\ SqT K H d ys' /\ qu8 g tt te σ' Q (Itz K c d) H := by
 refine ⟨a, b, xs, zs, rfl, hq, hr, fun i m ys H => m = min xs.length zs.length - i /\ i <= min xs.length zs.length /\ Pv i ys H, ⟨_, rfl, Nat.zero_le _, h0⟩, ?_⟩
 rintro i m ys H ⟨rfl, hi, p⟩
 refine ⟨hlen i ys H hi p, ?_⟩
 obtain ⟨q1, q2⟩ := hk i ys H p
 by_cases hlt : i < min xs.length zs.length
 ·have l1 : i < xs.length := by omega
  have l2 : i < zs.length := by omega
  refine .inr ⟨⟨xs, zs, xs[i], zs[i], q1, q2, by simp [l1], by simp [l2]⟩, Pv (i + 1), fun ys' H' q => ⟨min xs.length zs.length - (i + 1), by omega, rfl, hlt, q⟩, fun v H' y => ?_⟩
  obtain ⟨t, x, z, rfl, ht, hx, hz, rfl⟩ := y
  exact hs i x z ys H t (hx xs q1) (hz zs q2) p ht
 ·have e : i = min xs.length zs.length := by omega
  subst e
  exact .inl ⟨⟨xs, zs, q1, q2, by omega⟩, hd ys H p⟩
def dis (xs : List Str) : List Str := xs.foldl (fun l x => if x ∈ l then l else l ++ [x]) []
theorem wl8 (l : List Str) (x : Str) : dis (l ++ [x]) = if x ∈ dis l then dis l else dis l ++ [x] := by
 unfold dis
 rw [List.foldl_append]; rfl
theorem wh3 {l : List Str} : ∀ {y : Str}, y ∈ dis l ↔ y ∈ l := by
 induction h : l.length generalizing l with
 | zero => intro y; rw [List.eq_nil_of_length_eq_zero h]; exact Iff.rfl
 | succ n ih =>
   intro y
   rcases List.eq_nil_or_concat l with rfl | ⟨l', x, rfl⟩
   ·simp at h
   ·rw [List.concat_eq_append] at *
    have hl : l'.length = n := by simpa using h
    have e := @ih l' hl
    rw [wl8]
    split
    ·rename_i hx
     rw [e, List.mem_append, List.mem_singleton]
     constructor
     ·exact .inl
     ·rintro (g | rfl)
      ·exact g
      ·exact e.mp hx
    ·rw [List.mem_append, List.mem_append, e]
theorem wh4 (l : List Str) : (dis l).length <= l.length /\ ((dis l).length = l.length ↔ l.Nodup) := by
 induction h : l.length generalizing l with
 | zero => rw [List.eq_nil_of_length_eq_zero h]; simp [dis]
 | succ n ih =>
   rcases List.eq_nil_or_concat l with rfl | ⟨l', x, rfl⟩
   ·simp at h
   ·rw [List.concat_eq_append] at *
    have hl : l'.length = n := by simpa using h
    have e := ih l' hl
    rw [wl8, List.nodup_append]
    split
    ·rename_i hx
     rw [wh3] at hx
     exact ⟨by omega, ⟨fun g => by omega, fun g => absurd rfl (g.2.2 x hx x (by simp))⟩⟩
    ·rename_i hx
     rw [wh3] at hx
     rw [List.length_append, List.length_singleton]
     refine ⟨by omega, ⟨fun g => ⟨e.2.mp (by omega), by simp, fun a ha b hb => ?_⟩, fun g => by have := e.2.mpr g.1; omega⟩⟩
     rw [List.mem_singleton.mp hb]
     intro z; rw [z] at ha; exact hx ha
variable {S : Addr}
theorem wz5 {f : Str -> Bool} (g : Heap.SetOf (strKind prog w) h S f n) (k : ∀ o, h.get? S = some o -> h'.get? S = some o) : Heap.SetOf (strKind prog w) h' S f n := by
 obtain ⟨o, es, ep, t, ho, r⟩ := g
 exact ⟨o, es, ep, t, k o ho, r⟩
def SzO (p : Addr) (n : Nat) : HO := .ext fun h => ∃ o es ep t, h.get? p = some o /\ o.ExactSet /\ o.data = .set es ep t /\ t.fits es.size = true /\ es.size = n
def yh8 : List V -> Hp -> VK -> Prop := fun vs H Q => ∃ p n, vs = [.ref p] /\ H p = some (SzO p n) /\ n <= 1000 /\ Q (.int n) H
theorem ww0 : Q7 X (.builtin "len") yh8 := by
 intro pins s σ H xs us Q I r h
 obtain ⟨p, n, rfl, hp, hz, q⟩ := h
 obtain ⟨u, rfl, rx⟩ := qd0 r
 cases rx
 obtain ⟨⟨o, es, ep, t, ho, hx, hd, hf, hn⟩, _, _⟩ := I.hok p _ hp
 refine call_len_set ho hx hd hf (by omega) ?_
 rw [hn]
 exact ⟨.int n, H, I.tok _, ⟨_, rfl⟩, q⟩
theorem m2 {o f : Expr} (base : autoParam (attributeBase o m X.env (eval o X.env) = eval o X.env) zAr) (few : ((backTo cpos (starEach [e, f] X.env)).all (fun x => !x.1) && (backToKw cpos (keywordEach [] X.env)).all (fun x => x.1.isSome)
 && decide (([e, f] : List Expr).length + ([] : List Keyword).length + (if ([] : List Keyword).isEmpty then 0 else 1) < 30)) = true := by rfl) (line : autoParam ((apos.endLine == cpos.line) = true) zAr) (trees : autoParam (backTo cpos (starEach [e, f] X.env) = [(false, eval e X.env), (false, eval f X.env)]) zAr) : M2 X o m apos e f cpos := ⟨base, few, line, trees⟩
def xt4 : R2 := fun x y H Q => ∃ a b : Bool, x = .bl a /\ y = .bl b /\ Q (.bl (!decide (a = b))) H
theorem ya2 : OpR X (compareOp .IsNot) xt4 := by
 intro pins s σ H x y v u Q I rx ry h
 obtain ⟨a, b, rfl, rfl, q⟩ := h
 cases rx
 cases ry
 show wpAny _ _ (isSame (.bool a) (.bool b) >>= _) _ _ s
 refine wpAny_bind (wpAny_of_eq (a := (Value.bool a == Value.bool b)) rfl (wpAny_pure (L0 I q ?_)))
 cases a <;> cases b <;> rfl
def qv1 (K : Fg) : List V -> Hp -> VK -> Prop := fun xs H Q => ∃ p ys, xs = [.ref p] /\ SqT K H p (B3 ys) /\ ys.length < 64 /\
 ∀ l ys', ys'.Perm ys -> sortedS ys' = true -> H l = none -> Q (.ref l) (upd H l (.lst (B3 ys')))
variable {out : Array Value}
theorem wr0 (ho : h.get? a = some (seqObj "list" vs.toArray n)) : ∃ e, (sortedHeap h a vs out).get? a = some (seqObj "list" out e) := by
 unfold sortedHeap
 have e1 := Heap.get?_update_self (Obj.mapSeq fun _ => #[]) ho rfl
 have e2 := Heap.get?_push_of_some (seqObj "tuple" vs.toArray 0) e1
 have e3 := Heap.get?_push_of_some (seqObj "list" #[] 0) e2
 have e4 := Heap.get?_update_self (Obj.mapSeq fun _ => out) e3 rfl
 exact ⟨_, e4⟩
theorem wl9 (n : b ≠ a) (e : h.get? b = some o) : (sortedHeap h a vs out).get? b = some o := by
 unfold sortedHeap
 exact ((Heap.SameBut.update _ _ _).2 b n).trans (Heap.get?_push_of_some _ (Heap.get?_push_of_some _ (((Heap.SameBut.update _ _ _).2 b n).trans e)))
theorem qi8 : Q7 X (.builtin "sorted") (qv1 X.K) := by
 intro pins s σ H xs us Q I r h
 obtain ⟨p, ys, rfl, hq, hl, q⟩ := h
 obtain ⟨u, rfl, rx⟩ := qd0 r
 cases rx
 obtain ⟨its, rv, pl, hz⟩ := I.tuple hq
 have hlen := rv.length
 have hn : (B3 ys).length = ys.length := List.length_map _
 have hS := qh4 rv
 obtain ⟨o, ho, hc, n, hd⟩ := (show s.heap.IsTuple p its.toArray from pl)
 refine Calls.call_function_entry kind_sorted plain_sorted entry_sorted (args_sorted1 _) ?_
 unfold Builtin.sorted
 refine wpAny_bind (wpAny_of_eq (a := ()) rfl ?_)
 refine wpAny_bind (wpAny_collect_seq p (.inr rfl) ho hc hd (fun h' kp => ?_) (by rw [List.size_toArray]; omega))
 have I2 : Inv X pins σ H { s with heap := h' } := I.kept (t' := s.toks) kp
 refine wpAny_bind (wpAny_newList ?_ (by rw [Array.length_toList, List.size_toArray]; omega))
 have e0 : (h'.push { cls := .type "list", data := .seq its.toArray.toList.toArray }).get? h'.objs.size = some (seqObj "list" its.toArray 0) := Heap.get?_push_size _ rfl
 refine wpAny_bind (wpAny_holding (wpAny_call_entry slot_list_sort ⟨_, e0, rfl⟩ entry_list_sort ?_ (args_list_sort _)))
 refine list_sort_treeK strKind_oneLt (vs := its) e0 hS.keysOf (fun v1 v2 rest e => by subst e; exact keyKind_strs hS) (by omega) fun st' h1 h2 => ?_
 obtain ⟨ss', a1, a2, a3⟩ := sorted_out_str hS h1 h2
 refine ⟨_, rfl, wpAny_pure ⟨_, rfl, ?_⟩⟩
 obtain ⟨ep, he⟩ := wr0 (out := Array.map (fun x => x.snd) (arrOf st')) e0
 have kp2 : ∀ b o, h'.get? b = some o -> (sortedHeap (h'.push { cls := .type "list", data := .seq its.toArray.toList.toArray }) h'.objs.size its (Array.map (fun x => x.snd) (arrOf st'))).get? b = some o := fun b o e => wl9 (Nat.ne_of_lt (Heap.lt_size e)) (Heap.get?_push_of_some _ e)
 refine ⟨.ref h'.objs.size, _, I2.laid (t' := s.toks) (o := .lst (B3 ss')) kp2 (Nat.le_refl _) ?_, rfl, q _ _ a2 a3 (I2.hok.fresh (Nat.le_refl _))⟩
 have hz' : (B3 ss').length <= sizeLine := by
  have := a2.length_eq
  show (ss'.map V.str).length <= _
  rw [List.length_map]; omega
 exact ⟨hz', (Array.map (fun x => x.snd) (arrOf st')).toList, ep, wa1 a1, by rw [Array.toArray_toList]; exact he⟩
def yr1 (K : Fg) (a : Addr) : It := ⟨fun i H => ∃ xs x, SqL K H a xs /\ xs[i]? = some x, fun i H x H' => ∃ p y, x = .ref p /\ H p = none /\ (∀ xs, SqL K H a xs -> xs[i]? = some y) /\ H' = upd H p (.tup [.int i, y]), fun i H => ∃ xs, SqL K H a xs /\ xs.length <= i⟩
theorem xo8 {k : Nat} (a e it : Addr) (hei : e ≠ it) :
 wj2 P w K (.Tuple elts k pos) (yr1 K a) [e, it] e (fun i h => (∃ old, IsEnum h e it i old) /\ h.IsListIter it a i) where
 mem := by simp
 obj := by
  rintro i h ⟨⟨old, e1⟩, o2, e2, _, d2⟩ b hb
  have hb : b = e \/ b = it := by simpa using hb
  rcases hb with rfl | rfl
  ·exact ⟨_, e1, fun v z => by cases (show Data.fields _ = Data.cell v from z)⟩
  ·exact ⟨_, e2, fun v z => by rw [d2] at z; cases z⟩
 keep := fun i h h' st kk => ⟨let ⟨old, e1⟩ := st.1; ⟨old, kk e (by simp) _ e1⟩, st.2.at fun o q => kk it (by simp) o q⟩
 item := by
  intro X hP hw hK hc i pins s σ H E I hf st hg
  subst hP hw hK
  obtain ⟨xs, x, hq, hx⟩ := hg
  obtain ⟨its, rv, p, hz⟩ := I.list hq
  obtain ⟨u, hu, ru⟩ := rv.get hx
  have hil : i < its.toArray.size := by rw [List.size_toArray]; exact (List.getElem?_eq_some_iff.mp hu).1
  have pT : s.heap.IsList a its.toArray := p.isList
  have nea : a ≠ it := fun z => by
   obtain ⟨o1, h1, c1, _⟩ := pT
   obtain ⟨o2, h2, c2, _⟩ := st.2
   rw [z, h2] at h1
   cases h1
   rw [c1] at c2
   exact absurd c2 (by decide)
  have nee : e ≠ a := fun z => by
   obtain ⟨o1, h1, c1, _⟩ := pT
   obtain ⟨old, h2⟩ := st.1
   rw [<- z] at h1
   have h2 : s.heap.get? e = some _ := h2
   rw [h2] at h1
   cases h1
   exact absurd c1 (show ¬ (Value.type "enumerate" = Value.type "list") by decide)
  have W := WalksT.enumerateD (prog := X.prog) (w := X.w) (A := X.A) (Draws.list (A := X.A.in1) (show X.A.in1.handled = none from I.ok.hd hc) it a nea its.toArray) e hei (by simp [hei, nee]) (by simp)
  refine wpAny_with_toks (n := 1) I.tk (W.item i s _ _ hil ⟨st.1, st.2, pT⟩ fun T vs h' tk hv hT htup hmid kk ht => ?_)
  have ht : 0 < tk := ht
  obtain ⟨tk1, y, hy, rfl⟩ := hv
  have hy : its[i]? = some y := by simpa using hy
  rw [hu] at hy
  injection hy with hy
  subst hy
  have hap := W.apart i T h' hmid
  refine ⟨_, rfl, W.go elts k pos i T { s with heap := h', toks := tk } _ _ hmid fun h2 st2 k2 => ?_⟩
  have htup2 : IsTup h2 T [Value.int i tk1, u].toArray := by
   obtain ⟨o, e, c⟩ := htup
   exact ⟨o, k2 T o hap e, by simpa using c⟩
  have I1 : Inv X pins σ (upd H T (.tup [.int i, x])) { s with heap := h2, toks := tk } := I.turnLaid (ch := [e, it]) (fun b hb => hf b hb) (fun b u hb e => k2 b u hb (kk b u hb e)) hT ⟨by rw [sizeLine_eq]; simp, [Value.int i tk1, u], .cons ⟨tk1, rfl⟩ (.cons ru .nil), htup2⟩ ht
  refine ⟨.ref T, _, I1, rfl, ⟨T, x, rfl, I.hok.fresh hT, fun ys hy => by rw [I.list_inj hy hq]; exact hx, rfl⟩, ⟨st2.1, st2.2.1⟩, fun b hb => ?_⟩
  have hb2 : ∃ o, s.heap.get? b = some o := by
   have hb : b = e \/ b = it := by simpa using hb
   rcases hb with rfl | rfl
   ·obtain ⟨old, e1⟩ := st.1; exact ⟨_, e1⟩
   ·obtain ⟨o, e1, _⟩ := st.2; exact ⟨_, e1⟩
  obtain ⟨o, e⟩ := hb2
  rw [C4 (Nat.ne_of_lt (Nat.lt_of_lt_of_le (Heap.lt_size e) hT))]
  exact (hf b hb).1
 done := by
  intro X hP hw hK hc i pins s σ H E I hf st hg
  subst hP hw hK
  obtain ⟨xs, hq, hx⟩ := hg
  obtain ⟨its, rv, p, hz⟩ := I.list hq
  have pT : s.heap.IsList a its.toArray := p.isList
  have hno : its.toArray[i]? = none := by
   have := rv.length
   simp; omega
  obtain ⟨old, he⟩ := st.1
  have D : Draws X.prog X.w X.A.in1 it [it, a] 0 (fun _ _ => True) (fun _ h => h.IsListIter it a i /\ h.IsList a its.toArray) :=
   { live := fun _ _ st => let ⟨o, ho, _⟩ := st.1; ⟨o, ho⟩
     frame := fun _ _ _ st hk => ⟨st.1.at fun o e => hk it (by simp) o e, st.2.at fun o e => hk a (by simp) o e⟩
     item := fun j s Q E hj => absurd hj (Nat.not_lt_zero _)
     done := fun s Q E st hE => wpAny_nextOf_list_end (show X.A.in1.handled = none from I.ok.hd hc) st.1 st.2 hno hE }
  exact wpAny_pyNext_enum_endD D he ⟨st.2, pT⟩ fun h' hx => ⟨rfl, I.turnedL (ch := [e, it]) (t' := s.toks) (fun b hb => hf b hb) (fun b o hb y => hx b o (fun z => hb (by simp [z])) y) I.tk⟩
 self := fun A i s Q E st h => let ⟨old, e1⟩ := st.1; wpAny_pyIter_enum e1 h
def wm0 (K : Fg) (ta : TA) : TI := fun σ H R => ta σ H fun vs H1 => ∃ a xs, vs = [.ref a] /\ SqL K H1 a xs /\ R (yr1 K a) H1
theorem wm1 {k : Nat} {p : Pos} {l : Expr} {ta : TA} (hg : Gl X "enumerate") (hm : X.mg "enumerate" = none) (ha : PA X [l] ta) (hs : autoParam (starEach [l] X.env = [(false, eval l X.env)]) zAr) :
 PI X (.Tuple elts k tpos) (.Call (.Name "enumerate" p) [l] [] pos) (wm0 X.K ta) := by
 intro pins s σ H R I h
 refine Call_ (ql7 I hg hm boot_enumerate (PyProof.Rows.callWith_type1 (thn (ha pos pins s σ H _ I h) fun us s1 zq => ?_) hs rfl))
 obtain ⟨vs, H1, I1, r1, q1⟩ := zq
 obtain ⟨a, xs, e, hq, q⟩ := q1
 subst e
 obtain ⟨v, rfl, rv⟩ := qd0 r1
 cases rv
 obtain ⟨its, rv, pT, hz⟩ := I1.list hq
 refine call_enumerate_list pT.isList fun h' he hit hz hk => ?_
 have I2 : Inv X pins σ H1 { s1 with heap := h' } := I1.kept (t' := s1.toks) hk
 refine wpAny_pyIter_enum he ?_
 have ne : s1.heap.objs.size + 1 ≠ s1.heap.objs.size := by omega
 refine ⟨s1.heap.objs.size + 1, _, _, _, H1, rfl, I2, xo8 a (s1.heap.objs.size + 1) s1.heap.objs.size ne, ⟨⟨_, he⟩, hit⟩, fun b hb => ?_, q⟩
 have hb : b = s1.heap.objs.size + 1 \/ b = s1.heap.objs.size := by simpa using hb
 rcases hb with rfl | rfl
 ·exact I1.fpOk (Nat.le_succ _) (I1.hok.fresh (Nat.le_succ _))
 ·exact I1.fpOk (Nat.le_refl _) (I1.hok.fresh (Nat.le_refl _))
theorem qv2 {ta : TA} (h : ta σ H fun vs H1 => ∃ a xs, vs = [.ref a] /\ SqL K H1 a xs /\ R (yr1 K a) H1) : wm0 K ta σ H R := h
theorem qp2 {g : TG} (hq : SqL K H a xs) (Pv : Nat -> St -> Hp -> Prop) (h0 : Pv 0 σ H) (hk : ∀ i σ H', Pv i σ H' -> SqL K H' a xs) (hs : ∀ i x σ H p, xs[i]? = some x -> Pv i σ H -> H p = none -> g (.ref p) σ (upd H p (.tup [.int i, x])) fun σ2 H2 => tb { D with nx := PAt Pv (i + 1), ct := PAt Pv (i + 1), bk := D.nx } σ2 H2) (hd : ∀ σ H, Pv xs.length σ H -> D.nx σ H) :
 ∃ b ys, [V.ref a] = [.ref b] /\ SqL K H b ys /\ wy7 g tb D σ (yr1 K b) H := by
 refine ⟨a, xs, rfl, hq, fun i m σ H => m = xs.length - i /\ i <= xs.length /\ Pv i σ H, ⟨xs.length, by simp, Nat.zero_le _, h0⟩, ?_⟩
 rintro i m σ H ⟨rfl, hi, p⟩
 have sq := hk i σ H p
 by_cases hlt : i < xs.length
 ·refine .inr ⟨⟨xs, xs[i], sq, by simp [hlt]⟩, Pv (i + 1), fun σ' H' p' => ⟨xs.length - (i + 1), by omega, rfl, hlt, p'⟩, fun x H' y => ?_⟩
  obtain ⟨t, z, rfl, ht, hz, rfl⟩ := y
  exact hs i z σ H t (hz xs sq) p ht
 ·have e : i = xs.length := by omega
  subst e
  exact .inl ⟨⟨xs, sq, Nat.le_refl _⟩, hd σ H p⟩
def wm2 : V -> List V -> Hp -> VK -> Prop := fun x vs H Q => ∃ z y : Str, x = .str z /\ vs = [.str y] /\ 1 <= y.length /\ z.length <= 1000000 /\ ∀ p, H p = none -> Q (.ref p) (upd H p (.lst (B3 (PySem.Txt.split z y))))
theorem ww1 : ∀ (l : List Str) (n : Nat), G3 (B3 l) (strsFrom n l)
 | [], _ => .nil
 | x :: l, n => .cons ⟨_, rfl⟩ (ww1 l _)
theorem qv3 : MtR X "str.split" wm2 := by
 intro pins s σ H x vs v us Q I rx rv h
 obtain ⟨z, y, rfl, rfl, hy, hz, q⟩ := h
 obtain ⟨t, rfl⟩ := rx
 obtain ⟨u, rfl, ru⟩ := rv.one
 obtain ⟨t', rfl⟩ := ru
 have hy0 : (y.length == 0) = false := by simp; omega
 have hf := I.hok.fresh (Nat.le_refl _)
 have one : ∀ (e : PySem.Txt.split z y = [z]), listOfItself z t X.A (wants (EP X pins σ Q) X.xe) s := fun e => by
  rw [e] at q
  exact ⟨.ref s.heap.objs.size, _, I.laid (t' := s.toks) (o := .lst (B3 [z])) (fun b o e => Heap.get?_push_of_some _ e) (Nat.le_refl _) ⟨by show 1 <= _; rw [sizeLine_eq]; decide, [.str z t], 0, .cons ⟨t, rfl⟩ .nil, Heap.get?_push_size _ rfl⟩ I.tk, rfl, q _ hf⟩
 by_cases h1 : (decide (z.length < y.length) || decide (Builtin.Str.strKind z < Builtin.Str.strKind y)) = true
 ·refine call_meets F.slot_str_split (typeIs_str _ _ _) F.entry_str_split (F.args_str_split_2 _ _) (meets_str_split_cannot_occur z y t t' h1) (one ?_)
  unfold PySem.Txt.split; rw [if_pos h1]
 ·have h1' := Bool.eq_false_iff.mpr h1
  by_cases h2 : (Builtin.Str.occurrences z y 0 z.length (z.length + 1)).isEmpty = true
  ·refine call_meets F.slot_str_split (typeIs_str _ _ _) F.entry_str_split (F.args_str_split_2 _ _) (meets_str_split_not_found z y t t' h1' hy0 h2) (one ?_)
   unfold PySem.Txt.split; rw [if_neg h1, if_pos h2]
  ·have h2' := Bool.eq_false_iff.mpr h2
   have e : PySem.Txt.split z y = Builtin.Str.partsBetween z (Builtin.Str.occurrences z y 0 z.length (z.length + 1)) y.length := by unfold PySem.Txt.split; rw [if_neg h1, if_neg h2]
   have hl := (PyProof.Rows.fact_split z y).2
   rw [e] at hl
   refine call_meets F.slot_str_split (typeIs_str _ _ _) F.entry_str_split (F.args_str_split_2 _ _) (meets_str_split_sep z y t t' h1' hy0 h2' (by rw [sizeLine_eq]; omega) (by rw [sizeLine_eq]; omega)) ?_
   rw [<- e] at hl ⊢
   have hvl : (B3 (PySem.Txt.split z y)).length <= sizeLine := by show (List.map _ _).length <= _; rw [List.length_map, sizeLine_eq]; omega
   exact ⟨.ref s.heap.objs.size, _, I.laid (o := .lst (B3 (PySem.Txt.split z y))) (fun b o e => Heap.get?_push_of_some _ e) (Nat.le_refl _) ⟨hvl, _, 0, ww1 _ _, Heap.get?_push_size _ rfl⟩ (Nat.lt_of_lt_of_le I.tk (Nat.le_add_right _ _)), rfl, q _ hf⟩
def wf4 (K : Fg) (C : Addr) : Bool := match K.lookup C with
 | some ⟨.type "type", _, .cls cd, sl⟩ => (match cd.mro, sl.toList with
   | .ref C' :: bm, [_, _, _, _, some (.builtin n), _] => C' == C && n == "ValueError.__new__" && !cd.hasDel && PySem.W.tailIn K bmV bm && cd.hasDict
   | _, _ => false)
 | _ => false
theorem qv4 (X : K.In h) (q : wf4 K C = true) :
 ∃ bm N nm qn bs sn sub ab col dd k0 k1 k2 k3 k5, h.get? C = some (excClassObj nm qn C N bs bm true sn sub ab col dd k0 k1 k2 k3 k5 "ValueError.__new__") /\ OwnTail h bmV bm := by
 revert q
 unfold wf4
 split
 next dd cd sl ho =>
  split
  next C' bm k0 k1 k2 k3 n k5 hm hs =>
   intro q
   simp only [Bool.and_eq_true, beq_iff_eq, Bool.not_eq_true'] at q
   obtain ⟨⟨⟨⟨q1, q2⟩, q3⟩, q4⟩, q5⟩ := q
   subst q1 q2
   cases cd
   simp only at hm q3 q5
   subst hm q3 q5
   obtain ⟨sl⟩ := sl
   simp only at hs
   subst hs
   exact ⟨bm, _, _, _, _, _, _, _, _, dd, k0, k1, k2, k3, k5, X _ _ ho, PySem.W.tail_of_in X q4⟩
  next => intro q; cases q
 next => intro q; cases q
section
variable {g : Array GenState} {t : Nat} {y : Str} {v : Value}
theorem xo9 {Q : Fin -> Shared -> Prop} (X : K.In h) (qi : wf4 K C = true) (hy : PySem.W.findIn K (.ref C) y = some none) (hx : h.get? a = some o) (hc : o.cls = .ref C) (hnc : ∀ c, o.data ≠ .cls c) (hd : o.dict = some dx) (hn : h.Ns1 dx mA) (hv : mA y = some v) (hq : Q (.done (.ret v)) ⟨h, g, d, t, os⟩) :
 wpAny (model prog w) A (Builtin.«object.__getattribute__» ⟨[.ref a, .str y tk], []⟩) Q E ⟨h, g, d, t, os⟩ := by
 obtain ⟨bm, N, nm, qn, bs, sn, sub, ab, col, dd, k0, k1, k2, k3, k5, hC, T⟩ := qv4 X qi
 have L := PySem.W.looks_findIn (M := model prog w) X hy
 repeat (any_goals (first | assumption | (with_reducible refine wpAny_loadPart_at hx ?_; rw [hc]) | with_reducible refine L.at ?_ | wp_step))
 split
 ·rename_i c z; exact absurd z (hnc c)
 unfold instanceDict
 repeat (any_goals (first | assumption | (with_reducible refine wpAny_loadPart_at hx ?_; rw [hc]) | with_reducible refine wpAny_loadPart_at hC ?_ | with_reducible refine L.at ?_ | wp_step))
 rw [hd]
 refine wpAny_pure ?_
 show wpAny _ _ (nsGet dx y) _ _ _
 refine wpAny_nsGet hn.ns ?_
 rw [hv]
 repeat (any_goals (first | assumption | wp_step))
theorem ya3 {R : Result -> Shared -> Prop} (FB : ExcAttrFacts B) (X : K.In h) (Z : wl4 K C) (qi : wf4 K C = true) (hy : PySem.W.findIn K (.ref C) y = some none) (hx : h.get? a = some o) (hc : o.cls = .ref C) (hnc : ∀ c, o.data ≠ .cls c) (hd : o.dict = some dx) (hn : h.Ns1 dx mA) (hv : mA y = some v) (hq : R (.ok (.ret v)) ⟨h, g, d, t, os⟩) :
 codeAny (model prog w) A (.call (.builtin "BaseException.__getattribute__") ⟨[.ref a, .str y tk], []⟩) R ⟨h, g, d, t, os⟩ :=
 codeAny_call_builtin FB.ga.plain F.entry_bexc_ga (wl5 X Z hx hc (xo9 X qi hy hx hc hnc hd hn hv hq))
theorem zk3 {b : Bool} (FB : ExcAttrFacts B) (X : K.In h) (Z : wl4 K C) (qi : wf4 K C = true) (hy : PySem.W.findIn K (.ref C) y = some none) (hx : h.get? a = some o) (hc : o.cls = .ref C) (hnc : ∀ c, o.data ≠ .cls c) (hd : o.dict = some dx) (hn : h.Ns1 dx mA) (hv : mA y = some v) (hh : PySem.W.handedIn v = true) (hq : Q v ⟨h, g, d, t + 1, os⟩) :
 wpAny (model prog w) A (getAttr (.ref a) y b) Q E ⟨h, g, d, t, os⟩ := by
 have f3 := FB.ga.bind (.ref a)
 have hx2 : (Value.builtin "BaseException.__getattribute__" == Value.builtin "object.__getattribute__") = false := by decide +kernel
 have hx1 : (onTheHeap (Value.ref C) && Value.builtin "BaseException.__getattribute__" == Value.builtin "object.__getattribute__") = false := by rw [hx2]; rfl
 have L1 := PySem.W.looks_findIn (M := model prog w) X Z.ga
 have L2 := PySem.W.looks_findIn (M := model prog w) X Z.gn
 unfold getAttr
 repeat (any_goals (first | assumption | (with_reducible refine wpAny_loadPart_at hx ?_; rw [hc]) | with_reducible refine L1.at ?_ | with_reducible refine L2.at ?_ | wp_step))
 rw [if_neg (by show ¬ (b && false) = true; cases b <;> decide)]
 repeat (any_goals (first | assumption | (with_reducible refine wpAny_loadPart_at hx ?_; rw [hc]) | wp_step))
 refine ya3 FB X Z qi hy hx hc hnc hd hn hv ?_
 repeat (any_goals (first | assumption | wp_step))
 show wpAny _ _ (handedOut v) _ _ _
 rw [PySem.W.handedOut_of hh]; exact wpAny_pure hq
end
def qn4 (a C : Addr) (od : Option Addr) : HO := .ext fun h => ∃ o, h.get? a = some o /\ o.cls = .ref C /\ o.dict = od /\ ∃ vs, o.data = .fields vs
theorem yr2 (e : h.get? a = some o) (c : o.cls = .ref C) (d : o.dict = od) (v : ∃ vs, o.data = .fields vs) : N1 P w H h a (qn4 a C od) :=
 ⟨⟨o, e, c, d, v⟩, ⟨o, e⟩, fun h1 h2 ⟨u, e1, r⟩ k => ⟨u, k u e1, r⟩⟩
structure ExI (K : Fg) (C : Addr) (f : Str) : Prop where
 Z : wl4 K C
 qi : wf4 K C = true
 hy : PySem.W.findIn K (.ref C) f = some none
def za9 (K : Fg) (ta : TE) (f : Str) : TE := fun σ H Q => ta σ H fun x H1 => ∃ a C dx fs v, x = .ref a /\ H1 a = some (qn4 a C (some dx)) /\ H1 dx = some (.xd fs) /\ ExI K C f /\ fs.lookup f = some v /\ Q v H1
section
variable {f : Str}
theorem zb0 (he : PE X e ta) (hb : attributeBase e f X.env (eval e X.env) = eval e X.env) : PE X (.Attribute e f pos) (za9 X.K ta f) := by
 intro pins s σ H Q I h
 refine yo1 hb (thn (he pins s σ H _ I h) fun u s1 zq => ?_)
 obtain ⟨x, H1, I1, rx, a, C, dx, fs, v, ex, ea, ed, c, l, q⟩ := zq
 subst ex
 obtain rfl : u = Value.ref a := rx
 obtain ⟨⟨o, o1, o2, o3, vs, o4⟩, _⟩ := I1.hok _ _ ea
 obtain ⟨mA, hn, r⟩ := I1.hok _ _ ed
 obtain ⟨u, hu, ru⟩ := qr3.some_of (v := v) (o := mA f) (by rw [<- l]; exact r f)
 obtain ⟨hh, g, d, t, os⟩ := s1
 exact zk3 F.excAttr_ValueError I1.kIn c.Z c.qi c.hy o1 o2 (fun c z => by rw [o4] at z; cases z) o3 hn hu (xx3 ru) ⟨v, H1, I1.tok _, ru, q⟩
end
def ErX (e C : Addr) (od : Option Addr) : HO := .ext fun h => ∃ t, h.get? e = some { cls := .ref C, dict := od, data := .fields #[.ref t, .none, .none, .none, .bool false, .none] }
theorem xp0 {e t : Addr} (g : h.get? e = some { cls := .ref C, dict := od, data := .fields #[.ref t, .none, .none, .none, .bool false, .none] }) : N1 P w H h e (ErX e C od) :=
 ⟨⟨t, g⟩, ⟨_, g⟩, fun h1 h2 ⟨u, e1⟩ k => ⟨u, k _ e1⟩⟩
def rmv (H : Hp) (e : Addr) : Hp := fun b => if b = e then none else H b
theorem xh0 {e : Addr} : rmv H e e = none := by unfold rmv; rw [if_pos rfl]
theorem qd1 {e : Addr} (h : b ≠ e) : rmv H e b = H b := by unfold rmv; rw [if_neg h]
structure InI (K : Fg) (mg : Str -> Option Value) (x : Str) (C f : Addr) : Prop where
 mx : mg x = some (.ref C)
 qi : wf4 K C = true
 hi : PySem.W.findIn K (.ref C) "__init__" = some (some (.ref f))
 hf : PySem.W.typeIn K (.ref f) = some (.type "function")
 kp : PySem.W.keepIn K (.ref C) = true
 bx : PySem.W.subIn K (.ref C) (.type "BaseException") = some true
 ck : wq9 K C
def qp3 (C : Addr) (E : XK) (sp : Sp) (t : TA) : TS := fun _ σ H => t σ H fun vs H1 => vs.length <= sizeLine /\ ∀ e, H1 e = none -> sp (.ref e :: vs) (upd H1 e (ErX e C none)) (fun v H2 => v = .non /\ ∃ od, H2 e = some (ErX e C od) /\ E (.ref C) od (rmv H2 e)) E0
section
variable {e : Addr} {fs : List Addr}
theorem HOk.rmv (x : HOk P w H2 h2) (he : H2 e = some (ErX e C od)) : HOk P w (rmv H2 e) h2 := fun b u q => by
 have nb : b ≠ e := fun z => by rw [z, xh0] at q; cases q
 rw [qd1 nb] at q
 refine (x b u q).stay (fun c v _ q => q) (fun c q => ?_) fun c xs q => ?_
 ·rw [qd1 (fun z => by rw [z, he] at q; cases q)]; exact q
 ·rw [qd1 (fun z => by rw [z, he] at q; cases q)]; exact q
theorem Un.rmv (hok : HOk P w H1 h) (k : ∀ b o, h.get? b = some o -> h1.get? b = some o) (ne : h.get? e = none) (u : Un fs [] (upd H1 e (ErX e C od)) H2 h1 h2) : Un fs [] H1 (rmv H2 e) h h2 := by
 have nb : ∀ {b : Addr} {o : Obj}, h.get? b = some o -> b ≠ e := fun g z => by rw [z, ne] at g; cases g
 have nH : ∀ {b : Addr} {o : HO}, H1 b = some o -> b ≠ e := fun g => by obtain ⟨_, q⟩ := (hok _ _ g).lies; exact nb q
 refine ⟨fun b o g n hb hx => u.keep b o (k b o g) (by rw [C4 (nb g)]; exact n) hb hx, fun b o g n hb hx => u.slot b o (k b o g) (by rw [C4 (nb g)]; exact n) hb hx, fun b o g n hx => ?_, fun b o g hx => u.there b o (k b o g) hx, fun b xs g => ?_, fun b o v g => ?_, fun b ps g => ?_⟩
 ·rw [qd1 (nb g)]; exact u.free b o (k b o g) (by rw [C4 (nb g)]; exact n) hx
 ·rw [qd1 (nH g)]; exact u.tups b xs (by rw [C4 (nH g)]; exact g)
 ·rw [qd1 (nH g)]; exact u.frzs b o v (by rw [C4 (nH g)]; exact g)
 ·obtain ⟨m, q⟩ := u.tbls b ps (by rw [C4 (nH g)]; exact g)
  exact ⟨m, by rw [qd1 (nH g)]; exact q⟩
end
variable {e₀ : Expr} {np : Pos}
section
variable {f : Addr} {E : XK} {k : Nat}
theorem wa4 (O : InI X.K X.mg x C f) (FI : N5 X.prog X.w X.K X.mg X.base CX0 k f fd ps sp) (hr : qa4 (k + 1) X.A) (hb : qq6 X.K fd ps []) (hx : xt3 X E) (hg : Gl X x) (hc : X.calm = true) (ha : PA X (e₀ :: es) t) (hdb : autoParam ((x == ("__debug__" : Str)) = false) zAd) (he : autoParam (starEach (e₀ :: es) X.env = (false, eval e₀ X.env) :: starEach es X.env) zAr) (hpl : autoParam ((backTo cpos (starEach es X.env)).any (·.1) = false) zAr) :
 PS X (.Raise (some (.Call (.Name x np) (e₀ :: es) [] cpos)) none pos) (qp3 C E sp t) := by
 intro pins s σ H D I h
 rw [arm_exec_Raise]
 refine wpAny_bind (wpAny_standAt (xz9 (K := X.K) (C := C) O.bx O.ck (I.ok.hd hc) ?_))
 refine wpAny_bind (wpAny_mono (Q := fun v s₁ => ∃ e dx t, v = .ref e /\ X.K.In s₁.heap /\ s₁.heap.get? e = some { cls := .ref C, dict := dx, data := .fields #[t, .none, .none, .none, .bool false, .none] } /\ X.xe (.ref e) s₁) ?_ (fun v s3 h3 => wpAny_bind (wpAny_standAt (wpAny_pure h3))) fun _ _ x => x)
 refine wpAny_Call_Name_kw (qo6 I hg O.mx ?_ hdb)
 refine PySem.W.callWith_K (h₀ := X.base) I.ok.mod.kin O.kp (thn (ha cpos pins s σ H _ I h) fun us s1 ⟨vs, H1, I1, r, hz, q⟩ => ⟨I1.kIn, ?_⟩) he hpl
 obtain ⟨bm, N, nm, qn, bs, sn, sub, ab, col, dd, k0, k1, k2, k3, k5, hC, T⟩ := qv4 I1.kIn O.qi
 obtain ⟨hh, g, d, tt, os⟩ := s1
 rw [List.nil_append]
 refine zh7 F.excBase_ValueError T I1.kIn hC O.hi O.hf (fun h' e hle hm => ?_) (by rw [<- r.length]; exact hz)
 obtain ⟨t0, e1, e2, e3⟩ := hm.there
 have I2 : Inv X pins σ (upd H1 e (ErX e C none)) _ := I1.laid (o := ErX e C none) hm.keeps hle (xp0 e1)
 have hq := q e (I1.hok.gone hm.new)
 have r2 : G3 (V.ref e :: vs) (Value.ref e :: us) := .cons rfl r
 have hl : (Value.ref e :: us ++ []).length = ps.length := by
  rw [List.append_nil]
  have e := r2.length
  rw [FI.len _ _ _ _ hq] at e
  exact e.symm
 refine wpAny_call (codeAny_mono (FI.run _ X.stack _ _ ⟨Value.ref e :: us, []⟩ (Value.ref e :: us) _ _ E0 (hr.make C us []) (I2.env0.make C us []) (by have := hb _ (Value.ref e :: us) I2.kIn hl; rw [List.append_nil] at this; exact this) r2 hq) fun r s' hq' => ?_)
 cases r with
 | error e => exact False.elim hq'
 | ok fl =>
   cases fl with
   | ret u =>
     have J := I2.after hq'
     obtain ⟨v, H', tk, os', bare, un, hok, rv, ev, od, hH, hE⟩ := hq'
     obtain ⟨v', H'', I3, _⟩ := J
     subst ev
     obtain ⟨⟨t1, g1⟩, _⟩ := hok _ _ hH
     exact ⟨rv, e, od, .ref t1, rfl, I3.kIn, g1, hx pins σ H1 (rmv H' e) _ s' e t1 (.ref C) od I1 (un.rmv I1.hok hm.keeps hm.new) (hok.rmv hH) tk os' bare hm.new xh0 g1 hE⟩
   | next => exact False.elim hq'
   | brk => exact False.elim hq'
   | cont => exact False.elim hq'
end
variable {c1 c2 : Str}
section
variable {t : TE}
def yr3 (c1 c2 : Str) (t : TE) : TE := fun σ H Q => t σ H fun x H1 => ∃ i : Int, x = .int i /\ i.natAbs <= 1000 /\ Q (.str (c1 ++ Str.ofString (toString i) ++ c2)) H1
theorem yh9 {j1 j2 : Nat} {p1 p3 : Pos} (he : PE X e t) (h1 : autoParam (c1.length <= 4096) zAd) (h2 : autoParam (c2.length <= 4096) zAd) :
 PE X (.JoinedStr [.Constant (.str c1) j1 p1, .FormattedValue e (-1) none p2, .Constant (.str c2) j2 p3] pos) (yr3 c1 c2 t) := by
 intro pins s σ H Q I h
 have e0 : Str.empty ++ c1 = c1 := Str.empty_append c1
 have hs : sizeLine = 16777216 := sizeLine_eq
 refine JoinedStr_many (joinParts_cons (Calls.Constant_str ?_))
 refine ⟨by rw [e0, hs]; omega, ?_⟩
 rw [e0]
 refine joinParts_cons (FormattedValue_plain (thn (he pins _ σ H _ (I.tok _) h) fun u s1 zq => ?_))
 obtain ⟨x, H1, I1, r1, i, e1, hi, q⟩ := zq
 subst e1
 obtain ⟨tk, rfl⟩ := r1
 have hl : i.natAbs.log2 < 1920 := Nat.lt_of_le_of_lt (Nat.log2_le_self _) (by omega)
 have hz := int_text_len_1921 hl
 refine wpAny_formatField_int hl ?_
 refine ⟨by rw [strLen_append, hs]; show _ + (Str.ofString (toString i)).length <= _; omega, ?_⟩
 refine joinParts_consE (joinParts_cons (Calls.Constant_str ?_))
 refine ⟨by rw [strLen_append, strLen_append, hs]; show _ + (Str.ofString (toString i)).length + _ <= _; omega, joinParts_nilE (joinParts_nil ?_ (by rw [strLen_append, strLen_append, hs]; show _ + (Str.ofString (toString i)).length + _ <= _; omega))⟩
 exact ⟨.str (c1 ++ Str.ofString (toString i) ++ c2), H1, I1.tok _, ⟨_, rfl⟩, q⟩
end
structure BaI (K : Fg) (mg : Str -> Option Value) (x : Str) (B : Addr) : Prop where
 mx : mg x = some (.ref B)
 hg : PySem.W.specialIn K (.ref B) "__getattribute__" = some (some (.builtin "type.__getattribute__"))
 hr : PySem.W.readsIn K B (.type "type") = true
 e : PySem.W.findCls K (.ref B) (.type "type") "__init__" = some (.val (.builtin "ValueError.__init__"))
theorem zb1 {o : HO} (h : H a = some o) : upd H a o = H := by
 funext b
 by_cases z : b = a
 ·subst z; rw [A8, h]
 ·rw [C4 z]
def yr4 (K : Fg) (t : TA) : TE := fun σ H Q => t σ H fun vs H1 => ∃ e C od v, vs = [.ref e, v] /\ H1 e = some (ErX e C od) /\ wf4 K C = true /\ Q .non H1
structure SeI (K : Fg) (C : Addr) (f : Str) : Prop where
 qi : wf4 K C = true
 sa : PySem.W.findIn K (.ref C) "__setattr__" = some (some (.builtin "object.__setattr__"))
 hy : PySem.W.findIn K (.ref C) f = some none
def ya4 (K : Fg) (ta tv : TE) (f : Str) : TS := fun D σ H => tv σ H fun y H1 => ta σ H1 fun x H2 => ∃ e C, x = .ref e /\ H2 e = some (ErX e C none) /\ SeI K C f /\
 ∀ dx, H2 dx = none -> dx ≠ e -> D.nx σ (upd (upd H2 e (ErX e C (some dx))) dx (.xd [(f, y)]))
section
variable {B : Addr} {f : Str} {o : Expr}
theorem yi0 {pl : Sem Bool} (O : BaI X.K X.mg x B) (hg : Gl X x) (ha : PA X (e₀ :: es) t) (hdb : autoParam ((x == ("__debug__" : Str)) = false) zAd) (hst : autoParam (starEach (e₀ :: es) X.env = (false, eval e₀ X.env) :: starEach es X.env) zAr) (hpl : autoParam ((backTo pos (starEach es X.env)).any (·.1) = false) zAr) (ht : eval (.Call (.Attribute (.Name x np) "__init__" apos) (e₀ :: es) [] pos) X.env = (do
  let ov <- eval (.Name x np) X.env
  standAt apos.atName
  let (f, first) <- holding [ov] (getMethod ov "__init__" pl)
  callWith pos f first (backTo pos (starEach (e₀ :: es) X.env)) (backToKw pos (keywordEach [] X.env))) := by rfl) :
 PE X (.Call (.Attribute (.Name x np) "__init__" apos) (e₀ :: es) [] pos) (yr4 X.K t) := by
 intro pins s σ H Q I h
 refine PySem.W.methodCall_KW (pl := pl) (qo6 I hg O.mx ?_ hdb) ht
 refine PySem.W.method_cls I.kIn O.hg (PySem.W.cls_value I.kIn O.hr O.e rfl ?_)
 have I' : Inv X pins σ H { s with toks := s.toks + 1 } := I.tok _
 show wpAny _ _ (callWith pos (.builtin "ValueError.__init__") [] (backTo pos (starEach (e₀ :: es) X.env)) []) _ _ _
 refine PyProof.Rows.callWith_builtin1 (thn (ha pos pins _ σ H _ I' h) fun us s2 zq => ?_) hst hpl
 obtain ⟨vs, H2, I2, r, e, C, od, v, ev, hH, qi, q2⟩ := zq
 subst ev
 obtain ⟨u0, us, rfl, r0, r1⟩ : ∃ u0 us', us = u0 :: us' /\ G2 (.ref e) u0 /\ G3 [v] us' := by
  cases r with | cons r0 r1 => exact ⟨_, _, rfl, r0, r1⟩
 obtain rfl : u0 = Value.ref e := r0
 obtain ⟨u1, rfl, r2⟩ : ∃ u1, us = [u1] /\ G2 v u1 := by
  cases r1 with | cons r2 r3 => cases r3; exact ⟨_, rfl, r2⟩
 obtain ⟨bm, N, nm, qn, bs, sn, sub, ab, col, dd, k0, k1, k2, k3, k5, hC, T⟩ := qv4 I2.kIn qi
 obtain ⟨⟨t0, g0⟩, _⟩ := I2.hok _ _ hH
 obtain ⟨hh, g, d, tt, os⟩ := s2
 show wpAny _ _ (call (.builtin "ValueError.__init__") [.ref e, u1]) _ _ _
 refine zh8 F.excBase_ValueError T hC g0 fun h' a k g1 => ?_
 have J := I2.write (x := e) (e := e) (o := ErX e C od) (h' := h') (t' := tt) (by rw [hH]; exact True.intro) (.inl rfl) k ⟨_, g1⟩ (xp0 g1) I2.tk
 rw [zb1 hH] at J
 exact ⟨.non, H2, J, rfl, q2⟩
theorem yi1 (ha : PE X o ta) (hv : PE X value tv) (hs : swapsWith value (some (.Attribute o f pos')) pos.line X.env = pure false) (hex : autoParam (X.ex = []) zAr) : PS X (.Assign [.Attribute o f pos'] value pos) (ya4 X.K ta tv f) := by
 intro pins s σ H D I h
 refine plainObj_wpAny_Assign_Attribute (thn (hv pins s σ H _ I h) fun u s1 ⟨y, H1, I1, ry, q⟩ => thn (ha pins s1 σ H1 _ I1 q) fun ov s2 zq => ?_) hs
 obtain ⟨x, H2, I2, rx, e, C, ex, he, S, q2⟩ := zq
 subst ex
 obtain rfl : ov = Value.ref e := rx
 obtain ⟨bm, N, nm, qn, bs, sn, sub, ab, col, dd, k0, k1, k2, k3, k5, hC, T⟩ := qv4 I2.kIn S.qi
 obtain ⟨⟨t0, g0⟩, _⟩ := I2.hok _ _ he
 have In : s2.heap.Inst e C (fun _ => none) := ⟨_, g0, rfl, fun c z => (by cases z), .inl ⟨rfl, fun _ => rfl⟩⟩
 obtain ⟨hh, g, d, tt, os⟩ := s2
 refine zk2 F.store_ValueError T I2.kIn hC S.sa S.hy In (fun h' tk' I' k c ht => ?_) (ns := []) Within.nil (by simp)
 obtain ⟨o1, g1, c1, c2, c3, c4, c5⟩ := c _ g0
 have c5 := c5 rfl
 have ne : hh.objs.size ≠ e := Nat.ne_of_gt (Heap.lt_size g0)
 have k' : ∀ b u, b ≠ e -> hh.get? b = some u -> h'.get? b = some u := fun b u nb gb => k b u nb (fun o0 dx z1 z2 => by rw [g0] at z1; cases z1; cases z2) gb
 have g1' : h'.get? e = some { cls := .ref C, dict := some hh.objs.size, data := .fields #[.ref t0, .none, .none, .none, .bool false, .none] } := by
  obtain ⟨oc, od, odt, osl⟩ := o1
  have c1 : oc = .ref C := c1
  have c2 : odt = .fields #[.ref t0, .none, .none, .none, .bool false, .none] := c2
  have c3 : osl = #[] := c3
  have c5 : od = some hh.objs.size := c5
  rw [c1, c2, c3, c5] at g1
  exact g1
 obtain ⟨o2, f1, f2, f3, f4⟩ := I'
 rw [g1'] at f1
 cases f1
 obtain ⟨dx, e1, e2, hn⟩ : ∃ d, (some hh.objs.size : Option Addr) = some d /\ d ≠ e /\ h'.Ns1 d (fun z => if z = f then some u else none) := by
  rcases f4 with ⟨z, _⟩ | h
  ·cases z
  ·exact h
 cases e1
 have J := I2.write (x := e) (e := e) (o := ErX e C (some hh.objs.size)) (h' := h') (t' := tk') (by rw [he]; exact True.intro) (.inl rfl) k' ⟨_, g1'⟩ (xp0 g1') (Nat.lt_of_lt_of_le I2.tk ht)
 have hfr : H2 hh.objs.size = none := I2.fresh
 have J2 := Inv.track (a := hh.objs.size) (o := .xd [(f, y)]) I2 (Heap.get?_none_of_le (Nat.le_refl _)) J (by rw [C4 ne]; exact hfr) hex ⟨_, hn, fun f' => ?_⟩
 ·exact ⟨σ, _, J2, q2 _ hfr ne⟩
 ·show qr3 ([(f, y)].lookup f') (if f' = f then some u else none)
  by_cases z : f' = f
  ·subst z; rw [if_pos rfl, List.lookup_cons_self]; exact ry
  ·rw [if_neg z, List.lookup_cons, show (f' == f) = false from beq_false_of_ne z]; exact True.intro
end
section
variable {Q : VK} {f : Str} {E : XK}
theorem yi2 (h : t σ H fun vs H1 => ∃ e C od v, vs = [.ref e, v] /\ H1 e = some (ErX e C od) /\ wf4 K C = true /\ Q .non H1) : yr4 K t σ H Q := h
theorem yi3 (h : te σ H fun x H1 => ∃ i : Int, x = .int i /\ i.natAbs <= 1000 /\ Q (.str (c1 ++ Str.ofString (toString i) ++ c2)) H1) : yr3 c1 c2 te σ H Q := h
theorem yi4 (h : tv σ H fun y H1 => ta σ H1 fun x H2 => ∃ e C, x = .ref e /\ H2 e = some (ErX e C none) /\ SeI K C f /\ ∀ dx, H2 dx = none -> dx ≠ e -> D.nx σ (upd (upd H2 e (ErX e C (some dx))) dx (.xd [(f, y)]))) : ya4 K ta tv f D σ H := h
theorem ww2 (h : t σ H fun vs H1 => vs.length <= sizeLine /\ ∀ e, H1 e = none -> sp (.ref e :: vs) (upd H1 e (ErX e C none)) (fun v H2 => v = .non /\ ∃ od, H2 e = some (ErX e C od) /\ E (.ref C) od (rmv H2 e)) E0) : qp3 C E sp t D σ H := h
theorem yi5 (h : ta σ H fun x H1 => ∃ a C dx fs v, x = .ref a /\ H1 a = some (qn4 a C (some dx)) /\ H1 dx = some (.xd fs) /\ ExI K C f /\ fs.lookup f = some v /\ Q v H1) : za9 K ta f σ H Q := h
end
def xh1 (K : Fg) : List V -> Hp -> VK -> Prop := fun xs H Q => yf4 K xs H Q \/
 ∃ (a C : Addr) (od : Option Addr) (y : V) (c : Value) (b : Bool), xs = [.ref a, y] /\ H a = some (qn4 a C od) /\ yq9 K C /\ (∀ u, G2 y u -> u = c) /\ PySem.W.kitOne K (.ref C) c = some b /\ Q (.bl b) H
theorem X9 : Q7 X (.builtin "isinstance") (xh1 X.K) := by
 intro pins s σ H xs us Q I r h
 rcases h with h | ⟨a, C, od, y, c, b, rfl, ha, E, hu, e, q⟩
 ·exact X7 pins s σ H xs us Q I r h
 ·obtain ⟨u, w', rfl, r1, r2⟩ := wu8 r
  cases r1
  obtain rfl := hu _ r2
  obtain ⟨⟨o, e1, e2, _⟩, _, _⟩ := (show N1 X.prog X.w H s.heap a (qn4 a C od) from I.hok a _ ha)
  exact wpAny_with_toks (n := 1) I.tk (PySem.W.kia_one (yh4 E.z E.c) I.kIn ⟨o, e1, e2⟩ e (fun z => nomatch z) fun tk ht => ⟨.bl b, H, I.tok _ ht, rfl, q⟩)
section
variable {Q : VK} {D : Addr} {b : Bool}
theorem wa5 (ha : H a = some (qn4 a C od)) (E : yq9 K C) (hc : wq9 K D) (h : PySem.W.subIn K (.ref C) (.ref D) = some b) (q : Q (.bl b) H) : xh1 K [.ref a, .ref D] H Q :=
 .inr ⟨a, C, od, .ref D, .ref D, b, rfl, ha, E, fun u r => r, yq8 E.s hc h, q⟩
end
theorem kvg {kvs : List (κ × V)} {vs : List (κ × Value)} (h : KV kvs vs) : ∀ (j : Nat) (q : κ × Value), vs[j]? = some q -> ∃ y, kvs[j]? = some y /\ y.1 = q.1 /\ G2 y.2 q.2 := by
 induction h with
 | nil => intro j q h; simp at h
 | cons r t ih =>
   intro j q h
   cases j with
   | zero => cases h; exact ⟨_, rfl, r⟩
   | succ j => exact ih j q (by simpa using h)
def VwO (v d : Addr) : HO := .ext fun h => h.IsValuesView v d
def xt5 : V -> List V -> Hp -> VK -> Prop := fun x vs H Q => ∃ (d : Addr) (kvs : List (Key × V)), x = .ref d /\ vs = [] /\ H d = some (.dK kvs) /\ ∀ v, H v = none -> Q (.ref v) (upd H v (VwO v d))
theorem ya5 : MtR X "dict.values" xt5 := by
 intro pins s σ H x ys u us Q I r1 r h
 obtain ⟨d, kvs, rfl, rfl, hd, q⟩ := h
 cases r1
 cases r
 obtain ⟨z, hm, vs, kv, dd⟩ := yd8 I.hok hd
 refine call_meetsIn PySem.F.slot_dict_values dd.typeIs PySem.F.entry_dict_values (PySem.F.args_dict_values_1 _) (meets_dict_values (P3 X.prog X.w) d hm) ⟨⟨vs, dd⟩, ?_⟩
 refine ⟨.ref s.heap.objs.size, _, I.laid (t' := s.toks) (h' := s.heap.push _) (fun b o e => Heap.get?_push_of_some _ e) (Nat.le_refl _) ?_ I.tk, rfl, q _ (I.hok.fresh (Nat.le_refl _))⟩
 exact ⟨⟨_, Heap.get?_push_size _ rfl, rfl, rfl⟩, ⟨_, Heap.get?_push_size _ rfl⟩, fun h1 h2 ⟨o, ho, hr⟩ k => ⟨o, k o ho, hr⟩⟩
def yi6 : List V -> Hp -> VK -> Prop := fun xs H Q => ∃ (v d : Addr) (kvs : List (Key × V)), xs = [.ref v] /\ H v = some (VwO v d) /\ H d = some (.dK kvs) /\ ∀ l, H l = none -> Q (.ref l) (upd H l (.lst (kvs.map fun y => y.2)))
theorem wm3 (hc : X.calm = true) : Q7 X (.type "list") yi6 := by
 intro pins s σ H xs us Q I r h
 obtain ⟨v, d, kvs, rfl, hv, hq, q⟩ := h
 obtain ⟨u, rfl, rx⟩ := qd0 r
 cases rx
 obtain ⟨φ, _, _⟩ := (show N1 X.prog X.w H s.heap v (VwO v d) from I.hok v _ hv)
 obtain ⟨z, hd, vs, rel, o, es, ep, dd⟩ := yd8 I.hok hq
 have hlen := rel.length
 have hs : sizeLine = 16777216 := sizeLine_eq
 refine wpAny_with_toks (n := 1) I.tk (PySem.W.kdl_call (PySem.W.kdl_values (knd := P3 X.prog X.w) (kvs := vs) (ep := ep) (r := v) (d := d)) (I.ok.hd hc) ⟨φ, o, es, dd⟩ (by omega) fun h' tk acc' c' kp e it => ?_)
 intro htk
 have hv : G3 (kvs.map fun y => y.2) acc'.toList := by
  refine wl6 _ _ (by simp [it.1, hlen]) fun j v hv => ?_
  obtain ⟨k, hx⟩ := it.2 j v (by simpa using hv)
  obtain ⟨y, hy, hr⟩ := kvg rel j (k, v) hx
  exact ⟨y.2, by rw [List.getElem?_map, hy]; rfl, hr.2⟩
 exact ⟨.ref s.heap.objs.size, _, I.laid (t' := tk) kp (Nat.le_refl _) (show N1 X.prog X.w _ h' _ (.lst (kvs.map fun y => y.2)) from ⟨by rw [List.length_map]; exact z, acc'.toList, c', hv, by simpa using e⟩), rfl, q _ (I.hok.fresh (Nat.le_refl _))⟩
theorem wr1 : isSubtype (.type "tuple") (.type "set") = pure false := by rw [isSubtype_type]; kernel_rfl
theorem wm4 : isSubtype (.type "tuple") (.type "frozenset") = pure false := by rw [isSubtype_type]; kernel_rfl
variable {I : Addr}
theorem yi7 {R : Result -> Shared -> Prop} {ys : List Str} (hh : A.handled = none) (hSI : S ≠ I) (hSl : S ≠ l) (hIl : I ≠ l) (hs : StrsAre items.toList ys) (hz : ys.length + 1 < scanBound) :
 ∀ (k i : Nat) (s : Shared), ys.length - i = k -> i <= ys.length -> s.heap.IsTupleIter I l i -> s.heap.IsTuple l items -> Heap.SetOf (strKind prog w) s.heap S (fun x => decide (x ∈ ys.take i)) (dis (ys.take i)).length ->
  (∀ h' tk, (∀ b o, b ≠ S -> b ≠ I -> s.heap.get? b = some o -> h'.get? b = some o) -> s.toks <= tk -> Heap.SetOf (strKind prog w) h' S (fun x => decide (x ∈ ys)) (dis ys).length -> R (.ok (.ret .none)) { s with heap := h', toks := tk }) ->
  codeAny (model prog w) A (Code.builtin "set.update.loop" { pos := [.ref S, .ref I] }) R s := by
 intro k
 induction k with
 | zero =>
   intro i s hk hi hit hl hset h
   have e : i = ys.length := by omega
   subst e
   rw [List.take_length] at hset
   have hlen : items.size = ys.length := by have := hs.length; rw [Array.length_toList] at this; exact this
   refine codeAny_builtin F.entry_set_update_loop ?_
   show wpAny _ _ (pyNext (.ref I) >>= _) _ _ s
   refine wpAny_bind (wpAny_pyNext_tuple_end hh hit hl (by rw [<- hlen]; simp) fun h' eb => ?_)
   refine wpAny_pure ?_
   exact h h' s.toks (fun b o n1 n2 e => eb b o n2 e) (Nat.le_refl _) (wz5 hset fun o e => eb S o hSI e)
 | succ k ih =>
   intro i s hk hi hit hl hset h
   have hlt : i < ys.length := by omega
   have hy : ys[i]? = some ys[i] := List.getElem?_eq_getElem hlt
   generalize ys[i] = y at hy
   obtain ⟨t, hx⟩ := hs.get i y hy
   have et : ys.take (i + 1) = ys.take i ++ [y] := by rw [List.take_add_one, hy]; rfl
   have his : (strKind prog w).is y (.str y t) = true := by show Value.isStrOf y (.str y t) = true; simp [Value.isStrOf, Value.isStr]
   refine codeAny_builtin F.entry_set_update_loop ?_
   show wpAny _ _ (pyNext (.ref I) >>= _) _ _ s
   refine wpAny_bind (wpAny_pyNext_tuple_item hit hl (x := .str y t) (by rw [<- Array.getElem?_toList]; exact hx) fun h1 it1 sb1 => ?_)
   refine wpAny_bind (wpAny_holding ?_)
   show wpAny _ _ (holding [Value.str y t] _) _ _ _
   refine wpAny_holding (wpAny_bind ((strKind prog w).pyHash his ?_))
   have hn := (wh4 (ys.take i)).1
   rw [List.length_take] at hn
   refine wpAny_setAddHashed_of his rfl (wz5 (h' := h1) hset fun o e => (sb1.2 S hSI).trans e) (by omega) fun h2 sb2 set2 => ?_
   refine wpAny_pure ⟨plainId_quiet F.plain_set_update_loop _, ?_⟩
   refine ih (i + 1) _ (by omega) (by omega) (it1.at fun o e => (sb2.2 I (Ne.symm hSI)).trans e) (hl.at fun o e => (sb2.2 l (Ne.symm hSl)).trans ((sb1.2 l (Ne.symm hIl)).trans e)) ?_ fun h' tk kk ht st => ?_
   ·rw [et]
    refine SetOf_congr set2 (fun z => ?_) ?_
    ·rw [<- Bool.decide_or]
     simp
    ·rw [wl8]
     by_cases hm : y ∈ ys.take i
     ·rw [if_pos (decide_eq_true hm), if_pos (wh3.mpr hm)]
     ·rw [if_neg (by rw [decide_eq_false hm]; exact Bool.false_ne_true), if_neg (fun g => hm (wh3.mp g)), List.length_append]; rfl
   ·exact h h' tk (fun b o n1 n2 e => kk b o n1 n2 ((sb2.2 b n1).trans ((sb1.2 b n2).trans e))) (Nat.le_trans (Nat.le_succ _) ht) st
theorem wm5 {ys : List Str} (hh : A.handled = none) (hl : s.heap.IsTuple l items) (hs : StrsAre items.toList ys) (hz : ys.length + 1 < scanBound) (h : ∀ h' tk, Heap.SetOf (strKind prog w) h' s.heap.objs.size (fun x => decide (x ∈ ys)) (dis ys).length -> (∀ b o, s.heap.get? b = some o -> h'.get? b = some o) -> s.toks <= tk -> Q (.ref s.heap.objs.size) { s with heap := h', toks := tk }) :
 wpAny (model prog w) A (call (.type "set") [.ref l]) Q E s := by
 obtain ⟨hp, g, d, tk, os⟩ := s
 have hll : l < hp.objs.size := by obtain ⟨o, e, _⟩ := hl; exact Heap.lt_size e
 refine wpAny_call (codeAny_of_tree ?_)
 refine wpAny_pure ⟨Code.quiet_builtin _ (by decide +kernel), ?_⟩
 refine codeAny_builtin F.entry_type_call ?_
 rw [Around.under_plain (weight_type_call_type _ _ _) rfl]
 show wpAny _ _ (checkTypeCall "set" { pos := [.ref l] } >>= _) _ _ _
 rw [F.typeCall_set_1]
 refine wpAny_bind (wpAny_pure ?_)
 show wpAny _ _ (mroOf (.type "set") >>= _) _ _ _
 obtain ⟨c, tl, hm⟩ := F.called_set.mro
 rw [hm]
 refine wpAny_bind (wpAny_pure ?_)
 show wpAny _ _ (Bind.madeBy (.type "set") >>= _) _ _ _
 rw [F.called_set.made]
 refine wpAny_bind (wpAny_pure ?_)
 show wpAny _ _ (pure (Value.builtin "set.__new__") >>= _) _ _ _
 refine wpAny_bind (wpAny_pure ?_)
 show wpAny _ _ (holding _ (call (.builtin "set.__new__") [.type "set", .ref l]) >>= _) _ _ _
 refine wpAny_bind (wpAny_holding (wpAny_call (code_set_new_1 _ fun led => ?_)))
 have e0 : (hp.push { cls := .type "set", data := .set #[] 0 (SetTable.fresh 0 0 led) }).get? hp.objs.size = some { cls := .type "set", data := .set #[] 0 (SetTable.fresh 0 0 led) } := Heap.get?_push_size _ rfl
 have k0 : ∀ b o, hp.get? b = some o -> (hp.push { cls := .type "set", data := .set #[] 0 (SetTable.fresh 0 0 led) }).get? b = some o := fun b o e => Heap.get?_push_of_some _ e
 have z0 : (hp.push { cls := .type "set", data := .set #[] 0 (SetTable.fresh 0 0 led) }).objs.size = hp.objs.size + 1 := Heap.size_push ..
 have hl0 : Heap.IsTuple (hp.push { cls := .type "set", data := .set #[] 0 (SetTable.fresh 0 0 led) }) l items := hl.at fun o e => k0 _ _ e
 have set0 : Heap.SetOf (strKind prog w) (hp.push { cls := .type "set", data := .set #[] 0 (SetTable.fresh 0 0 led) }) hp.objs.size (fun _ => false) 0 := by
  obtain ⟨x, es, ep, t, hd, r1, r2, r3, r4⟩ := setObjOf_fresh (knd := strKind prog w) led
  exact ⟨_, es, ep, t, e0, x, hd, r1, r2, by rw [r3]; decide, r4, r3⟩
 show wpAny _ _ _ _ _ ⟨hp.push { cls := .type "set", data := .set #[] 0 (SetTable.fresh 0 0 led) }, g, d, tk, os⟩
 generalize hp.push { cls := .type "set", data := .set #[] 0 (SetTable.fresh 0 0 led) } = H0 at *
 have ty : Shared.TypeIs ⟨H0, g, d, tk, os⟩ (.ref hp.objs.size) "set" := ⟨_, e0, rfl⟩
 refine wpAny_bind (wpAny_isInstance ty F.called_set.sub ?_)
 show wpAny _ _ (holding _ (callSpecial? (.ref hp.objs.size) (Str.ofString "__init__") [.ref l] []) >>= _) _ _ _
 refine wpAny_bind (wpAny_holding ?_)
 refine wpAny_callSpecial?_slot ty F.called_set.init ?_
 refine wpAny_call (codeAny_call_builtin F.called_set.init.plain F.entry_set_init (check_set_init_1 ty ?_))
 unfold Builtin.«set.__init__»
 refine wpAny_bind (wpAny_of_eq (a := ()) rfl ?_)
 show wpAny _ _ (typeNameOfCut 200 (.ref hp.objs.size) >>= _) _ _ _
 refine wpAny_bind ?_
 have tyl : Shared.TypeIs ⟨H0, g, d, tk, os⟩ (.ref l) "tuple" := by obtain ⟨o, e, c, _⟩ := hl0; exact ⟨o, e, c⟩
 wp_walk using wpAny_typeOf ty, wpAny_isInstance tyl wr1, wpAny_isInstance tyl wm4, wpAny_typeOf tyl, wpAny_pyIter_tuple hl0
 have hne : ∀ b o, hp.get? b = some o -> b ≠ hp.objs.size /\ b ≠ H0.objs.size := fun b o e => by
  have := Heap.lt_size e
  constructor
  ·exact Nat.ne_of_lt this
  ·rw [z0]; exact Nat.ne_of_lt (Nat.lt_succ_of_lt this)
 have hit : Heap.IsTupleIter (H0.push { cls := .type "tuple_iterator", data := .fields #[.ref l, .int 0 0] }) H0.objs.size l 0 := ⟨_, Heap.get?_push_size _ rfl, rfl, rfl⟩
 refine yi7 (A := A.in1.in1) hh (by rw [z0]; exact Nat.ne_of_lt (Nat.lt_succ_self _)) (Nat.ne_of_gt hll) (by rw [z0]; exact Nat.ne_of_gt (Nat.lt_succ_of_lt hll)) hs hz _ 0 _ rfl (Nat.zero_le _) hit (hl0.at fun o e => Heap.get?_push_of_some _ e) ?_ fun h' tk' kk ht st => ?_
 ·exact SetOf_congr (wz5 set0 fun o e => Heap.get?_push_of_some _ e) (fun z => by simp) rfl
 ·exact wpAny_pure (wpAny_pure (wpAny_pure (h h' tk' st (fun b o e => kk b o (hne b o e).1 (hne b o e).2 (Heap.get?_push_of_some _ (k0 b o e))) ht)))
def xp1 (K : Fg) : List V -> Hp -> VK -> Prop := fun vs H Q => ∃ a xs, vs = [.ref a] /\ SqT K H a (B3 xs) /\ xs.length <= 1000 /\ ∀ p, H p = none -> Q (.ref p) (upd H p (SzO p (dis xs).length))
theorem ww3 (hc : X.calm = true) : Q7 X (.type "set") (xp1 X.K) := by
 intro pins s σ H xs us Q I r h
 obtain ⟨a, ys, rfl, hq, hz, q⟩ := h
 obtain ⟨u, rfl, rx⟩ := qd0 r
 cases rx
 obtain ⟨its, r', pl, hz'⟩ := I.tuple hq
 refine wm5 (I.ok.hd hc) pl (ys := ys) (by simpa using qh4 r') (by show _ < 4096; omega) fun h' tk st kp ht => ?_
 refine ⟨.ref s.heap.objs.size, _, I.laid (t' := tk) kp (Nat.le_refl _) ?_ (Nat.lt_of_lt_of_le I.tk ht), rfl, q _ (I.hok.fresh (Nat.le_refl _))⟩
 obtain ⟨o, es, ep, t, ho, hx, hd, _, _, _, hf, hn⟩ := st
 exact ⟨⟨o, es, ep, t, ho, hx, hd, hf, hn⟩, ⟨o, ho⟩, fun h1 h2 ⟨o, es, ep, t, ho, hr⟩ k => ⟨o, es, ep, t, k o ho, hr⟩⟩
theorem yr5 {p : α -> Prop} : ∀ a ∈ ([] : List α), p a := fun _ h => nomatch h
theorem all_cons {p : α -> Prop} {a : α} {l : List α} (h : p a) (t : ∀ b ∈ l, p b) : ∀ b ∈ a :: l, p b := fun b hb => (List.mem_cons.mp hb).elim (fun e => e ▸ h) (t b)
def yi8 (K : Fg) (ta : TA) : TI := fun σ H R => wm0 K ta σ H R \/ xo0 K ta σ H R
theorem yi9 {k : Nat} {p : Pos} {l : Expr} {ta : TA} (hg : Gl X "enumerate") (hm : X.mg "enumerate" = none) (ha : PA X [l] ta) (hs : autoParam (starEach [l] X.env = [(false, eval l X.env)]) zAr) :
 PI X (.Tuple elts k tpos) (.Call (.Name "enumerate" p) [l] [] pos) (yi8 X.K ta) := fun pins s σ H R I h => h.elim (wm1 hg hm ha hs pins s σ H R I) (yg5 hg hm ha hs pins s σ H R I)
def xt6 (Cs : List Addr) (i j : Nat) (te : XK -> TE) (ts : TS) : TS := fun D σ H =>
 te (fun cls od H' => ∃ C ∈ Cs, cls = .ref C /\ ∀ a, H' a = none -> ts { nx := fun σ' H2 => D.nx (σ'.set i none) H2, rt := D.rt, bk := fun σ' H2 => D.bk (σ'.set i none) H2, ct := fun σ' H2 => D.ct (σ'.set i none) H2 } (σ.set i (some (.ref a))) (upd H' a (qn4 a C od))) σ H fun v H' => D.nx (σ.set j (some v)) H'
section
variable {D : Addr}
theorem yr6 {Cs : List Addr} {te : XK -> TE} {ts : TS} {b₀ : Stmt} {suite : List Stmt} {ep hp zp : Pos} {y n : Str} {i j : Nat} (he : PX X e te) (hg : Gl X y) (hm : X.mg y = some (.ref D)) (hx : ∀ C ∈ Cs, PySem.W.exmOne X.K (.ref C) (.ref D) = some true) (hN : X.N.Nodup) (hi : X.N[i]? = some n) (hk : X.env.scope.names.lookup n = some .local) (hj : X.N[j]? = some z) (hz : X.env.scope.names.lookup z = some .local) (hs : ∀ a xe', PSs (X.held a xe') (b₀ :: suite) ts) (hex : autoParam (X.ex = []) zAr) (hst : autoParam (X.stack = X.env :: X.outer) zAr) (hf : autoParam (X.env.frame = some X.env.locals) zAr) (hsw : autoParam (swapsWith e (some (.Name z zp)) ep.line X.env = pure false) zAr) (hdb : autoParam ((y == ("__debug__" : Str)) = false) zAd) :
 PS X (.Try [.Assign [.Name z zp] e ep] [.ExceptHandler (some (.Name y np)) (some n) (b₀ :: suite) hp] [] [] pos) (xt6 Cs i j te ts) := by
 intro pins s σ H D I h
 refine wpAny_Try_except (wpAny_execs_cons (wpAny_Assign_Name (thn (he pins s σ H _ _ _ I (fun H1 s1 e s2 I1 F => ?_) h) fun v s1 ⟨v', H1, I1, r1, q1⟩ => ?_) hsw))
 ·refine zh5 hst hf I1 F fun a cls od H' s3 e1 na hE J ⟨oe, o1, o2⟩ k => ?_
  obtain ⟨C, hC, rfl, q⟩ := hE
  refine wpAny_handleBy_cons (codeAny_handlers_test (qo6 (J.held a fun _ _ => False) hg hm ?_ hdb)) (by intro q; cases q)
  have lk : PySem.W.Looks (model X.prog X.w) s3.heap (typeOf (.ref a)) (.ref C) := o2 ▸ (PySem.W.Looks.ld o1).andThen .now
  refine (PySem.W.exm_one J.kIn lk (hx C hC)).here ?_
  refine codeAny_handlers_suite_as (k _ _ _ fun s4 J4 ⟨oe4, p1, p2, p3⟩ nH => ?_)
  have J5 := Inv.track I1 na J4 nH hex (yr2 p1 p2 p3.1 p3.2)
  refine qt4 J5 hN hi (.inl hk) (v := .ref a) rfl (fun s5 J6 => ?_) (.inr hk)
  refine wpAny_mono (hs a _ pins s5 _ _ _ (J6.held a _) (q a nH)) (fun f s6 z => ?_) fun _ _ z => z
  have z := z.unheld I.ok
  cases f with
  | next => obtain ⟨σ', H2, J7, q7⟩ := z; exact wh2 J7 hN hi hk fun s7 J8 => ⟨_, H2, J8, q7⟩
  | brk => obtain ⟨σ', H2, J7, q7⟩ := z; exact wh2 J7 hN hi hk fun s7 J8 => ⟨_, H2, J8, q7⟩
  | cont => obtain ⟨σ', H2, J7, q7⟩ := z; exact wh2 J7 hN hi hk fun s7 J8 => ⟨_, H2, J8, q7⟩
  | ret u => obtain ⟨v, σ', H2, J7, r7, q7⟩ := z; exact wh2 J7 hN hi hk fun s7 J8 => ⟨v, _, H2, J8, r7, q7⟩
 ·exact qt4 I1 hN hj (.inl hz) r1 (fun s2 I2 => wpAny_execs_nil (wpAny_execs_nil ⟨_, H1, I2, q1⟩)) (.inr hz)
end
def xp2 (u : Value) : Bool := match u with
 | .none => true
 | _ => false
def xh2 (x : V) : Bool := decide (x = .non)
def NTs (K : Fg) (H : Hp) (xs : List V) : Prop := ∀ v ∈ xs, v = .non \/ ∃ t ys, v = .ref t /\ SqT K H t ys
theorem wm6 : ∀ {xs : List V} {us : List Value} {j : Nat} {x : V}, G3 xs us -> xs[j]? = some x -> ∃ u, us[j]? = some u /\ G2 x u
 | _, _, j, x, .nil, h => by simp at h
 | _, _, 0, x, .cons r t, h => by cases h; exact ⟨_, rfl, r⟩
 | _, _, j + 1, x, .cons r t, h => wm6 (j := j) t h
theorem xh3 : ∀ {xs : List V} {us : List Value} {u : Value}, G3 xs us -> u ∈ us -> ∃ x ∈ xs, G2 x u
 | _, _, u, .nil, h => by cases h
 | _, _, u, .cons r t, h => by
   rcases List.mem_cons.mp h with rfl | h
   ·exact ⟨_, List.mem_cons_self, r⟩
   ·obtain ⟨x, hx, r⟩ := xh3 t h
    exact ⟨x, List.mem_cons_of_mem _ hx, r⟩
theorem xt7 {x : V} (r : G2 x u) (h : x = .non \/ ∃ t, x = .ref t) : xp2 u = xh2 x := by
 rcases h with rfl | ⟨t, rfl⟩
 ·cases r; rfl
 ·cases r; rfl
theorem xh4 : ∀ {xs : List V} {us : List Value}, G3 xs us -> (∀ v ∈ xs, v = .non \/ ∃ t, v = .ref t) -> us.any xp2 = xs.any xh2
 | _, _, .nil, _ => rfl
 | _, _, .cons r t, h => by
   rw [List.any_cons, List.any_cons, xt7 r (h _ List.mem_cons_self), xh4 t fun v hv => h v (List.mem_cons_of_mem _ hv)]
theorem xt8 (h : NTs K H xs) : ∀ v ∈ xs, v = .non \/ ∃ t, v = .ref t := fun v hv => (h v hv).imp_right fun ⟨t, _, e, _⟩ => ⟨t, e⟩
theorem yv5 (I : Inv X pins σ H s) (hu : A.units < cLine) (r : G3 xs us) (h : NTs X.K H xs) : ∀ w ∈ us, SeqAt.EqAt A s w .none (xp2 w) := fun w hw => by
 obtain ⟨x, hx, rx⟩ := xh3 r hw
 rcases h x hx with rfl | ⟨t, ys, rfl, hq⟩
 ·cases rx; exact SeqAt.EqAt.same _
 ·cases rx
  obtain ⟨its, r', pl, _⟩ := I.tuple hq
  exact SeqAt.EqAt.tuple_none pl hu
def zh9 (K : Fg) : R2 := fun x y H Q => ∃ p xs, x = .non /\ y = .ref p /\ SqL K H p xs /\ NTs K H xs /\ Q (.bl (xs.any xh2)) H
theorem zb2 (hu : X.A.units + 1 < cLine) : OpR X (compareOp .In) (zh9 X.K) := by
 intro pins s σ H x y v u Q I rx ry h
 obtain ⟨p, xs, rfl, rfl, hq, hn, q⟩ := h
 cases ry
 cases rx
 obtain ⟨its, r, pl, hz⟩ := I.list hq
 refine SeqAt.in_listAt xp2 pl.isList (fun w hw => yv5 I (by simp only [Around.in1_units] at *; omega) r hn w (by simpa using hw)) ⟨.bl _, H, I, rfl, ?_⟩
 rw [show its.toArray.any xp2 = its.any xp2 by simp, xh4 r (xt8 hn)]
 exact q
def xt9 (K : Fg) : V -> List V -> Hp -> VK -> Prop := fun x vs H Q => ∃ (l : Addr) (xs : List V) (j : Nat), x = .ref l /\ vs = [.non] /\ H l = some (.lst xs) /\ NTs K H xs /\ xs[j]? = some .non /\ (∀ m, m < j -> xs[m]? ≠ some .non) /\ Q (.int j) H
theorem ya6 (hu : X.A.units + 1 < cLine) : MtR X "list.index" (xt9 X.K) := by
 intro pins s σ H x vs v us Q I rx rv h
 obtain ⟨l, xs, j, rfl, rfl, hH, hn, hj, hno, q⟩ := h
 cases rx
 obtain ⟨u, rfl, ru⟩ := rv.one
 cases ru
 obtain ⟨its, n, r, e, hz⟩ := I.lst hH
 have hl := r.length
 have hjl : j < its.length := by rw [<- hl]; exact (List.getElem?_eq_some_iff.mp hj).1
 obtain ⟨u1, g1, r1⟩ := wm6 r hj
 cases r1
 have h1 : its.toArray[j]'(by simpa using hjl) = .none := by
  have := List.getElem?_eq_getElem hjl
  rw [g1] at this
  simp only [List.getElem_toArray]
  exact (Option.some.inj this).symm
 refine call_meets PySem.F.slot_list_index ⟨_, e, rfl⟩ PySem.F.entry_list_index (PySem.F.args_list_index_2 _ _) (PySem.SeqAt.list_indexAt l its.toArray n _ _ .none xp2 j (by simpa using hjl) (by rw [sizeLine_eq] at hz; omega) (by rw [h1]; rfl) (fun m hm hmj => ?_)) ⟨e, fun z hy => yv5 I (by simp only [Around.in1_units] at *; omega) r hn z (by simpa using hy), ?_⟩
 ·have hm' : m < its.length := by simpa using hm
  have hml : m < xs.length := by omega
  have em : xs[m]? = some xs[m] := List.getElem?_eq_getElem hml
  obtain ⟨u2, g2, r2⟩ := wm6 r em
  have h2 : its.toArray[m]'hm = u2 := by
   have := List.getElem?_eq_getElem hm'
   rw [g2] at this
   simp only [List.getElem_toArray]
   exact (Option.some.inj this).symm
  rw [h2, xt7 r2 (xt8 hn _ (List.getElem_mem hml))]
  have := hno m hmj
  rw [em] at this
  exact decide_eq_false fun z => this (by rw [z])
 ·exact ⟨.int _, H, I.tok _, ⟨_, rfl⟩, q⟩
def Its (lo st : Int) (n : Nat) : It := ⟨fun i _ => i < n, fun i H x H' => H' = H /\ x = .int (lo + (i : Int) * st), fun i _ => n <= i⟩
theorem yj0 (it : Addr) (lo st0 : Int) (n : Nat) : wj2 P w K tg (Its lo st0 n) [it] it (fun i h => IsRangeIter h it (lo + (i : Nat) * st0) ((n : Int) - (i : Nat)) st0) where
 mem := by simp
 obj := fun i h st b hb => by
  have e : b = it := by simpa using hb
  subst e
  exact ⟨_, st, fun v z => by
   have z' : Data.fields _ = Data.cell v := z
   cases z'⟩
 keep := fun i h h' st k => k it (by simp) _ st
 item := by
  intro X hP hw hK hc i pins s σ H E I hf st hg
  subst hP hw hK
  obtain ⟨f0, f1, f2, f3, f4, f5⟩ := hf it (by simp)
  have W := Walks.range (prog := X.prog) (w := X.w) (I.ok.hd hc) it lo st0 n
  refine wpAny_with_toks (n := 1) I.tk (W.item i s _ _ hg st fun v h' tk hv st' kk ht => ?_)
  have ht : 0 < tk := ht
  obtain ⟨t, rfl⟩ := hv
  have I1 : Inv X pins σ H { s with heap := h', toks := tk } := I.turned (fun b o hb e => kk b o (by simpa using hb) e) f0 f1 f3 f4 f5
  exact ⟨_, rfl, xe9 (s := { s with heap := h', toks := tk }) (n := "range_iterator") st' rfl rfl (by decide) ⟨.int (lo + (i : Int) * st0), H, I1, ⟨t, rfl⟩, ⟨rfl, rfl⟩, st', fun b hb => (hf b hb).1⟩⟩
 done := by
  intro X hP hw hK hc i pins s σ H E I hf st hg
  subst hP hw hK
  obtain ⟨f0, f1, f2, f3, f4, f5⟩ := hf it (by simp)
  exact wpAny_pyNext_range_end (I.ok.hd hc) st (by have : n <= i := hg; omega) fun h' eb => ⟨rfl, I.turned (t' := s.toks) (fun b o hb e => eb b o hb e) f0 f1 f3 f4 f5⟩
 self := fun _ _ _ _ _ st h => wpAny_pyIter_rangeiter st h
def szR (lo hi st : Int) : Nat := (Builtin.Range.rangeSize lo hi st).toNat
def yj1 (ta : TA) : TI := fun σ H R => ta σ H fun vs H1 => ∃ lo hi st : Int, vs = [.int lo, .int hi, .int st] /\ 0 <= lo /\ lo <= 1000 /\ 0 <= hi /\ hi <= 1000 /\ 1 <= st /\ st <= 1000 /\ R (Its lo st (szR lo hi st)) H1
theorem yj2 {lo hi st : Int} (h1 : 0 <= lo) (h2 : lo <= 1000) (h3 : 0 <= hi) (h4 : hi <= 1000) (h5 : 1 <= st) : Builtin.Range.rangeSize lo hi st = (szR lo hi st : Int) /\ szR lo hi st <= 2000 /\ ∀ i : Nat, i < szR lo hi st -> lo + (i : Int) * st < hi := by
 unfold szR Builtin.Range.rangeSize
 rw [if_pos (show st > 0 by omega)]
 by_cases h : lo < hi
 ·rw [if_pos h]
  have hq0 : 0 <= (hi - lo - 1) / st := Int.ediv_nonneg (by omega) (by omega)
  have hq1 : (hi - lo - 1) / st * st <= hi - lo - 1 := Int.ediv_mul_le _ (by omega)
  generalize (hi - lo - 1) / st = q at *
  have hq2 : q * 1 <= q * st := Int.mul_le_mul_of_nonneg_left h5 hq0
  refine ⟨by omega, by omega, fun i hi' => ?_⟩
  have h6 : (i : Int) <= q := by omega
  have h7 := Int.mul_le_mul_of_nonneg_right h6 (show 0 <= st by omega)
  omega
 ·rw [if_neg h]
  exact ⟨rfl, by simp, fun i z => absurd z (by simp)⟩
theorem ya7 {a b : Expr} {ta : TA} {p : Pos} (hg : Gl X "range") (hm : X.mg "range" = none) (ha : PA X [a, b, c] ta) (hs : autoParam (starEach [a, b, c] X.env = (false, eval a X.env) :: starEach [b, c] X.env) zAr) (hs2 : autoParam (starEach [b, c] X.env = [(false, eval b X.env), (false, eval c X.env)]) zAr) :
 PI X tg (.Call (.Name "range" p) [a, b, c] [] pos) (yj1 ta) := by
 intro pins s σ H R I h
 refine Call_ (ql7 I hg hm boot_range (PyProof.Rows.callWith_type1 (thn (ha pos pins s σ H _ I h) fun us s1 zq => ?_) hs (by rw [hs2]; rfl)))
 obtain ⟨vs, H1, I1, r1, q1⟩ := zq
 obtain ⟨lo, hi, st, e, k1, k2, k3, k4, k5, k6, q⟩ := q1
 subst e
 obtain ⟨es, el, _⟩ := yj2 k1 k2 k3 k4 k5
 cases r1 with
 | cons r rr =>
   cases rr with
   | cons r' rr =>
     cases rr with
     | cons r'' rr =>
       cases rr
       obtain ⟨t, rfl⟩ := r
       obtain ⟨t', rfl⟩ := r'
       obtain ⟨t'', rfl⟩ := r''
       refine call_range_3 (by omega) ?_ (Or.inl (PyProof.noPylong_small (by omega)))
       have I2 : Inv X pins σ H1 { s1 with heap := s1.heap.push { cls := .type "range", data := .fields #[.int lo t, .int hi t', .int st t''] }, toks := s1.toks } := I1.kept (t' := s1.toks) fun b o e => Heap.get?_push_of_some _ e
       refine wpAny_pyIter_range (IsRange.new ..) ?_ ?_
       ·unfold Builtin.Range.small
        rw [es]
        simp only [Builtin.Range.rangeFitsLong, Bool.and_eq_true, Bool.or_eq_true, decide_eq_true_eq, beq_iff_eq, show (st > 0) from by omega, if_true]
        omega
       refine ⟨_, [_], _, _, H1, rfl, I2.kept (t' := s1.toks) fun b o e => Heap.get?_push_of_some _ e, yj0 _ lo st (szR lo hi st), ?_, fun b hb => ?_, q⟩
       ·have e1 : lo + ((0 : Nat) : Int) * st = lo := by simp
        have e2 : ((szR lo hi st : Nat) : Int) - ((0 : Nat) : Int) = (szR lo hi st : Nat) := by simp
        rw [e1, e2]
        have := Heap.get?_push_size (s1.heap.push { cls := .type "range", data := .fields #[.int lo t, .int hi t', .int st t''] }) (o := { cls := .type "range_iterator", data := .fields #[rawInt lo, rawInt (Builtin.Range.rangeSize lo hi st), rawInt st] }) rfl
        rw [es] at this ⊢
        exact this
       ·have e : b = (s1.heap.push { cls := .type "range", data := .fields #[.int lo t, .int hi t', .int st t''] }).objs.size := by simpa using hb
        subst e
        exact I2.fpOk (Nat.le_refl _) (I2.hok.fresh (Nat.le_refl _))
theorem yr7 {ta : TA} (h : ta σ H fun vs H1 => ∃ lo hi st : Int, vs = [.int lo, .int hi, .int st] /\ 0 <= lo /\ lo <= 1000 /\ 0 <= hi /\ hi <= 1000 /\ 1 <= st /\ st <= 1000 /\ R (Its lo st (szR lo hi st)) H1) : yj1 ta σ H R := h
theorem yj3 {g : TG} {lo hi st : Int} (h1 : 0 <= lo) (h2 : lo <= 1000) (h3 : 0 <= hi) (h4 : hi <= 1000) (h5 : 1 <= st) (h6 : st <= 1000) (Pv : St -> Hp -> Prop) (p0 : Pv σ H) (hs : ∀ (x : Int) σ H, lo <= x -> x < hi -> Pv σ H -> g (.int x) σ H fun σ2 H2 => tb { D with nx := Pv, ct := Pv, bk := D.nx } σ2 H2) (hd : ∀ σ H, Pv σ H -> D.nx σ H) :
 ∃ lo' hi' st' : Int, [V.int lo, V.int hi, V.int st] = [.int lo', .int hi', .int st'] /\ 0 <= lo' /\ lo' <= 1000 /\ 0 <= hi' /\ hi' <= 1000 /\ 1 <= st' /\ st' <= 1000 /\ wy7 g tb D σ (Its lo' st' (szR lo' hi' st')) H := by
 refine ⟨lo, hi, st, rfl, h1, h2, h3, h4, h5, h6, fun i m σ H => m = szR lo hi st - i /\ i <= szR lo hi st /\ Pv σ H, ⟨szR lo hi st, by simp, Nat.zero_le _, p0⟩, ?_⟩
 rintro i m σ H ⟨rfl, hi', p⟩
 obtain ⟨_, _, lt⟩ := yj2 h1 h2 h3 h4 h5
 by_cases hlt : i < szR lo hi st
 ·refine .inr ⟨hlt, Pv, fun σ' H' p' => ⟨szR lo hi st - (i + 1), by omega, rfl, hlt, p'⟩, fun x H' y => ?_⟩
  obtain ⟨rfl, rfl⟩ := y
  have h7 : 0 <= (i : Int) * st := Int.mul_nonneg (by omega) (by omega)
  exact hs _ σ H' (by omega) (lt i hlt) p
 ·exact .inl ⟨by show szR lo hi st <= i; omega, hd σ H p⟩
end L2
local macro_rules | `(tactic| lk) => do
 let a <- ("wy9 wy2 qz7 ye7 J9 zf5 ye8 zf6 ye9 xs4 yu7 yz2 xs5 zj9 zf7 yz3 zf8 yz4 yp4 xn5 xs6 yz5 yf0 yp5 zf9 zg0 yf1 wz0 yz6 yu8 yf2 xn4 yp3 xn6 yp6 zg8 yp9 xz0 za2 yq0 za3 xg5 yq4 zh0 zh1 yq1 yz7 zg2 zg3 zg4 zg5 yv3 yf7 yf8 zg9 zk0 yp7".splitOn " ").toArray.mapM fun n => `(Lean.Parser.Tactic.tacticSeq| refine $(Lean.mkIdent (.str `L2 n)) ?_)
 `(tactic| (repeat (first | (with_reducible first $[| $a]*) | ((with_reducible refine' L2.qm9 ?ev ?_); (case ev => exact rfl)) | ((with_reducible refine L2.zg1 ?ec ?_); (case ec => first | decide | omega | assumption)) | ((with_reducible refine L2.yz8 ?ec ?_); (case ec => first | exact ⟨by decide, by decide⟩ | exact ⟨by omega, by omega⟩)))))
local macro_rules | `(tactic| x_go) => `(tactic| refine L2.wy2 ?_)
local macro_rules | `(tactic| k_go) => `(tactic| refine L2.qz7 ?_)
namespace TX
open PySem PySem.StrLaws PySem.Builtin PySem.Builtin.Str
def rep (Y Z : List Nat) : Nat -> List Nat -> List Nat
 | _, [] => []
 | k + 1, _ :: l => rep Y Z k l
 | 0, c :: l => if Y.isPrefixOf (c :: l) = true then Z ++ rep Y Z (Y.length - 1) l else c :: rep Y Z 0 l
end TX
namespace TX
open PySem
def letter (c : Nat) : Bool := decide (97 <= c) && decide (c <= 122)
end TX
namespace My
open PySem L2
variable {H H' : Hp} {K : Fg} {Q : VK} {v : V} {x y : Str} {i : Nat} {α : Type} {E : XK} {vs : List V}
section
open PyProof.Rows
set_option genInjectivity false in
structure Row where
 name : Str
 sort : Str
 host : Str
 shuts : List Str
 bars : List Str
def Row.da (r : Row) : PyData := .tuple [.str r.name, .str r.sort, .str r.host, .tuple (sDa r.shuts), .tuple (sDa r.bars)]
def oV : Option Str -> V
 | some s => .str s
 | none => .non
variable {r : Row}
theorem Y0 (h : Dv K H r.da v) : ∃ b sv bv, v = .ref b /\ SqT K H b [.str r.name, .str r.sort, .str r.host, sv, bv] /\ Dv K H (.tuple (sDa r.shuts)) sv /\ Dv K H (.tuple (sDa r.bars)) bv := by
 obtain ⟨b, ys, rfl, hb, h⟩ := L7.mp h
 rw [Dvs] at h; obtain ⟨v1, r1, rfl, e1, h⟩ := h
 rw [Dvs] at h; obtain ⟨v2, r2, rfl, e2, h⟩ := h
 rw [Dvs] at h; obtain ⟨v3, r3, rfl, e3, h⟩ := h
 rw [Dvs] at h; obtain ⟨v4, r4, rfl, e4, h⟩ := h
 rw [Dvs] at h; obtain ⟨v5, r5, rfl, e5, h⟩ := h
 rw [Dvs] at h; subst h
 rw [N2.mp e1, N2.mp e2, N2.mp e3] at hb
 exact ⟨b, v4, v5, rfl, hb, e4, e5⟩
def Rws (K : Fg) (H : Hp) (v : V) (rs : List Row) : Prop := ∃ a vs, v = .ref a /\ (SqL K H a vs \/ SqT K H a vs) /\ Dvs K H (rs.map Row.da) vs
theorem yv6 {n : Option Str} (h : Q (.bl (decide (some x = n))) H) : R1 K (.str x) (oV n) H Q := by
 cases n with
 | none => refine wq8 rfl ?_; have e : (decide ((V.str x) = oV none)) = decide (some x = none) := by simp [oV]
           rw [e]; exact h
 | some y => refine wq8 rfl ?_; have e : (decide ((V.str x) = oV (some y))) = decide (some x = some y) := by simp [oV]
             rw [e]; exact h
theorem yf7 (h : Q (.bl (decide (x = y))) H) : R1 K (.str x) (.str y) H Q := by
 refine wq8 rfl ?_
 have e : (decide ((V.str x) = V.str y)) = decide (x = y) := by simp
 rw [e]; exact h
theorem yf8 (h : Q (.bl (!decide (x = y))) H) : qm7 K (.str x) (.str y) H Q := by
 refine yz9 rfl ?_
 have e : (decide ((V.str x) = V.str y)) = decide (x = y) := by simp
 rw [e]; exact h
theorem yv3 {x y : Int} (h : Q (.bl (decide (x = y))) H) : R1 K (.int x) (.int y) H Q := by
 refine wq8 rfl ?_
 have e : (decide ((V.int x) = V.int y)) = decide (x = y) := by simp
 rw [e]; exact h
def O2 (rs : List Row) (n : Option Str) : Option Row := rs.find? fun r => decide (some r.name = n)
def E8 (rs : List Row) (n : Option Str) : Option Str := (O2 rs n).map (·.sort)
def E7 (rs : List Row) (n : Option Str) : Option Str := (O2 rs n).bind fun r => if r.sort = ("frame" : Str) then some r.host else none
def frameOf (rs : List Row) (n : Option Str) : Option Str := (rs.find? fun r => decide (r.sort = ("frame" : Str)) && decide (some r.host = n)).map (·.name)
def V3 (K : Fg) : Sp := fun vs H Q _ => ∃ v n rs, vs = [v, oV n] /\ Rws K H v rs /\ (O2 rs n = none -> Q .non H) /\ ∀ r u, O2 rs n = some r -> Dv K H r.da u -> Q u H
theorem xp3 (K : Fg) : ∀ vs H Q E, V3 K vs H Q E -> vs.length = ["rows", "name"].length := by
 rintro vs H Q E ⟨v, n, rs, rfl, _⟩; rfl
def qv5 (K : Fg) : TS :=
 (D8 (ql8 (qg7 K (B1 0)) (C3 2)
 (M9 (D5 (tOp (R1 K) (tOp (G5 K) (B1 2) (tC (.int 0))) (B1 1)))
 (I0 (B1 2)) G8))
 (I0 (tC .non)))
theorem qd2 {α : Type} {p : α -> Bool} : ∀ {l : List α} {i : Nat} {x : α}, l[i]? = some x -> (∀ y ∈ l.take i, p y = false) -> p x = true -> l.find? p = some x
 | y :: l, 0, x, e, _, hp => by cases e; rw [List.find?_cons, hp]
 | y :: l, i + 1, x, e, h, hp => by
   have hy : p y = false := h y (by simp)
   rw [List.find?_cons, hy]
   exact qd2 (i := i) (by simpa using e) (fun z hz => h z (by simp [hz])) hp
theorem wm7 {P : α -> Prop} {l : List α} {x : α} (e : l[i]? = some x) (h : ∀ y ∈ l.take i, P y) (hx : P x) : ∀ y ∈ l.take (i + 1), P y := by
 intro y hy
 rw [List.take_add_one, e] at hy
 rcases List.mem_append.mp hy with z | z
 ·exact h y z
 ·have : y = x := by simpa using z
  subst this; exact hx
theorem ya8 (h : V3 K vs H Q E) : qv5 K { nx := fun _ H' => Q .non H', rt := Q } (I9 ["rows", "name", "row"] vs) H := by
 obtain ⟨v, n, rs, rfl, ⟨a, xs, rfl, hq, hd⟩, h1, h2⟩ := h
 show qv5 K _ [some (.ref a), some (oV n), none] H
 have hlen : xs.length = rs.length := by have := hd.length; simpa using this
 unfold qv5
 refine wy9 (xn4 (xn6 (qm9 rfl ?_)))
 refine xs3 hq (fun i σ H' => H' = H /\ (∃ w, σ = [some (.ref a), some (oV n), w]) /\ ∀ r ∈ rs.take i, decide (some r.name = n) = false) ⟨rfl, ⟨_, rfl⟩, by simp⟩ (fun hl i σ H' _ p => p.1 ▸ hl) (fun ht i σ H' _ p => p.1 ▸ ht) ?_ ?_
 ·rintro i x σ H' hx ⟨rfl, ⟨w, rfl⟩, hn⟩
  obtain ⟨d, hd1, hd2⟩ := hd.get' hx
  rw [List.getElem?_map] at hd1
  obtain ⟨r, hr, rfl⟩ := Option.map_eq_some_iff.mp hd1
  obtain ⟨b, sv, bv, rfl, hb, hsv, hbv⟩ := Y0 hd2
  refine J9 (yu7 (xs5 (ye8 (ye8 (qm9 rfl (zf5 (M0 hb rfl (qm9 rfl (yv6 ⟨_, rfl, ?_⟩)))))))))
  by_cases e : some r.name = n
  ·rw [decide_eq_true e, if_pos rfl]
   refine ⟨_, rfl, ?_⟩
   exact h2 r _ (qd2 hr hn (decide_eq_true e)) hd2
  ·rw [decide_eq_false e, if_neg Bool.false_ne_true]
   exact wz0 ⟨rfl, ⟨_, rfl⟩, wm7 hr hn (decide_eq_false e)⟩
 ·rintro σ H' ⟨rfl, ⟨w, rfl⟩, hn⟩
  show Q .non H'
  refine h1 ?_
  unfold O2
  rw [List.find?_eq_none]
  intro r hr
  rw [hlen, List.take_length] at hn
  simp [hn r hr]
end
section
open PyProof.Rows
def qd3 (K : Fg) : Sp := fun vs H Q _ => ∃ v n rs, vs = [v, oV n] /\ Rws K H v rs /\ Q (oV (E8 rs n)) H
theorem xh5 (K : Fg) : ∀ vs H Q E, qd3 K vs H Q E -> vs.length = ["book", "name"].length := by rintro vs H Q E ⟨v, n, rs, rfl, _⟩; rfl
def wa6 (K : Fg) : TS :=
 (D8 (J0 (D9 (V3 K) [] E0 (A9 (B1 0) (A9 (B1 1) B7))) (C3 2))
 (I0 (tIf (D5 (tOp wq7 (B1 2) (tC .non))) (tC .non) (tOp (G5 K) (B1 2) (tC (.int 1))))))
theorem xp4 (h : qd3 K vs H Q E) : wa6 K { nx := fun _ H' => Q .non H', rt := Q } (I9 ["book", "name", "row"] vs) H := by
 obtain ⟨v, n, rs, rfl, hR, q⟩ := h
 show wa6 K _ [some v, some (oV n), none] H
 refine ⟨_, rfl, _, rfl, v, n, rs, rfl, hR, fun e => ?_, fun r u e hu => ?_⟩
 ·refine ⟨_, rfl, rfl, _, rfl, ?_⟩
  show Q .non H
  have : E8 rs n = none := by unfold E8; rw [e]; rfl
  rw [this] at q; exact q
 ·obtain ⟨b, sv, bv, rfl, hb, _, _⟩ := Y0 hu
  refine ⟨_, rfl, rfl, _, rfl, ?_⟩
  show (if decide (V.ref b = V.non) = true then _ else _)
  rw [decide_eq_false (by simp)]; refine qz7 ?_
  refine ⟨_, rfl, M0 hb rfl ?_⟩
  have : E8 rs n = some r.sort := by unfold E8; rw [e]; rfl
  rw [this] at q; exact q
def qd4 (K : Fg) : Sp := fun vs H Q _ => ∃ v n rs, vs = [v, oV n] /\ Rws K H v rs /\ Q (oV (E7 rs n)) H
theorem xh6 (K : Fg) : ∀ vs H Q E, qd4 K vs H Q E -> vs.length = ["book", "name"].length := by rintro vs H Q E ⟨v, n, rs, rfl, _⟩; rfl
def wa7 (K : Fg) : TS :=
 (D8 (J0 (D9 (V3 K) [] E0 (A9 (B1 0) (A9 (B1 1) B7))) (C3 2))
 (D8 (M9 (tOr (D5 (tOp wq7 (B1 2) (tC .non))) (D5 (tOp (qm7 K) (tOp (G5 K) (B1 2) (tC (.int 1))) (tC (.str ("frame" : Str))))))
 (I0 (tC .non)) G8)
 (I0 (tOp (G5 K) (B1 2) (tC (.int 2))))))
theorem xp5 (h : qd4 K vs H Q E) : wa7 K { nx := fun _ H' => Q .non H', rt := Q } (I9 ["book", "name", "row"] vs) H := by
 obtain ⟨v, n, rs, rfl, hR, q⟩ := h
 show wa7 K _ [some v, some (oV n), none] H
 refine ⟨_, rfl, _, rfl, v, n, rs, rfl, hR, fun e => ?_, fun r u e hu => ?_⟩
 ·refine ⟨_, rfl, rfl, _, rfl, ?_⟩
  show Q .non H
  have : E7 rs n = none := by unfold E7; rw [e]; rfl
  rw [this] at q; exact q
 ·obtain ⟨b, sv, bv, rfl, hb, _, _⟩ := Y0 hu
  refine ⟨_, rfl, rfl, _, rfl, ?_⟩
  show (if decide (V.ref b = V.non) = true then _ else _)
  rw [decide_eq_false (by simp)]; refine qz7 ?_
  refine ⟨_, rfl, M0 hb rfl (yf8 ⟨_, rfl, ?_⟩)⟩
  by_cases hs : r.sort = ("frame" : Str)
  ·rw [decide_eq_true hs, Bool.not_true]; refine qz7 ?_
   refine ⟨_, rfl, M0 hb rfl ?_⟩
   have : E7 rs n = some r.host := by unfold E7; rw [e]; show (if r.sort = ("frame" : Str) then some r.host else none) = _; rw [if_pos hs]
   rw [this] at q; exact q
  ·rw [decide_eq_false hs, Bool.not_false]; refine wy2 ?_
   show Q .non H
   have : E7 rs n = none := by unfold E7; rw [e]; show (if r.sort = ("frame" : Str) then some r.host else none) = _; rw [if_neg hs]
   rw [this] at q; exact q
def V4 (K : Fg) : Sp := fun vs H Q _ => ∃ v n rs, vs = [v, oV n] /\ Rws K H v rs /\ Q (oV (frameOf rs n)) H
theorem wz6 (K : Fg) : ∀ vs H Q E, V4 K vs H Q E -> vs.length = ["book", "name"].length := by rintro vs H Q E ⟨v, n, rs, rfl, _⟩; rfl
def qs0 (K : Fg) : TS :=
 (D8 (ql8 (qg7 K (B1 0)) (C3 2)
 (M9 (wi7 (D5 (tOp (R1 K) (tOp (G5 K) (B1 2) (tC (.int 1))) (tC (.str ("frame" : Str))))) (D5 (tOp (R1 K) (tOp (G5 K) (B1 2) (tC (.int 2))) (B1 1))))
 (I0 (tOp (G5 K) (B1 2) (tC (.int 0)))) G8))
 (I0 (tC .non)))
theorem xh7 (h : V4 K vs H Q E) : qs0 K { nx := fun _ H' => Q .non H', rt := Q } (I9 ["book", "name", "row"] vs) H := by
 obtain ⟨v, n, rs, rfl, ⟨a, xs, rfl, hq, hd⟩, q⟩ := h
 show qs0 K _ [some (.ref a), some (oV n), none] H
 have hlen : xs.length = rs.length := by have := hd.length; simpa using this
 refine ⟨_, rfl, xs3 hq (fun i σ H' => H' = H /\ (∃ w, σ = [some (.ref a), some (oV n), w]) /\ ∀ r ∈ rs.take i, (decide (r.sort = ("frame" : Str)) && decide (some r.host = n)) = false) ⟨rfl, ⟨_, rfl⟩, by simp⟩ (fun hl i σ H' _ p => p.1 ▸ hl) (fun ht i σ H' _ p => p.1 ▸ ht) ?_ ?_⟩
 ·rintro i x σ H' hx ⟨rfl, ⟨w, rfl⟩, hn⟩
  obtain ⟨d, hd1, hd2⟩ := hd.get' hx
  rw [List.getElem?_map] at hd1
  obtain ⟨r, hr, rfl⟩ := Option.map_eq_some_iff.mp hd1
  obtain ⟨b, sv, bv, rfl, hb, hsv, hbv⟩ := Y0 hd2
  refine ⟨_, rfl, M0 hb rfl (yf7 ⟨_, rfl, ?_⟩)⟩
  by_cases hs : r.sort = ("frame" : Str)
  ·rw [decide_eq_true hs]; refine wy2 ?_
   refine ⟨_, rfl, M0 hb rfl ⟨_, rfl, yv6 ⟨_, rfl, ?_⟩⟩⟩
   by_cases e : some r.host = n
   ·rw [decide_eq_true e]; refine wy2 ?_
    refine ⟨_, rfl, M0 hb rfl ?_⟩
    have : frameOf rs n = some r.name := by
     unfold frameOf
     rw [qd2 hr hn (by rw [decide_eq_true hs, decide_eq_true e]; rfl)]; rfl
    rw [this] at q; exact q
   ·rw [decide_eq_false e]; refine qz7 ?_
    exact ⟨rfl, ⟨_, rfl⟩, wm7 hr hn (by rw [decide_eq_false e, Bool.and_false])⟩
  ·rw [decide_eq_false hs]; refine qz7 ?_
   k_go
   exact ⟨rfl, ⟨_, rfl⟩, wm7 hr hn (by rw [decide_eq_false hs, Bool.false_and])⟩
 ·rintro σ H' ⟨rfl, ⟨w, rfl⟩, hn⟩
  show Q .non H'
  have : frameOf rs n = none := by
   unfold frameOf
   rw [List.find?_eq_none.mpr]
   ·rfl
   ·intro r hr
    rw [hlen, List.take_length] at hn
    rw [hn r hr]; exact Bool.false_ne_true
  rw [this] at q; exact q
end
def N6 (K : Fg) : Sp := fun vs H Q _ => ∃ (a : Addr) (ns : List Int) (k : Int), vs = [.ref a, .int k] /\ SqL K H a (ns.map V.int) /\ 0 <= k /\ ∀ n : Int, Q (.int n) H
theorem wa8 (K : Fg) : ∀ vs H Q E, N6 K vs H Q E -> vs.length = ["_law_script", "_law_k"].length := by rintro vs H Q E ⟨v, n, rs, rfl, _⟩; rfl
def V6 (K : Fg) : TS :=
 (D8 (M9 (D5 (tOp wk2 (B1 1) (tCB (R8 K) (A9 (B1 0) B7))))
 (I0 (tOp (G5 K) (B1 0) (B1 1))) G8)
 (I0 (tC (.int 0))))
theorem wf5 (h : N6 K vs H Q E) : V6 K { nx := fun _ H' => Q .non H', rt := Q } (I9 ["_law_script", "_law_k"] vs) H := by
 obtain ⟨a, ns, k, rfl, hS, h0, q⟩ := h
 show V6 K _ [some (.ref a), some (.int k)] H
 unfold V6
 lk
 refine R5 (.inl hS) ?_
 lk
 rw [List.length_map]
 by_cases hk : k < (ns.length : Int)
 ·rw [decide_eq_true hk]; refine wy2 ?_
  have hk' : k.toNat < ns.length := by omega
  lk
  refine M5 hS (v := .int ns[k.toNat]) ?_ (q _)
  have ek : k = ((k.toNat : Nat) : Int) := by omega
  have e : atI (ns.map V.int) ((k.toNat : Nat) : Int) = some (.int ns[k.toNat]) := C5 (by rw [List.getElem?_map, List.getElem?_eq_getElem hk'] <;> rfl)
  rw [<- ek] at e
  exact e
 ·rw [decide_eq_false hk]; refine qz7 ?_
  exact q 0
def qa1 (K : Fg) : Sp := fun vs H Q _ => ∃ c : Int, vs = [.int c] /\ ∀ (p : Addr) (n : Int), H p = none -> Q (.ref p) (upd H p (.lst [.int n]))
theorem wz7 (K : Fg) : ∀ vs H Q E, qa1 K vs H Q E -> vs.length = ["_law_cell"].length := by rintro vs H Q E ⟨c, rfl, _⟩; rfl
def qi9 (K : Fg) : TS :=
 (D8 (M9 (D5 (tOp (R1 K) (tOp (rI (fun _ j => 0 < j) fun i j => .int (i % j)) (B1 0) (tC (.int 2))) (tC (.int 0))))
 (I0 (O9 (A9 (tOp (rI xw6 fun i j => .int (i / j)) (B1 0) (tC (.int 2))) B7))) G8)
 (D8 (J0 (tC (.int 0)) (C3 1))
 (D8 (ql8 (qq5 (A9 (tC (.int 8)) B7)) (C3 2)
 (D8 (J0 (tOp (rI (fun _ j => 0 < j) fun i j => .int (i % j)) (tOp wk1 (tOp (P4 K) (tOp (P4 K) (tOp (rI (fun _ j => 0 < j) fun i j => .int (i % j)) (tOp (rI xw6 fun i j => .int (i / j)) (B1 0) (tC (.int 2))) (tC (.int 2147483629))) (tOp wk1 (tC (.int 7919)) (B1 2))) (tC (.int 1))) (tC (.int 48271))) (tC (.int 2147483647))) (C3 3))
 (D8 (J0 (tOp (rI (fun _ j => 0 < j) fun i j => .int (i % j)) (tOp (P4 K) (tOp (P4 K) (tOp wk1 (B1 3) (B1 3)) (tOp wk1 (tC (.int 69621)) (B1 2))) (tC (.int 7))) (tC (.int 2147483587))) (C3 3))
 (J0 (tOp (P4 K) (tOp wk1 (B1 1) (tC (.int 2147483587))) (B1 3)) (C3 1)))))
 (I0 (O9 (A9 (B1 1) B7))))))
theorem xh8 (h : qa1 K vs H Q E) : qi9 K { nx := fun _ H' => Q .non H', rt := Q } (I9 ["_law_cell", "_law_number", "_law_j", "_law_more"] vs) H := by
 obtain ⟨c, rfl, q⟩ := h
 show qi9 K _ [some (.int c), none, none, none] H
 unfold qi9
 lk
 have one : (1 : Nat) <= sizeLine := by rw [sizeLine_eq]; decide
 by_cases e : c % 2 = 0
 ·rw [decide_eq_true e]; refine wy2 ?_
  lk
  exact ⟨one, fun p hp => q p _ hp⟩
 ·rw [decide_eq_false e]; refine qz7 ?_
  lk
  refine qu7 (n := 8) (by decide) (by decide) (fun i σ H' => H' = H /\ ∃ n a b, σ = [some (.int c), some (.int n), a, b]) ⟨rfl, 0, none, none, rfl⟩ ?_ ?_
  ·rintro i σ H' hi ⟨rfl, n, a, b, rfl⟩
   lk
   refine wk4 (.inl ⟨by decide, by decide⟩) ?_
   lk
   refine wk4 (.inr ⟨by decide, by decide⟩) ?_
   lk
   generalize hm : (c / 2 % 2147483629 + 7919 * (i : Int) + 1) * 48271 % 2147483647 = m
   have m0 : 0 <= m := by rw [<- hm]; exact Int.emod_nonneg _ (by decide)
   have m1 : m < 2147483647 := by rw [<- hm]; exact Int.emod_lt_of_pos _ (by decide)
   refine wk4 (.inl ⟨by omega, by omega⟩) ?_
   lk
   refine wk4 (.inl ⟨by decide, by decide⟩) ?_
   lk
   refine wk4 (.inr ⟨by decide, by decide⟩) ?_
   lk
   exact ⟨rfl, _, _, _, rfl⟩
  ·rintro σ H' ⟨rfl, n, a, b, rfl⟩
   lk
   exact ⟨one, fun p hp => q p _ hp⟩
def L6 (K : Fg) : Sp := fun vs H Q _ => ∃ (p : Addr) (m n : Int), vs = [.ref p, .int m] /\ H p = some (.lst [.int n]) /\ 0 < m /\ m < 1073741824 /\ ∀ r n' : Int, 0 <= r -> r < m -> Q (.int r) (upd H p (.lst [.int n']))
theorem wr2 (K : Fg) : ∀ vs H Q E, L6 K vs H Q E -> vs.length = ["_law_pot_here", "_law_most"].length := by rintro vs H Q E ⟨p, m, n, rfl, _⟩; rfl
def qe5 (K : Fg) : TS :=
 (D8 (J0 (tOp (rI (fun _ j => 0 < j) fun i j => .int (i % j)) (tOp (G5 K) (B1 0) (tC (.int 0))) (B1 1)) (C3 2))
 (D8 (J0 (tOp (rI xw6 fun i j => .int (i / j)) (tOp (G5 K) (B1 0) (tC (.int 0))) (B1 1)) (yc5 (B1 0) (tC (.int 0)) xs7))
 (I0 (B1 2))))
theorem wz8 (h : L6 K vs H Q E) : qe5 K { nx := fun _ H' => Q .non H', rt := Q } (I9 ["_law_pot_here", "_law_most", "_law_number"] vs) H := by
 obtain ⟨p, m, n, rfl, hp, h0, h1, q⟩ := h
 show qe5 K _ [some (.ref p), some (.int m), none] H
 unfold qe5
 lk
 refine M5 (SqL.of hp) (v := .int n) rfl ?_
 lk
 refine M5 (SqL.of hp) (v := .int n) rfl ?_
 lk
 refine .inl (za0 hp (j := 0) rfl ?_)
 lk
 exact (q _ _ (Int.emod_nonneg _ (by omega)) (Int.emod_lt_of_pos _ h0))
variable {xs : List Str}
theorem Q4 {x : V} (h : (B3 xs)[i]? = some x) : ∃ y, xs[i]? = some y /\ x = .str y := by
 unfold B3 at h
 rw [List.getElem?_map] at h
 obtain ⟨y, hy, e⟩ := Option.map_eq_some_iff.mp h
 exact ⟨y, hy, e.symm⟩
theorem C2 (xs : List Str) : (B3 xs).length = xs.length := List.length_map _
variable {n : Nat}
theorem wz9 (h : n <= 1000) : n <= sizeLine := Nat.le_of_lt (xy0 h)
def ch (c : Nat) : Str := ⟨#[c]⟩
def Lt : Str := "abcdefghijklmnopqrstuvwxyz"
theorem qp4 (h : x.cps.toList = y.cps.toList) : x = y := by
 obtain ⟨a⟩ := x
 obtain ⟨b⟩ := y
 exact congrArg Str.mk (Array.toList_inj.mp h)
theorem zb3 : ∀ j : Nat, j < 26 -> Lt.cps.toList[j]? = some (97 + j) := by decide +kernel
theorem zb4 : Lt.length = 26 := by decide +kernel
theorem yv7 {i : Int} (h0 : 0 <= i) (h1 : i < 26) : atI Lt.cps.toList i = some (97 + i.toNat) := by
 have e : i = ((i.toNat : Nat) : Int) := by omega
 have q : atI Lt.cps.toList ((i.toNat : Nat) : Int) = some (97 + i.toNat) := C5 (zb3 _ (by omega))
 rw [<- e] at q
 exact q
theorem zb5 : ∀ c : Nat, c < 26 -> Builtin.Str.occurrences Lt (ch (97 + c)) 0 Lt.length 1 = [c] := by decide +kernel
structure zb6 (x : Str) : Prop where
 one : 1 <= x.length
 eight : x.length <= 8
 low : ∀ c ∈ x.cps.toList, 97 <= c /\ c <= 122
 noS : x ≠ ("shuts" : Str)
 noB : x ≠ ("bars" : Str)
variable {p : Addr}
theorem yj4 (s : A7 H H') (h : H p = none) (o : HO) : A7 H (upd H' p o) := fun b u q => by
 rw [C4 (P7 q h)]; exact s b u q
theorem xh9 : Lt.length <= sizeLine := by rw [zb4]; exact wz9 (by decide)
def gd (l : List Str) (i : Nat) : Str := l.getD i ("" : Str)
theorem xa0 {l : List Str} (h : i < l.length) : l[i]? = some (gd l i) := by
 unfold gd; rw [List.getD_eq_getElem?_getD]; simp [h]
theorem zb7 {l : List Str} (h : i < l.length) : gd l i ∈ l := List.mem_of_getElem? (xa0 h)
theorem N4 (xs : List Str) : (B3 xs).all qe3 = true := by unfold B3; rw [List.all_map]; exact List.all_eq_true.mpr fun _ _ => rfl
theorem P6 (x : Str) : ∀ xs : List Str, inV (.str x) (B3 xs) = decide (x ∈ xs)
 | [] => by simp [inV, B3]
 | y :: ys => by
   have ih := P6 x ys
   unfold inV at ih ⊢
   show (eqV (.str y) (.str x) || (B3 ys).any fun z => eqV z (.str x)) = _
   rw [ih]
   by_cases e : x = y
   ·subst e; simp [eqV]
   ·have e' : ¬ y = x := fun z => e z.symm
    simp [eqV, e, e']
theorem xi0 : ∀ xs : List Str, qr5 (sDa xs) = true
 | [] => by show qr5 [] = true; rw [qr5]
 | x :: xs => by show qr5 (.str x :: sDa xs) = true; rw [qr5, xi0 xs, fix]; rfl
theorem wh5 (r : Row) : fix r.da = true := by
 unfold Row.da
 simp [fix, qr5, xi0]
theorem qv6 : ∀ rs : List Row, qr5 (rs.map Row.da) = true
 | [] => by show qr5 [] = true; rw [qr5]
 | r :: rs => by show qr5 (r.da :: rs.map Row.da) = true; rw [qr5, wh5, qv6 rs]; rfl
variable {b : Addr}
theorem wm8 (h : b ≠ p) : b ∉ [p] := by simpa using h
theorem yr8 {xs : List V} (h : But [p] H H') (hp : H p = some (.lst xs)) : xf7 H H' := by
 refine ⟨fun b ys e => h b _ e (wm8 ?_), fun b o ys e => h b _ e (wm8 ?_)⟩
 ·rintro rfl; rw [hp] at e; cases e
 ·rintro rfl; rw [hp] at e; cases e
variable {ys : List V}
theorem xu0 {xs : List V} (hp : H p = some (.lst xs)) : xf7 H (upd H p (.lst ys)) := yr8 (But.upd (by simp) _) hp
theorem yj5 {n : Option Str} (h : Q (.bl (decide (n = some x))) H) : R1 K (oV n) (.str x) H Q := by
 cases n with
 | none => refine wq8 rfl ?_; have e : (decide (oV none = V.str x)) = decide (none = some x) := by simp [oV]
           rw [e]; exact h
 | some y => refine wq8 rfl ?_; have e : (decide (oV (some y) = V.str x)) = decide (some y = some x) := by simp [oV]
             rw [e]; exact h
def qa8 (rs : List Row) (n : Str) : Nat -> Option Str -> Bool
 | 0, _ => false
 | k + 1, h => if h = some n then true else qa8 rs n k (E7 rs h)
def Y4 (K : Fg) : Sp := fun vs H Q _ => ∃ v n rs, vs = [v, .str n] /\ Rws K H v rs /\ rs.length <= 1000 /\ Q (.bl (qa8 rs n rs.length (E7 rs (some n)))) H
theorem wm9 (K : Fg) : ∀ vs H Q E, Y4 K vs H Q E -> vs.length = ["rows", "name"].length := by rintro vs H Q E ⟨v, n, rs, rfl, _⟩; rfl
def qb2 (K : Fg) : TS :=
 (D8 (J0 (D9 (qd4 K) [] E0 (A9 (B1 0) (A9 (B1 1) B7))) (C3 2))
 (D8 (ql8 (qq5 (A9 (tCB (R8 K) (A9 (B1 0) B7)) B7)) (C3 3)
 (D8 (M9 (D5 (tOp (R1 K) (B1 2) (B1 1)))
 (I0 (tC (.bl true))) G8)
 (J0 (D9 (qd4 K) [] E0 (A9 (B1 0) (A9 (B1 2) B7))) (C3 2))))
 (I0 (tC (.bl false)))))
theorem wr3 (h : Y4 K vs H Q E) : qb2 K { nx := fun _ H' => Q .non H', rt := Q } (I9 ["rows", "name", "host", "step"] vs) H := by
 obtain ⟨v, n, rs, rfl, hR, hl, q⟩ := h
 have hR' := hR
 obtain ⟨a, us, rfl, hq, hd⟩ := hR'
 have lus : us.length = rs.length := by have := hd.length; simpa using this
 show qb2 K _ [some (.ref a), some (.str n), none, none] H
 unfold qb2
 lk
 refine ⟨.ref a, some n, rs, rfl, hR, ?_⟩
 lk
 refine R5 hq ?_
 lk
 rw [lus]
 refine qu7 (n := (rs.length : Int)) (by omega) (by omega) (fun i σ H' => H' = H /\ ∃ h w, σ = [some (.ref a), some (.str n), some (oV h), w] /\ qa8 rs n rs.length (E7 rs (some n)) = qa8 rs n (rs.length - i) h) ⟨rfl, E7 rs (some n), none, rfl, rfl⟩ ?_ ?_
 ·rintro i σ H' hi ⟨rfl, h, w, rfl, e⟩
  have ek : rs.length - i = (rs.length - (i + 1)) + 1 := by omega
  rw [ek, qa8] at e
  lk
  refine yj5 ?_
  lk
  by_cases hn : h = some n
  ·rw [decide_eq_true hn]
   lk
   rw [if_pos hn] at e
   rw [e] at q; exact q
  ·rw [decide_eq_false hn]
   lk
   rw [if_neg hn] at e
   refine ⟨.ref a, h, rs, rfl, hR, ?_⟩
   lk
   exact ⟨rfl, _, _, rfl, e⟩
 ·rintro σ H' ⟨rfl, h, w, rfl, e⟩
  lk
  have z : rs.length - (rs.length : Int).toNat = 0 := by omega
  rw [z, qa8] at e
  rw [e] at q; exact q
theorem qv7 {H : Hp} : ∀ {ds es : List PyData} {us ws : List V}, Dvs K H ds us -> Dvs K H es ws -> Dvs K H (ds ++ es) (us ++ ws)
 | [], es, us, ws, h, h' => by rw [Dvs] at h; subst h; exact h'
 | d :: ds, es, us, ws, h, h' => by
   rw [Dvs] at h
   obtain ⟨v, r, rfl, h1, h2⟩ := h
   exact E6 h1 (qv7 h2 h')
def B6 (rs : List Row) : List Row := rs.foldl (fun l r => if O2 l (some r.name) = none then l ++ [r] else l) []
theorem N3 (l : List Row) (r : Row) : B6 (l ++ [r]) = if O2 (B6 l) (some r.name) = none then B6 l ++ [r] else B6 l := by
 unfold B6
 rw [List.foldl_append]; rfl
theorem T7 (l : List Row) : (B6 l).length <= l.length := by
 unfold B6
 have : ∀ (l l' : List Row), (l.foldl (fun l r => if O2 l (some r.name) = none then l ++ [r] else l) l').length <= l.length + l'.length := by
  intro l
  induction l with
  | nil => intro l'; simp
  | cons r l ih =>
    intro l'
    rw [List.foldl_cons]
    refine Nat.le_trans (ih _) ?_
    split <;> simp <;> omega
 simpa using this l []
def Y5 (K : Fg) : Sp := fun vs H Q _ => ∃ v rs, vs = [v] /\ Rws K H v rs /\ rs.length <= 900 /\
 ∀ t us H', A7 H H' -> H t = none -> H' t = some (.lst us) -> Dvs K H' ((B6 rs).map Row.da) us -> Q (.ref t) H'
theorem wn0 (K : Fg) : ∀ vs H Q E, Y5 K vs H Q E -> vs.length = ["rows"].length := by rintro vs H Q E ⟨v, n, rfl, _⟩; rfl
def qb3 (K : Fg) : TS :=
 (D8 (J0 (O9 B7) (C3 1))
 (D8 (ql8 (qg7 K (B1 0)) (C3 2)
 (M9 (D5 (tOp wq7 (D9 (V3 K) [] E0 (A9 (B1 1) (A9 (tOp (G5 K) (B1 2) (tC (.int 0))) B7))) (tC .non)))
 (qc8 (tBM K "list" S7 (B1 1) (A9 (B1 2) B7))) G8))
 (I0 (B1 1))))
theorem wr4 (h : Y5 K vs H Q E) : qb3 K { nx := fun _ H' => Q .non H', rt := Q } (I9 ["rows", "counted", "row"] vs) H := by
 obtain ⟨v, rs, rfl, ⟨a, us, rfl, hq, hd⟩, hl, q⟩ := h
 have lus : us.length = rs.length := by have := hd.length; simpa using this
 show qb3 K _ [some (.ref a), none, none] H
 unfold qb3
 refine wy9 (ye7 (yf0 (xn5 ⟨wz9 (by show 0 <= 1000; decide), fun t ft => J9 ?_⟩)))
 refine wy9 (xn4 (xn6 (qm9 rfl ?_)))
 have s0 : A7 H (upd H t (.lst [])) := A7.new ft _
 have turn : ∀ i x σ H', us[i]? = some x -> (∃ xs w, σ = [some (.ref a), some (.ref t), w] /\ A7 H H' /\ H' t = some (.lst xs) /\ Dvs K H' ((B6 (rs.take i)).map Row.da) xs) -> ∀ (D : Q6), (∀ σ' H'', (∃ xs w, σ' = [some (.ref a), some (.ref t), w] /\ A7 H H'' /\ H'' t = some (.lst xs) /\ Dvs K H'' ((B6 (rs.take (i + 1))).map Row.da) xs) -> D.nx σ' H'') ->
  C3 2 x σ H' fun σ2 H2 => (M9 (D5 (tOp wq7 (D9 (V3 K) [] E0 (A9 (B1 1) (A9 (tOp (G5 K) (B1 2) (tC (.int 0))) B7))) (tC .non))) (qc8 (tBM K "list" S7 (B1 1) (A9 (B1 2) B7))) G8) D σ2 H2 := by
  rintro i x σ H' hx ⟨xs, w, rfl, s, ht, hx'⟩ D k
  obtain ⟨d, hd1, hd2⟩ := (Dvs.same s _ _ hd).get' hx
  rw [List.getElem?_map] at hd1
  obtain ⟨r, hr, rfl⟩ := Option.map_eq_some_iff.mp hd1
  have hd2' := hd2
  obtain ⟨b, sv, bv, rfl, hb, hsv, hbv⟩ := Y0 hd2
  have et : rs.take (i + 1) = rs.take i ++ [r] := by rw [List.take_add_one, hr]; rfl
  have lx : xs.length <= 900 := by
   have := hx'.length
   rw [List.length_map] at this
   have h2 := T7 (rs.take i)
   rw [List.length_take] at h2
   omega
  refine J9 ?_
  lk
  refine M0 hb rfl ?_
  lk
  refine ⟨.ref t, some r.name, B6 (rs.take i), rfl, ⟨t, xs, rfl, .inl (SqL.of ht), hx'⟩, fun e => ?_, fun r' u e hu => ?_⟩
  ·lk
   rw [decide_eq_true rfl]
   x_go
   refine xs4 (yu8 (qm9 rfl ⟨.inl ⟨rfl, _, SqL.of ht⟩, xs6 (qm9 rfl (xn5 ?_))⟩))
   refine S2 ht (Nat.lt_of_lt_of_le (by omega : xs.length < 1000) (wz9 (Nat.le_refl _))) ?_
   refine k _ _ ⟨xs ++ [.ref b], _, rfl, yj4 s ft _, A8, ?_⟩
   rw [et, N3, if_pos e, List.map_append]
   exact qv7 (Dvs.tupK (xu0 ht) _ _ (qv6 _) hx') (E6 (Dv.tupK (xu0 ht) _ _ (wh5 _) hd2') G7)
  ·obtain ⟨b', _, _, rfl, _⟩ := Y0 hu
   lk
   rw [decide_eq_false (by simp)]
   refine qz7 (wz0 ?_)
   refine k _ _ ⟨xs, _, rfl, s, ht, ?_⟩
   rw [et, N3, if_neg (by rw [e]; exact fun z => by cases z)]
   exact hx'
 have fin : ∀ σ H', (∃ xs w, σ = [some (.ref a), some (.ref t), w] /\ A7 H H' /\ H' t = some (.lst xs) /\ Dvs K H' ((B6 (rs.take us.length)).map Row.da) xs) -> I0 (B1 1) { nx := fun _ H' => Q .non H', rt := Q } σ H' := by
  rintro σ H' ⟨xs, w, rfl, s, ht, hx'⟩
  rw [lus, List.take_length] at hx'
  exact ye9 (qm9 rfl (q t xs H' s ft ht hx'))
 refine ⟨a, rfl, ?_⟩
 rcases hq with hq | hq
 ·exact .inl ⟨⟨us, s0.sqL hq⟩, ql9 (fun i σ H' => ∃ xs w, σ = [some (.ref a), some (.ref t), w] /\ A7 H H' /\ H' t = some (.lst xs) /\ Dvs K H' ((B6 (rs.take i)).map Row.da) xs) ⟨[], none, rfl, s0, A8, G7⟩ (fun i σ H' _ p => by obtain ⟨_, _, _, s, _⟩ := p; exact s.sqL hq) (fun i x σ H' hx p => turn i x σ H' hx p _ fun _ _ z => z) fin⟩
 ·exact .inr ⟨⟨us, s0.sqT hq⟩, wx3 (fun i σ H' => ∃ xs w, σ = [some (.ref a), some (.ref t), w] /\ A7 H H' /\ H' t = some (.lst xs) /\ Dvs K H' ((B6 (rs.take i)).map Row.da) xs) ⟨[], none, rfl, s0, A8, G7⟩ (fun i σ H' _ p => by obtain ⟨_, _, _, s, _⟩ := p; exact s.sqT hq) (fun i x σ H' hx p => turn i x σ H' hx p _ fun _ _ z => z) fin⟩
variable {H1 H0 : Hp} {a d e c_SORTS : Addr} {D : Q6} {tb : TS} {σ : St} {ds : List PyData} {c : Nat} {r : Row} {z : Str}
section
open PySem.StrLaws PySem.Builtin.Str
theorem G1 (h : n <= 100000) : n <= sizeLine := by rw [sizeLine_eq]; omega
theorem A7.tr {H2 : Hp} (a : A7 H H1) (b : A7 H1 H2) : A7 H H2 := fun c o e => b c o (a c o e)
theorem A7.put (s : A7 H H1) (h : H p = none) (o : HO) : A7 H (upd H1 p o) := fun b u e => by
 have nb : b ≠ p := fun z => by rw [z, h] at e; cases e
 rw [C4 nb]; exact s b u e
theorem qp5 (s : A7 H H') (h : H' p = none) : H p = none := by
 cases e : H p with
 | none => rfl
 | some o => have := s _ _ e; rw [h] at this; cases this
theorem S9 {o : HO} (h : H a = some o) (g : H b = none) : a ≠ b := fun e => by rw [e, g] at h; cases h
theorem xi1 {xs : List V} (h : H d = some (.lst xs)) : xf7 H (upd H d (.lst ys)) :=
 ⟨fun b zs e => by rw [C4 (fun z => by rw [z, h] at e; cases e)]; exact e, fun b o zs e => by rw [C4 (fun z => by rw [z, h] at e; cases e)]; exact e⟩
theorem xi2 {g : TG} {xs : List V} (hq : SqL K H0 a xs \/ SqT K H0 a xs) (s0 : A7 H0 H) (Pv : Nat -> St -> Hp -> Prop) (h0 : Pv 0 σ H) (hk : ∀ i σ H', Pv i σ H' -> A7 H0 H') (hs : ∀ i x σ H, xs[i]? = some x -> Pv i σ H -> g x σ H fun σ2 H2 => tb { D with nx := PAt Pv (i + 1), ct := PAt Pv (i + 1), bk := D.nx } σ2 H2) (hd : ∀ σ H, Pv xs.length σ H -> D.nx σ H) :
 ∃ b, V.ref a = .ref b /\ (((∃ xs, SqL K H b xs) /\ wy7 g tb D σ (Itl K b) H) \/ ((∃ xs, SqT K H b xs) /\ wy7 g tb D σ (Itt K b) H)) := by
 rcases hq with hq | hq
 ·exact ⟨a, rfl, .inl ⟨⟨xs, s0.sqL hq⟩, ql9 Pv h0 (fun i σ H' _ p => (hk i σ H' p).sqL hq) hs hd⟩⟩
 ·exact ⟨a, rfl, .inr ⟨⟨xs, s0.sqT hq⟩, wx3 Pv h0 (fun i σ H' _ p => (hk i σ H' p).sqT hq) hs hd⟩⟩
theorem P0 {g : TG} {tt : TT} {te : TE} {σ' : St} {xs : List V} (hq : SqL K H0 a xs \/ SqT K H0 a xs) (s0 : A7 H0 H) (Pv : Nat -> List V -> Hp -> Prop) (h0 : Pv 0 [] H) (hlen : ∀ i ys H, i <= xs.length -> Pv i ys H -> ys.length <= sizeLine) (hk : ∀ i ys H', Pv i ys H' -> A7 H0 H') (hs : ∀ i x ys H, xs[i]? = some x -> Pv i ys H -> g x σ' H fun σ2 H2 => tt σ2 H2 fun b H3 => if b = true then te σ2 H3 fun y H4 => PAt Pv (i + 1) (ys ++ [y]) H4 else PAt Pv (i + 1) ys H3) (hd : ∀ ys H, Pv xs.length ys H -> ∀ p, H p = none -> Q (.ref p) (upd H p (.lst ys))) :
 ∃ b, V.ref a = .ref b /\ (((∃ xs, SqL K H b xs) /\ qu8 g tt te σ' Q (Itl K b) H) \/ ((∃ xs, SqT K H b xs) /\ qu8 g tt te σ' Q (Itt K b) H)) := by
 rcases hq with hq | hq
 ·exact xy7 (s0.sqL hq) Pv h0 hlen (fun i ys H' _ p => (hk i ys H' p).sqL hq) hs hd
 ·refine ⟨a, rfl, .inr ⟨⟨xs, s0.sqT hq⟩, wy8 (n := xs.length) (fun i x => xs[i]? = some x) Pv h0 hlen (fun i ys H hi p => ?_) (fun i ys H x H' hi p y => ?_) (fun ys H p => ?_) (fun i x ys H _ hx p => hs i x ys H hx p) hd⟩⟩
  ·exact ⟨xs, xs[i], (hk i ys H p).sqT hq, by simp [hi]⟩
  ·exact ⟨y.1, y.2 xs ((hk i ys H p).sqT hq)⟩
  ·exact ⟨xs, (hk _ ys H p).sqT hq, Nat.le_refl _⟩
theorem yj6 (xs : List Str) (x : Str) : B3 xs ++ [V.str x] = B3 (xs ++ [x]) := by simp [B3]
theorem yj7 (h : 1 <= n) : ixN n (-1) = some (n - 1) := by
 unfold ixN
 rw [if_neg (by decide), if_pos (by omega)]
 congr 1
 omega
theorem yr9 {xs : List V} (h : 1 <= xs.length) (e : xs[xs.length - 1]? = some v) : atI xs (-1) = some v := by
 unfold atI
 rw [yj7 h]; exact e
theorem zi0 (h1 : Dv K H (.list ds) (.ref p)) (h2 : H e = some (.lst [])) (h : Q (.bl ds.isEmpty) H) : R1 K (.ref p) (.ref e) H Q := by
 refine yv0 h1 (e := .list []) (M8.mpr ⟨e, [], rfl, SqL.of h2, G7⟩) ?_ ?_
 ·exact Nat.le_trans (Nat.min_le_right _ _) (by decide)
 ·cases ds <;> exact h
theorem yv8 (h1 : Dv K H (.list ds) (.ref p)) (h2 : H e = some (.lst [])) (h : Q (.bl (!ds.isEmpty)) H) : qm7 K (.ref p) (.ref e) H Q := by
 refine xg0 h1 (e := .list []) (M8.mpr ⟨e, [], rfl, SqL.of h2, G7⟩) ?_ ?_
 ·exact Nat.le_trans (Nat.min_le_right _ _) (by decide)
 ·cases ds <;> exact h
theorem ya9 (c : Nat) : c ∈ ("abcdefghijklmnopqrstuvwxyz" : Str).cps.toList ↔ TX.letter c = true := by
 show c ∈ [97, 98, 99, 100, 101, 102, 103, 104, 105, 106, 107, 108, 109, 110, 111, 112, 113, 114, 115, 116, 117, 118, 119, 120, 121, 122] ↔ _
 unfold TX.letter
 simp only [List.mem_cons, List.not_mem_nil, or_false, Bool.and_eq_true, decide_eq_true_eq]
 omega
theorem yj8 (h : Q (.bl (!TX.letter c)) H) : X5 K true (.str ⟨#[c]⟩) (.str "abcdefghijklmnopqrstuvwxyz") H Q := by
 refine .inl (.inr ⟨_, _, rfl, rfl, ?_⟩)
 rw [if_pos rfl, PySem.StrLaws.found_one]
 have e : decide (c ∈ ("abcdefghijklmnopqrstuvwxyz" : Str).cps.toList) = TX.letter c := by
  rw [Bool.eq_iff_iff, decide_eq_true_eq]; exact ya9 c
 rw [e]; exact h
theorem A7.refl' : A7 H H := fun _ _ e => e
theorem qn5 (h : Dv K H r.da v) : ∃ b s t, v = .ref b /\ SqT K H b [.str r.name, .str r.sort, .str r.host, .ref s, .ref t] /\ SqT K H s (B3 r.shuts) /\ SqT K H t (B3 r.bars) := by
 obtain ⟨b, sv, bv, rfl, hb, h1, h2⟩ := Y0 h
 obtain ⟨s, ss, rfl, hs, ds⟩ := L7.mp h1
 obtain ⟨t, ts, rfl, ht, dt⟩ := L7.mp h2
 rw [T9] at ds dt
 subst ds dt
 exact ⟨b, s, t, rfl, hb, hs, ht⟩
theorem wn1 (xs : List Str) : ql6 (B3 xs) (some 1) none = B3 (xs.drop 1) := by
 unfold ql6 B3
 cases xs with
 | nil => rfl
 | cons x xs =>
   rw [<- List.map_drop, <- List.map_take, List.length_map]
   have e1 : HT.sIx (x :: xs).length 0 (some 1) = 1 := by unfold HT.sIx; simp <;> omega
   have e2 : HT.sIx (x :: xs).length (x :: xs).length none = xs.length + 1 := rfl
   rw [e1, e2, List.drop_succ_cons, List.drop_zero, Nat.add_sub_cancel, List.take_length]
structure Sml (r : Row) : Prop where
 n : r.name.length <= 100
 h : r.host.length <= 100
 s : r.shuts.length <= 100 /\ ∀ x ∈ r.shuts, x.length <= 100
 b : r.bars.length <= 100 /\ ∀ x ∈ r.bars, x.length <= 100
def yb0 (z : Str) : Bool := decide (1 <= z.length) && (decide (z.length <= 8) && z.cps.toList.all TX.letter)
def nmX (z : Str) : Bool := yb0 z && !decide (z ∈ ([("shuts" : Str), ("bars" : Str)]))
def ltS (a b : Str) : Bool := decide (a.cps.toList < b.cps.toList)
def wf6 (xs : List Str) : Bool := (xs.zip (xs.drop 1)).all fun p => ltS p.1 p.2
def R6 : List Str := [("bare" : Str), ("plain" : Str), ("anew" : Str), ("room" : Str), ("frame" : Str)]
def xi3 (r : Row) : Bool := nmX r.name && (decide (r.sort ∈ R6) && (if r.sort = ("frame" : Str) then nmX r.host else decide (r.host = ("" : Str))))
theorem yj9 : nmX z = true ↔ zb6 z := by
 unfold nmX yb0
 simp only [Bool.and_eq_true, decide_eq_true_eq, Bool.not_eq_true', decide_eq_false_iff_not, List.all_eq_true, List.mem_cons, List.not_mem_nil, or_false, not_or]
 constructor
 ·rintro ⟨⟨h1, h2, h3⟩, h4, h5⟩
  exact ⟨h1, h2, fun c hc => by have := h3 c hc; unfold TX.letter at this; simpa using this, h4, h5⟩
 ·intro h
  exact ⟨⟨h.one, h.eight, fun c hc => by have := h.low c hc; unfold TX.letter; simpa using this⟩, h.noS, h.noB⟩
def O1 (K : Fg) : Sp := fun vs H Q _ => ∃ z : Str, vs = [.str z] /\ z.length <= 100000 /\ ∀ H', A7 H H' -> Q (.bl (yb0 z)) H'
theorem qh5 (K : Fg) : ∀ vs H Q E, O1 K vs H Q E -> vs.length = ["word"].length := by rintro vs H Q E ⟨z, rfl, _⟩; rfl
def O7 (K : Fg) : TS :=
 (I0 (wd2 (wx5 xn3 xn3 (tC (.int 1)) (tCB (R8 K) (A9 (B1 0) B7)) (tC (.int 8))) (tCB (wv8 K) (A9 (T3 [none] (yp8 (B1 0)) (C3 0) tTT (wx5 xn3 xn3 (tC (.str ("a" : Str))) (B1 0) (tC (.str ("z" : Str))))) B7))))
theorem qj0 (h : O1 K vs H Q E) : O7 K { nx := fun _ H' => Q .non H', rt := Q } (I9 ["word"] vs) H := by
 obtain ⟨z, rfl, hz, q⟩ := h
 unfold yb0 at q
 show O7 K _ [some (.str z)] H
 unfold O7
 lk
 refine xn7 (G1 hz) ?_
 lk
 by_cases h1 : (1 : Int) <= z.length
 ·rw [decide_eq_true h1]
  x_go
  rw [decide_eq_true (by omega : 1 <= z.length), Bool.true_and] at q
  lk
  by_cases h2 : (z.length : Int) <= 8
  ·rw [decide_eq_true h2]
   x_go
   rw [decide_eq_true (by omega : z.length <= 8), Bool.true_and] at q
   lk
   have hl : z.cps.toList.length = z.cps.size := Array.length_toList
   refine xg3 (fun i ys H' => H' = H /\ ys = ((z.cps.toList.take i).map TX.letter).map V.bl) ⟨rfl, rfl⟩ ?_ ?_ ?_
   ·rintro i ys H' hi ⟨_, rfl⟩
    rw [List.length_map, List.length_map, List.length_take]
    exact G1 (by have : z.cps.size <= 100000 := hz; omega)
   ·rintro i c ys H' hc ⟨rfl, rfl⟩
    have tk : z.cps.toList.take (i + 1) = z.cps.toList.take i ++ [c] := by rw [List.take_add_one, hc]; rfl
    lk
    refine yu9 ?_
    have e1 : (!decide ((⟨#[c]⟩ : Str).cps.toList < ("a" : Str).cps.toList)) = decide (97 <= c) := by
     show (!decide ([c] < [97])) = _
     rw [lt_cons_cons, lt_nil_nil, Bool.and_false, Bool.or_false]
     by_cases h : 97 <= c
     ·rw [decide_eq_true h, decide_eq_false (by omega)]; rfl
     ·rw [decide_eq_false h, decide_eq_true (by omega)]; rfl
    have e2 : (!decide (("z" : Str).cps.toList < (⟨#[c]⟩ : Str).cps.toList)) = decide (c <= 122) := by
     show (!decide ([122] < [c])) = _
     rw [lt_cons_cons, lt_nil_nil, Bool.and_false, Bool.or_false]
     by_cases h : c <= 122
     ·rw [decide_eq_true h, decide_eq_false (by omega)]; rfl
     ·rw [decide_eq_false h, decide_eq_true (by omega)]; rfl
    rw [e1]
    refine ⟨_, rfl, ?_⟩
    by_cases hc1 : 97 <= c
    ·rw [decide_eq_true hc1]; refine wy2 ?_
     lk
     refine yu9 ?_
     rw [e2]
     exact ⟨rfl, by rw [tk]; simp [TX.letter, hc1]⟩
    ·rw [decide_eq_false hc1]; refine qz7 ?_
     exact ⟨rfl, by rw [tk]; simp [TX.letter, hc1]⟩
   ·rintro ys H' ⟨rfl, rfl⟩ p hp
    lk
    refine xs9 (SqL.of A8) ?_
    rw [<- hl, List.take_length]
    have e : (z.cps.toList.map TX.letter).all id = z.cps.toList.all TX.letter := by rw [List.all_map]; rfl
    rw [e]
    exact q _ (A7.new hp _)
  ·rw [decide_eq_false h2]
   k_go
   rw [decide_eq_false (by omega : ¬ z.length <= 8), Bool.false_and] at q
   exact q _ (A7.refl H)
 ·rw [decide_eq_false h1]
  k_go
  refine ⟨false, rfl, qz7 ?_⟩
  rw [decide_eq_false (by omega : ¬ 1 <= z.length), Bool.false_and] at q
  exact q _ (A7.refl H)
def S3 (K : Fg) : Sp := fun vs H Q _ => ∃ z : Str, vs = [.str z] /\ z.length <= 100000 /\ ∀ H', A7 H H' -> Q (.bl (nmX z)) H'
theorem xi4 (K : Fg) : ∀ vs H Q E, S3 K vs H Q E -> vs.length = ["word"].length := by rintro vs H Q E ⟨z, rfl, _⟩; rfl
def qp6 (K : Fg) (c_KEYWORDS : Addr) : TS :=
 (I0 (wd2 (D9 (O1 K) [] E0 (A9 (B1 0) B7)) (tOp (X5 K true) (B1 0) (tC (.ref c_KEYWORDS)))))
theorem xp6 {c_KEYWORDS : Addr} (q_KEYWORDS : ∀ H : Hp, SqT K H c_KEYWORDS [.str ("shuts" : Str), .str ("bars" : Str)]) (h : S3 K vs H Q E) : qp6 K c_KEYWORDS { nx := fun _ H' => Q .non H', rt := Q } (I9 ["word"] vs) H := by
 obtain ⟨z, rfl, hz, q⟩ := h
 show qp6 K c_KEYWORDS _ [some (.str z)] H
 unfold qp6
 unfold nmX at q
 lk
 refine ⟨z, rfl, hz, fun H1 s1 => ?_⟩
 refine ⟨_, rfl, ?_⟩
 cases e : yb0 z with
 | false =>
   k_go
   rw [e, Bool.false_and] at q
   exact q H1 s1
 | true =>
   x_go
   rw [e, Bool.true_and] at q
   lk
   refine .inl (qo9 (xs := B3 [("shuts" : Str), ("bars" : Str)]) (.inr (q_KEYWORDS H1)) rfl (N4 _) ?_)
   rw [P6]
   exact q H1 s1
def qb4 (K : Fg) : Sp := fun vs H Q _ => ∃ (a : Addr) (xs : List Str), vs = [.ref a] /\ SqT K H a (B3 xs) /\ xs.length <= 1000 /\ ∀ H', A7 H H' -> Q (.bl (wf6 xs)) H'
theorem wr5 (K : Fg) : ∀ vs H Q E, qb4 K vs H Q E -> vs.length = ["names"].length := by rintro vs H Q E ⟨a, xs, rfl, _⟩; rfl
def qe6 (K : Fg) : TS :=
 (I0 (tCB (wv8 K) (A9 (T3 [none, none] (za6 K (A9 (B1 0) (A9 (tSl (wz2 K) (B1 0) (qa6 (tC (.int 1))) P8) B7))) (xl7 K 2 (qc9 (C3 0) (qc9 (C3 1) xl6))) tTT (tOp wk2 (B1 0) (B1 1))) B7)))
theorem xa1 (h : qb4 K vs H Q E) : qe6 K { nx := fun _ H' => Q .non H', rt := Q } (I9 ["names"] vs) H := by
 obtain ⟨a, xs, rfl, ha, hz, q⟩ := h
 show qe6 K _ [some (.ref a)] H
 unfold qe6
 lk
 refine za8 ?_
 lk
 refine yg4 ha fun p H1 s1 hp => ?_
 rw [wn1] at hp
 lk
 have hl : (B3 xs).length = xs.length := C2 xs
 have hl1 : (B3 (xs.drop 1)).length = xs.length - 1 := by rw [C2, List.length_drop]
 refine yh7 (s1.sqT ha) hp (fun i ys H' => A7 H1 H' /\ ys = (((xs.zip (xs.drop 1)).take i).map fun p => ltS p.1 p.2).map V.bl) ⟨A7.refl', rfl⟩ ?_ ?_ ?_ ?_
 ·rintro i ys H' hi ⟨_, rfl⟩
  rw [List.length_map, List.length_map, List.length_take]
  exact G1 (by omega)
 ·rintro i ys H' ⟨s2, _⟩
  exact ⟨s2.sqT (s1.sqT ha), s2.sqT hp⟩
 ·rintro i x z ys H' t hx hz' ⟨s2, rfl⟩ ht
  obtain ⟨x, hx', rfl⟩ := Q4 hx
  obtain ⟨z, hz'', rfl⟩ := Q4 hz'
  refine ⟨t, _, rfl, SqT.of A8, rfl, _, _, rfl, J9 ⟨_, _, rfl, J9 ⟨rfl, ?_⟩⟩⟩
  lk
  refine zg6 ?_
  refine ⟨A7.tr s2 (A7.new ht _), ?_⟩
  have e : (xs.zip (xs.drop 1))[i]? = some (x, z) := by rw [List.getElem?_zip_eq_some]; exact ⟨hx', hz''⟩
  rw [List.take_add_one, e, List.map_append, List.map_append]
  rfl
 ·rintro ys H' ⟨s2, rfl⟩ c hc
  lk
  refine xs9 (SqL.of A8) ?_
  have e : min (B3 xs).length (B3 (xs.drop 1)).length = (xs.zip (xs.drop 1)).length := by rw [List.length_zip, C2, C2]
  rw [e, List.take_length, List.all_map]
  exact q _ (A7.tr s1 (A7.tr s2 (A7.new hc _)))
abbrev xa2 (K : Fg) : TS :=
 (I0 (tIf (D5 (tOp (R1 K) (tOp (G5 K) (B1 0) (tC (.int 1))) (tC (.str ("frame" : Str))))) (D9 (S3 K) [] E0 (A9 (tOp (G5 K) (B1 0) (tC (.int 2))) B7)) (tOp (R1 K) (tOp (G5 K) (B1 0) (tC (.int 2))) (tC (.str ("" : Str))))))
def qe7 (K : Fg) : Sp := fun vs H Q _ => ∃ (v : V) (r : Row), vs = [v] /\ Dv K H r.da v /\ Sml r /\ ∀ H', A7 H H' -> Q (.bl (xi3 r)) H'
theorem xa3 (K : Fg) : ∀ vs H Q E, qe7 K vs H Q E -> vs.length = ["row"].length := by rintro vs H Q E ⟨v, r, rfl, _⟩; rfl
def qj1 (K : Fg) (c_SORTS : Addr) : TS :=
 (D8 (M9 (tOr (wi8 (tB (D9 (S3 K) [] E0 (A9 (tOp (G5 K) (B1 0) (tC (.int 0))) B7)))) (D5 (tOp (X5 K true) (tOp (G5 K) (B1 0) (tC (.int 1))) (tC (.ref c_SORTS)))))
 (I0 (tC (.bl false))) G8)
 (xa2 K))
theorem xi5 (q_SORTS : ∀ H : Hp, SqT K H c_SORTS [.str ("bare" : Str), .str ("plain" : Str), .str ("anew" : Str), .str ("room" : Str), .str ("frame" : Str)]) (h : qe7 K vs H Q E) : qj1 K c_SORTS { nx := fun _ H' => Q .non H', rt := Q } (I9 ["row"] vs) H := by
 obtain ⟨v, r, rfl, hd, hS, q⟩ := h
 obtain ⟨b, s, t, rfl, hb, hs, ht⟩ := qn5 hd
 show qj1 K c_SORTS _ [some (.ref b)] H
 unfold qj1
 unfold xi3 at q
 have hn := hS.n
 have hh := hS.h
 lk
 refine M0 hb (v := .str r.name) (C5 (j := 0) rfl) ?_
 refine ⟨r.name, rfl, by omega, fun H1 s1 => ?_⟩
 have hb1 := s1.sqT hb
 refine ⟨_, rfl, ?_⟩
 cases e : nmX r.name with
 | false =>
   x_go
   lk
   rw [e, Bool.false_and] at q
   exact q H1 s1
 | true =>
   k_go
   lk
   refine M0 hb1 (v := .str r.sort) (C5 (j := 1) rfl) ?_
   lk
   refine .inl (qo9 (xs := B3 R6) (.inr (q_SORTS H1)) rfl (N4 _) ?_)
   rw [P6]
   lk
   rw [e, Bool.true_and] at q
   by_cases hm : r.sort ∈ R6
   ·rw [decide_eq_true hm]
    k_go
    rw [decide_eq_true hm, Bool.true_and] at q
    lk
    refine M0 hb1 (v := .str r.sort) (C5 (j := 1) rfl) ?_
    lk
    by_cases hf : r.sort = ("frame" : Str)
    ·rw [decide_eq_true hf]
     x_go
     rw [if_pos hf] at q
     lk
     refine M0 hb1 (v := .str r.host) (C5 (j := 2) rfl) ?_
     exact ⟨r.host, rfl, by omega, fun H2 s2 => q H2 (A7.tr s1 s2)⟩
    ·rw [decide_eq_false hf]
     k_go
     rw [if_neg hf] at q
     lk
     refine M0 hb1 (v := .str r.host) (C5 (j := 2) rfl) ?_
     lk
     exact q H1 s1
   ·rw [decide_eq_false hm]
    x_go
    rw [decide_eq_false hm, Bool.false_and] at q
    lk
    exact q H1 s1
end
variable {rs : List Row}
theorem Rws.same (h : Rws K H v rs) (s : A7 H H') : Rws K H' v rs := by
 obtain ⟨a, us, rfl, hq, hd⟩ := h
 exact ⟨a, us, rfl, hq.imp s.sqL s.sqT, Dvs.same s _ _ hd⟩
def inO (o : Option Str) (xs : List Str) : Bool := match o with | none => false | some x => decide (x ∈ xs)
theorem yk0 (o : Option Str) (xs : List Str) : inV (oV o) (B3 xs) = inO o xs := by
 cases o with
 | some x => exact P6 x xs
 | none =>
   show inV .non (B3 xs) = false
   induction xs with
   | nil => rfl
   | cons x xs ih =>
     show inV .non (V.str x :: B3 xs) = false
     unfold inV at ih ⊢
     rw [List.any_cons, ih]
     rfl
theorem xu1 (o : Option Str) : qe3 (oV o) = true := by cases o <;> rfl
def qa2 : List Str := [("plain" : Str), ("anew" : Str)]
def qa9 : List Str := [("plain" : Str), ("frame" : Str)]
def wr6 (rs : List Row) (xs : List Str) : Bool := wf6 xs && xs.all fun x => inO (E8 rs (some x)) qa2
def wn2 (rs : List Row) (r : Row) : Bool := if 0 < r.shuts.length /\ frameOf rs (some r.name) ≠ none then false else decide ((r.shuts.filter fun x => decide (frameOf rs (some x) ≠ none)).length = 0) && wr6 rs r.shuts
def wn3 (rs : List Row) (r : Row) : Bool := if r.sort = ("frame" : Str) then (if inO (E8 rs (some r.host)) qa9 = true /\ qa8 rs r.name rs.length (E7 rs (some r.name)) = false then decide (frameOf rs (some r.host) = some r.name) else false) else true
def wr7 (rs : List Row) (r : Row) : Bool := wn3 rs r && (wn2 rs r && wr6 rs r.bars)
def wf7 (rs : List Row) : Prop := ∀ (i : Nat) (r : Row), rs[i]? = some r -> O2 (rs.take i) (some r.name) = none /\ wr7 (B6 rs) r = true
def R3 (K : Fg) : Sp := fun vs H Q _ => ∃ (v : V) (a : Addr) (rs : List Row) (xs : List Str), vs = [v, .ref a] /\ Rws K H v rs /\ SqT K H a (B3 xs) /\ xs.length <= 1000 /\ ∀ H', A7 H H' -> Q (.bl (wr6 rs xs)) H'
theorem wa9 (K : Fg) : ∀ vs H Q E, R3 K vs H Q E -> vs.length = ["rows", "names"].length := by rintro vs H Q E ⟨v, a, rs, xs, rfl, _⟩; rfl
def V7 (K : Fg) (c_SHUT_OR_BARRED_SORTS : Addr) : TS :=
 (I0 (wd2 (D9 (qb4 K) [] E0 (A9 (B1 1) B7)) (tCB (wv8 K) (A9 (T3 [some 0, none] (qg7 K (B1 1)) (C3 1) tTT (tOp (X5 K false) (D9 (qd3 K) [] E0 (A9 (B1 0) (A9 (B1 1) B7))) (tC (.ref c_SHUT_OR_BARRED_SORTS)))) B7))))
theorem wf8 {c_SHUT_OR_BARRED_SORTS : Addr} (q_SHUT_OR_BARRED_SORTS : ∀ H : Hp, SqT K H c_SHUT_OR_BARRED_SORTS [.str ("plain" : Str), .str ("anew" : Str)]) (h : R3 K vs H Q E) : V7 K c_SHUT_OR_BARRED_SORTS { nx := fun _ H' => Q .non H', rt := Q } (I9 ["rows", "names"] vs) H := by
 obtain ⟨v, a, rs, xs, rfl, hR, ha, hz, q⟩ := h
 show V7 K c_SHUT_OR_BARRED_SORTS _ [some v, some (.ref a)] H
 unfold V7
 unfold wr6 at q
 lk
 refine ⟨a, xs, rfl, ha, hz, fun H1 s1 => ?_⟩
 refine ⟨_, rfl, ?_⟩
 cases e : wf6 xs with
 | false =>
   k_go
   rw [e, Bool.false_and] at q
   exact q H1 s1
 | true =>
   x_go
   rw [e, Bool.true_and] at q
   lk
   refine P0 (.inr (s1.sqT ha)) A7.refl' (fun i ys H' => A7 H1 H' /\ ys = ((xs.take i).map fun x => inO (E8 rs (some x)) qa2).map V.bl) ⟨A7.refl', rfl⟩ ?_ (fun i ys H' p => p.1) ?_ ?_
   ·rintro i ys H' hi ⟨_, rfl⟩
    rw [List.length_map, List.length_map, List.length_take]
    exact G1 (by omega)
   ·rintro i x ys H' hx ⟨s2, rfl⟩
    obtain ⟨x, hx', rfl⟩ := Q4 hx
    lk
    refine ⟨v, some x, rs, rfl, (hR.same s1).same s2, ?_⟩
    lk
    refine .inl (wa2 (xs := B3 qa2) (.inr (q_SHUT_OR_BARRED_SORTS H')) (xu1 _) (N4 _) ?_)
    rw [yk0]
    refine ⟨s2, ?_⟩
    rw [List.take_add_one, hx', List.map_append, List.map_append]
    rfl
   ·rintro ys H' ⟨s2, rfl⟩ c hc
    lk
    refine xs9 (SqL.of A8) ?_
    rw [C2, List.take_length, List.all_map]
    exact q _ (A7.tr s1 (A7.tr s2 (A7.new hc _)))
def qe8 (K : Fg) : Sp := fun vs H Q _ => ∃ (v w : V) (rs : List Row) (r : Row), vs = [v, w] /\ Rws K H v rs /\ Dv K H r.da w /\ Sml r /\ ∀ H', A7 H H' -> Q (.bl (wr6 rs r.bars)) H'
theorem xa4 (K : Fg) : ∀ vs H Q E, qe8 K vs H Q E -> vs.length = ["rows", "row"].length := by rintro vs H Q E ⟨v, w, rs, r, rfl, _⟩; rfl
def qj2 (K : Fg) : TS :=
 (I0 (D9 (R3 K) [] E0 (A9 (B1 0) (A9 (tOp (G5 K) (B1 1) (tC (.int 4))) B7))))
theorem xi6 (h : qe8 K vs H Q E) : qj2 K { nx := fun _ H' => Q .non H', rt := Q } (I9 ["rows", "row"] vs) H := by
 obtain ⟨v, w, rs, r, rfl, hR, hd, hS, q⟩ := h
 obtain ⟨b, s, t, rfl, hb, hs, ht⟩ := qn5 hd
 show qj2 K _ [some v, some (.ref b)] H
 unfold qj2
 have hB := hS.b
 lk
 refine M0 hb (v := .ref t) (C5 (j := 4) rfl) ?_
 exact ⟨v, t, rs, r.bars, rfl, hR, ht, by omega, q⟩
abbrev wr8 (K : Fg) : TS :=
 (I0 (wd2 (tOp (R1 K) (tCB (R8 K) (A9 (B1 2) B7)) (tC (.int 0))) (D9 (R3 K) [] E0 (A9 (B1 0) (A9 (tOp (G5 K) (B1 1) (tC (.int 3))) B7)))))
def shT (K : Fg) : TS :=
 (D8 (J0 (T3 [some 0, none] (qg7 K (tOp (G5 K) (B1 1) (tC (.int 3)))) (C3 1) (D5 (tOp qi5 (D9 (V4 K) [] E0 (A9 (B1 0) (A9 (B1 1) B7))) (tC .non))) (B1 1)) (C3 2))
 (wr8 K))
variable {s t : Addr}
theorem zi1 (hR : Rws K H v rs) (hb : SqT K H b [.str r.name, .str r.sort, .str r.host, .ref s, .ref t]) (hs : SqT K H s (B3 r.shuts)) (hB : r.shuts.length <= 100) (q : ∀ H', A7 H H' -> D.rt (.bl (decide ((r.shuts.filter fun x => decide (frameOf rs (some x) ≠ none)).length = 0) && wr6 rs r.shuts)) H') : shT K D [some v, some (.ref b), none] H := by
 unfold shT
 lk
 refine M0 hb (v := .ref s) (C5 (j := 3) rfl) ?_
 refine P0 (.inr hs) A7.refl' (fun i ys H' => A7 H H' /\ ys = B3 ((r.shuts.take i).filter fun x => decide (frameOf rs (some x) ≠ none))) ⟨A7.refl', rfl⟩ ?_ (fun i ys H' p => p.1) ?_ ?_
 ·rintro i ys H' hi ⟨_, rfl⟩
  have := List.length_filter_le (fun x => decide (frameOf rs (some x) ≠ none)) (r.shuts.take i)
  rw [List.length_take] at this
  rw [C2]
  exact G1 (by omega)
 ·rintro i x ys H' hx ⟨s2, rfl⟩
  obtain ⟨x, hx', rfl⟩ := Q4 hx
  lk
  refine ⟨v, some x, rs, rfl, hR.same s2, ?_⟩
  lk
  have et : r.shuts.take (i + 1) = r.shuts.take i ++ [x] := by rw [List.take_add_one, hx']; rfl
  cases e : frameOf rs (some x) with
  | none =>
    k_go
    refine ⟨s2, ?_⟩
    rw [et, List.filter_append]
    simp [e]
  | some y =>
    x_go
    lk
    refine ⟨s2, ?_⟩
    rw [et, List.filter_append]
    simp [e, B3]
 ·rintro ys H' ⟨s2, rfl⟩ c hc
  rw [C2, List.take_length]
  have s3 := A7.tr s2 (A7.new hc (.lst (B3 (r.shuts.filter fun x => decide (frameOf rs (some x) ≠ none)))))
  have e3 : (upd H' c (.lst (B3 (r.shuts.filter fun x => decide (frameOf rs (some x) ≠ none))))) c = some (.lst (B3 (r.shuts.filter fun x => decide (frameOf rs (some x) ≠ none)))) := A8
  generalize upd H' c (.lst (B3 (r.shuts.filter fun x => decide (frameOf rs (some x) ≠ none)))) = H3 at *
  generalize r.shuts.filter (fun x => decide (frameOf rs (some x) ≠ none)) = fs at *
  lk
  refine R5 (.inl (SqL.of e3)) ?_
  rw [C2]
  lk
  by_cases hf : fs.length = 0
  ·rw [decide_eq_true (show ((fs.length : Nat) : Int) = 0 by omega)]
   x_go
   rw [decide_eq_true hf, Bool.true_and] at q
   lk
   refine M0 (s3.sqT hb) (v := .ref s) (C5 (j := 3) rfl) ?_
   exact ⟨v, s, rs, r.shuts, rfl, hR.same s3, s3.sqT hs, by omega, fun H4 s4 => q H4 (A7.tr s3 s4)⟩
  ·rw [decide_eq_false (show ¬ ((fs.length : Nat) : Int) = 0 by omega)]
   k_go
   rw [decide_eq_false hf, Bool.false_and] at q
   exact q H3 s3
def qb5 (K : Fg) : Sp := fun vs H Q _ => ∃ (v w : V) (rs : List Row) (r : Row), vs = [v, w] /\ Rws K H v rs /\ Dv K H r.da w /\ Sml r /\ ∀ H', A7 H H' -> Q (.bl (wn2 rs r)) H'
theorem wr9 (K : Fg) : ∀ vs H Q E, qb5 K vs H Q E -> vs.length = ["rows", "row"].length := by rintro vs H Q E ⟨v, w, rs, r, rfl, _⟩; rfl
def qe9 (K : Fg) : TS :=
 (D8 (M9 (wi7 (D5 (tOp xy5 (tCB (R8 K) (A9 (tOp (G5 K) (B1 1) (tC (.int 3))) B7)) (tC (.int 0)))) (D5 (tOp qi5 (D9 (V4 K) [] E0 (A9 (B1 0) (A9 (tOp (G5 K) (B1 1) (tC (.int 0))) B7))) (tC .non))))
 (I0 (tC (.bl false))) G8)
 (shT K))
theorem xa5 (h : qb5 K vs H Q E) : qe9 K { nx := fun _ H' => Q .non H', rt := Q } (I9 ["rows", "row", "hosts"] vs) H := by
 obtain ⟨v, w, rs, r, rfl, hR, hd, hS, q⟩ := h
 obtain ⟨b, s, t, rfl, hb, hs, ht⟩ := qn5 hd
 show qe9 K _ [some v, some (.ref b), none] H
 unfold qe9
 unfold wn2 at q
 have hB := hS.s
 lk
 refine M0 hb (v := .ref s) (C5 (j := 3) rfl) ?_
 lk
 refine R5 (.inr hs) ?_
 rw [C2]
 lk
 by_cases h0 : 0 < r.shuts.length
 ·rw [decide_eq_true (show (0 : Int) < (r.shuts.length : Nat) by omega)]
  x_go
  lk
  refine M0 hb (v := .str r.name) (C5 (j := 0) rfl) ?_
  refine ⟨v, some r.name, rs, rfl, hR, ?_⟩
  lk
  cases e : frameOf rs (some r.name) with
  | none =>
    k_go
    lk
    have hn : ¬ (0 < r.shuts.length /\ frameOf rs (some r.name) ≠ none) := fun z => z.2 e
    rw [if_neg hn] at q
    exact zi1 hR hb hs hB.1 q
  | some y =>
    x_go
    lk
    rw [if_pos ⟨h0, by rw [e]; simp⟩] at q
    exact q H A7.refl'
 ·rw [decide_eq_false (show ¬ (0 : Int) < (r.shuts.length : Nat) by omega)]
  k_go
  lk
  have hn : ¬ (0 < r.shuts.length /\ frameOf rs (some r.name) ≠ none) := fun z => h0 z.1
  rw [if_neg hn] at q
  exact zi1 hR hb hs hB.1 q
abbrev ws0 (K : Fg) : TS :=
 (I0 (tOp (R1 K) (D9 (V4 K) [] E0 (A9 (B1 0) (A9 (tOp (G5 K) (B1 1) (tC (.int 2))) B7))) (tOp (G5 K) (B1 1) (tC (.int 0)))))
abbrev ws1 (K : Fg) (c_HOST_SORTS : Addr) : TS :=
 (D8 (M9 (tOr (D5 (tOp (X5 K true) (D9 (qd3 K) [] E0 (A9 (B1 0) (A9 (tOp (G5 K) (B1 1) (tC (.int 2))) B7))) (tC (.ref c_HOST_SORTS)))) (tB (D9 (Y4 K) [] E0 (A9 (B1 0) (A9 (tOp (G5 K) (B1 1) (tC (.int 0))) B7)))))
 (I0 (tC (.bl false))) G8)
 (ws0 K))
def qb6 (K : Fg) : Sp := fun vs H Q _ => ∃ (v w : V) (rs : List Row) (r : Row), vs = [v, w] /\ Rws K H v rs /\ rs.length <= 900 /\ Dv K H r.da w /\ Sml r /\ ∀ H', A7 H H' -> Q (.bl (wn3 rs r)) H'
theorem ws4 (K : Fg) : ∀ vs H Q E, qb6 K vs H Q E -> vs.length = ["rows", "row"].length := by rintro vs H Q E ⟨v, w, rs, r, rfl, _⟩; rfl
def qf0 (K : Fg) (c_HOST_SORTS : Addr) : TS :=
 (D8 (M9 (D5 (tOp (qm7 K) (tOp (G5 K) (B1 1) (tC (.int 1))) (tC (.str ("frame" : Str)))))
 (I0 (tC (.bl true))) G8)
 (ws1 K c_HOST_SORTS))
theorem xa6 {c_HOST_SORTS : Addr} (q_HOST_SORTS : ∀ H : Hp, SqT K H c_HOST_SORTS [.str ("plain" : Str), .str ("frame" : Str)]) (h : qb6 K vs H Q E) : qf0 K c_HOST_SORTS { nx := fun _ H' => Q .non H', rt := Q } (I9 ["rows", "row"] vs) H := by
 obtain ⟨v, w, rs, r, rfl, hR, hz, hd, hS, q⟩ := h
 obtain ⟨b, s, t, rfl, hb, hs, ht⟩ := qn5 hd
 show qf0 K c_HOST_SORTS _ [some v, some (.ref b)] H
 unfold qf0
 unfold wn3 at q
 lk
 refine M0 hb (v := .str r.sort) (C5 (j := 1) rfl) ?_
 lk
 by_cases hf : r.sort = ("frame" : Str)
 ·rw [decide_eq_true hf]
  k_go
  rw [if_pos hf] at q
  lk
  refine M0 hb (v := .str r.host) (C5 (j := 2) rfl) ?_
  refine ⟨v, some r.host, rs, rfl, hR, ?_⟩
  lk
  refine .inl (qo9 (xs := B3 qa9) (.inr (q_HOST_SORTS H)) (xu1 _) (N4 _) ?_)
  rw [yk0]
  lk
  cases e1 : inO (E8 rs (some r.host)) qa9 with
  | false =>
    x_go
    lk
    rw [if_neg (fun z => by rw [e1] at z; exact Bool.false_ne_true z.1)] at q
    exact q H A7.refl'
  | true =>
    k_go
    lk
    refine M0 hb (v := .str r.name) (C5 (j := 0) rfl) ?_
    refine ⟨v, r.name, rs, rfl, hR, by omega, ?_⟩
    refine ⟨_, rfl, ?_⟩
    cases e2 : qa8 rs r.name rs.length (E7 rs (some r.name)) with
    | true =>
      x_go
      lk
      rw [if_neg (fun z => by rw [e2] at z; exact absurd z.2 (by decide))] at q
      exact q H A7.refl'
    | false =>
      k_go
      lk
      refine M0 hb (v := .str r.host) (C5 (j := 2) rfl) ?_
      refine ⟨v, some r.host, rs, rfl, hR, ?_⟩
      lk
      refine M0 hb (v := .str r.name) (C5 (j := 0) rfl) ?_
      refine yj5 ?_
      rw [if_pos ⟨e1, e2⟩] at q
      exact q H A7.refl'
 ·rw [decide_eq_false hf]
  x_go
  rw [if_neg hf] at q
  lk
  exact q H A7.refl'
def wh6 (K : Fg) : Sp := fun vs H Q _ => ∃ (v w : V) (rs : List Row) (r : Row), vs = [v, w] /\ Rws K H v rs /\ rs.length <= 900 /\ Dv K H r.da w /\ Sml r /\ ∀ H', A7 H H' -> Q (.bl (wr7 rs r)) H'
theorem yk1 (K : Fg) : ∀ vs H Q E, wh6 K vs H Q E -> vs.length = ["rows", "row"].length := by rintro vs H Q E ⟨v, w, rs, r, rfl, _⟩; rfl
def xa7 (K : Fg) : TS :=
 (I0 (wd2 (D9 (qb6 K) [] E0 (A9 (B1 0) (A9 (B1 1) B7))) (wd2 (D9 (qb5 K) [] E0 (A9 (B1 0) (A9 (B1 1) B7))) (D9 (qe8 K) [] E0 (A9 (B1 0) (A9 (B1 1) B7))))))
theorem ys0 (h : wh6 K vs H Q E) : xa7 K { nx := fun _ H' => Q .non H', rt := Q } (I9 ["rows", "row"] vs) H := by
 obtain ⟨v, w, rs, r, rfl, hR, hz, hd, hS, q⟩ := h
 show xa7 K _ [some v, some w] H
 unfold xa7
 unfold wr7 at q
 lk
 refine ⟨v, w, rs, r, rfl, hR, hz, hd, hS, fun H1 s1 => ?_⟩
 refine ⟨_, rfl, ?_⟩
 cases e : wn3 rs r with
 | false =>
   k_go
   rw [e, Bool.false_and] at q
   exact q H1 s1
 | true =>
   x_go
   rw [e, Bool.true_and] at q
   lk
   refine ⟨v, w, rs, r, rfl, hR.same s1, Dv.same s1 _ _ hd, hS, fun H2 s2 => ?_⟩
   refine ⟨_, rfl, ?_⟩
   have s12 := A7.tr s1 s2
   cases e : wn2 rs r with
   | false =>
     k_go
     rw [e, Bool.false_and] at q
     exact q H2 s12
   | true =>
     x_go
     rw [e, Bool.true_and] at q
     lk
     exact ⟨v, w, rs, r, rfl, hR.same s12, Dv.same s12 _ _ hd, hS, fun H3 s3 => q H3 (A7.tr s12 s3)⟩
theorem xa8 (h : i <= vs.length) : ql6 vs none (some (i : Int)) = vs.take i := by
 unfold ql6
 have e1 : HT.sIx vs.length 0 none = 0 := rfl
 have e2 : HT.sIx vs.length vs.length (some (i : Int)) = i := by
  show (if (i : Int) < 0 then ((i : Int) + vs.length).toNat else min (i : Int).toNat vs.length) = i
  rw [if_neg (by omega)]; omega
 rw [e1, e2]; simp
variable {us : List V}
theorem qv8 (h : Dvs K H ds us) (i : Nat) : Dvs K H (ds.take i) (us.take i) := by
 induction i generalizing ds us with
 | zero => rw [List.take_zero, List.take_zero]; exact G7
 | succ i ih =>
   cases ds with
   | nil => rw [Dvs] at h; subst h; rw [List.take_nil, List.take_nil]; exact G7
   | cons d ds =>
     rw [Dvs] at h
     obtain ⟨v, r, rfl, h1, h2⟩ := h
     exact E6 h1 (ih h2)
def ws5 (rs : List Row) (i : Nat) : Prop := ∀ r, rs[i]? = some r -> O2 (rs.take i) (some r.name) = none /\ wr7 (B6 rs) r = true
structure wf9 (rs : List Row) (i : Nat) : Prop where
 lt : i < rs.length
 bad : ¬ ws5 rs i
 ok : ∀ j, j < i -> ws5 rs j
theorem xu2 : wf7 rs ↔ ∀ i, ws5 rs i := ⟨fun h i r hr => h i r hr, fun h i r hr => h i r hr⟩
variable {j : Nat}
theorem wf9.uniq (h1 : wf9 rs i) (h2 : wf9 rs j) : i = j := by
 rcases Nat.lt_trichotomy i j with h | h | h
 ·exact absurd (h2.ok i h) h1.bad
 ·exact h
 ·exact absurd (h1.ok j h) h2.bad
theorem wf9.not (h : wf9 rs i) : ¬ wf7 rs := fun m => h.bad (xu2.mp m i)
inductive Mis (K : Fg) (H0 : Hp) (a c : Addr) (rs : List Row) (i : Nat) : St -> Hp -> Prop
 | mk {H' : Hp} {a2 a3 a4 : Option V} (s : A7 H0 H') (g : ∀ (j : Nat) (r : Row), j < i -> rs[j]? = some r -> O2 (rs.take j) (some r.name) = none /\ wr7 (B6 rs) r = true) : Mis K H0 a c rs i [some (.ref a), some (.ref c), a2, a3, a4] H'
def fmT (K : Fg) : TS :=
 (M9 (tOr (tB (B1 4)) (wi8 (tB (D9 (wh6 K) [] E0 (A9 (B1 1) (A9 (B1 3) B7))))))
 (I0 (B1 2)) G8)
theorem ys3 {c : Addr} {c0 : Bool} (hr : rs[i]? = some r) (hC : Rws K H (.ref c) (B6 rs)) (hz : (B6 rs).length <= 900) (hd3 : Dv K H r.da (.ref b)) (hS : Sml r) (hc0 : c0 = false ↔ O2 (rs.take i) (some r.name) = none) (qi : ∀ H', A7 H H' -> ¬ ws5 rs i -> D.rt (.int i) H') (qn : ∀ H', A7 H H' -> O2 (rs.take i) (some r.name) = none -> wr7 (B6 rs) r = true -> D.nx [some (.ref a), some (.ref c), some (.int i), some (.ref b), some (.bl c0)] H') :
 fmT K D [some (.ref a), some (.ref c), some (.int i), some (.ref b), some (.bl c0)] H := by
 unfold fmT
 cases c0 with
 | true =>
   lk
   refine qi _ A7.refl' fun m => ?_
   have := hc0.mpr (m r hr).1
   cases this
 | false =>
   have hrn := hc0.mp rfl
   lk
   refine ⟨.ref c, .ref b, B6 rs, r, rfl, hC, hz, hd3, hS, fun H4 s4 => ?_⟩
   refine ⟨_, rfl, ?_⟩
   cases e : wr7 (B6 rs) r with
   | false =>
     x_go
     lk
     refine qi _ s4 fun m => ?_
     have := (m r hr).2
     rw [e] at this; cases this
   | true =>
     k_go
     lk
     exact qn _ s4 hrn e
abbrev wb0 (K : Fg) : TS :=
 (D8 (J0 (tOp qi5 (D9 (V3 K) [] E0 (A9 (tSl (wz2 K) (B1 0) P8 (qa6 (B1 2))) (A9 (tOp (G5 K) (B1 3) (tC (.int 0))) B7))) (tC .non)) (C3 4))
 (fmT K))
abbrev wb1 (K : Fg) : TS :=
 (D8 (ql8 (yi8 K (A9 (B1 0) B7)) (xl7 K 2 (qc9 (C3 2) (qc9 (C3 3) xl6)))
 (wb0 K))
 (I0 (tC .non)))
def P1 (K : Fg) : Sp := fun vs H Q _ => ∃ (a : Addr) (us : List V) (rs : List Row), vs = [.ref a] /\ (SqL K H a us \/ SqT K H a us) /\ Dvs K H (rs.map Row.da) us /\ rs.length <= 900 /\ (∀ r ∈ rs, Sml r) /\ (∀ H', A7 H H' -> wf7 rs -> Q .non H') /\ ∀ (i : Nat) H', A7 H H' -> wf9 rs i -> Q (.int i) H'
theorem wb2 (K : Fg) : ∀ vs H Q E, P1 K vs H Q E -> vs.length = ["rows"].length := by rintro vs H Q E ⟨a, us, rs, rfl, _⟩; rfl
def V8 (K : Fg) : TS :=
 (D8 (J0 (D9 (Y5 K) [] E0 (A9 (B1 0) B7)) (C3 1))
 (wb1 K))
theorem wg0 (h : P1 K vs H Q E) : V8 K { nx := fun _ H' => Q .non H', rt := Q } (I9 ["rows", "counted", "number", "row", "told_before"] vs) H := by
 obtain ⟨a, us, rs, rfl, hq, hd, hz, hS, qn, qi⟩ := h
 have lus : us.length = rs.length := by have := hd.length; simpa using this
 show V8 K _ [some (.ref a), none, none, none, none] H
 unfold V8
 lk
 rcases hq with hq | hq
 ·refine ⟨.ref a, rs, rfl, ⟨a, us, rfl, .inl hq, hd⟩, hz, fun c cs H1 s1 nc hc hcd => ?_⟩
  have hcl := T7 rs
  lk
  refine .inl (qv2 ?_)
  lk
  refine qp2 (s1.sqL hq) (Mis K H1 a c rs) (.mk A7.refl' fun j r hj => absurd hj (Nat.not_lt_zero _)) (fun i σ H' p => by cases p with | mk s g => exact s.sqL (s1.sqL hq)) ?_ ?_
  ·rintro i x σ H' p hx ⟨s, g⟩ hp
   rename_i a2 a3 a4
   have s2 := A7.tr s (A7.new hp (.tup [.int i, x]))
   obtain ⟨d, hd1, hd2⟩ := (Dvs.same (A7.tr s1 s2) _ _ hd).get' hx
   rw [List.getElem?_map] at hd1
   obtain ⟨r, hr, rfl⟩ := Option.map_eq_some_iff.mp hd1
   have hi : i < rs.length := (List.getElem?_eq_some_iff.mp hr).1
   refine ⟨p, _, rfl, SqT.of A8, rfl, _, _, rfl, J9 ⟨_, _, rfl, J9 ⟨rfl, ?_⟩⟩⟩
   generalize upd H' p (.tup [.int i, x]) = H2 at *
   have s02 := A7.tr s1 s2
   lk
   refine .inl (qu9 (s02.sqL hq) fun t ht0 => ?_)
   rw [xa8 (by omega)]
   have s3 := A7.new ht0 (.lst (us.take i))
   have ht : (upd H2 t (.lst (us.take i))) t = some (.lst (us.take i)) := A8
   generalize upd H2 t (.lst (us.take i)) = H3 at *
   have s03 := A7.tr s02 s3
   lk
   obtain ⟨b, s', t', rfl, hb, _, _⟩ := qn5 hd2
   refine M0 (s3.sqT hb) (v := .str r.name) (C5 (j := 0) rfl) ?_
   have hdt := qv8 (Dvs.same s03 _ _ hd) i
   rw [<- List.map_take] at hdt
   have hd3 := Dv.same s3 _ _ hd2
   have s23 := A7.tr s2 s3
   have hC : Rws K H3 (.ref c) (B6 rs) := ⟨c, cs, rfl, .inl (SqL.of (s23 _ _ hc)), Dvs.same s23 _ _ hcd⟩
   refine ⟨.ref t, some r.name, rs.take i, rfl, ⟨t, _, rfl, .inl (SqL.of ht), hdt⟩, fun e => ?_, fun r' u e hu => ?_⟩
   ·lk
    refine ys3 hr hC (by omega) hd3 (hS r (List.mem_of_getElem? hr)) ⟨fun _ => e, fun _ => rfl⟩ (fun H' s m => qi i H' (A7.tr s03 s) ⟨hi, m, fun j hj r2 hr2 => g j r2 hj hr2⟩) fun H4 s4 h1 h2 => .mk (A7.tr s23 s4) fun j r2 hj hr2 => ?_
    rcases Nat.lt_or_ge j i with hlt | hge
    ·exact g j r2 hlt hr2
    ·have ej : j = i := by omega
     subst ej
     rw [hr] at hr2; cases hr2
     exact ⟨h1, h2⟩
   ·obtain ⟨b', _, _, rfl, _⟩ := qn5 hu
    lk
    exact ys3 hr hC (by omega) hd3 (hS r (List.mem_of_getElem? hr)) ⟨fun z => (by cases z), fun z => by rw [e] at z; cases z⟩ (fun H' s m => qi i H' (A7.tr s03 s) ⟨hi, m, fun j hj r2 hr2 => g j r2 hj hr2⟩) fun H4 s4 h1 h2 => by rw [e] at h1; cases h1
  ·rintro σ H' ⟨s, g⟩
   lk
   exact qn H' (A7.tr s1 s) fun j r hr => g j r (by rw [lus]; exact (List.getElem?_eq_some_iff.mp hr).1) hr
 ·refine ⟨.ref a, rs, rfl, ⟨a, us, rfl, .inr hq, hd⟩, hz, fun c cs H1 s1 nc hc hcd => ?_⟩
  have hcl := T7 rs
  lk
  refine .inr (xg5 ?_)
  lk
  refine xz4 (s1.sqT hq) (Mis K H1 a c rs) (.mk A7.refl' fun j r hj => absurd hj (Nat.not_lt_zero _)) (fun i σ H' p => by cases p with | mk s g => exact s.sqT (s1.sqT hq)) ?_ ?_
  ·rintro i x σ H' p hx ⟨s, g⟩ hp
   rename_i a2 a3 a4
   have s2 := A7.tr s (A7.new hp (.tup [.int i, x]))
   obtain ⟨d, hd1, hd2⟩ := (Dvs.same (A7.tr s1 s2) _ _ hd).get' hx
   rw [List.getElem?_map] at hd1
   obtain ⟨r, hr, rfl⟩ := Option.map_eq_some_iff.mp hd1
   have hi : i < rs.length := (List.getElem?_eq_some_iff.mp hr).1
   refine ⟨p, _, rfl, SqT.of A8, rfl, _, _, rfl, J9 ⟨_, _, rfl, J9 ⟨rfl, ?_⟩⟩⟩
   generalize upd H' p (.tup [.int i, x]) = H2 at *
   have s02 := A7.tr s1 s2
   lk
   refine yg4 (s02.sqT hq) fun t H3 s3 ht => ?_
   rw [xa8 (by omega)] at ht
   have s03 := A7.tr s02 s3
   lk
   obtain ⟨b, s', t', rfl, hb, _, _⟩ := qn5 hd2
   refine M0 (s3.sqT hb) (v := .str r.name) (C5 (j := 0) rfl) ?_
   have hdt := qv8 (Dvs.same s03 _ _ hd) i
   rw [<- List.map_take] at hdt
   have hd3 := Dv.same s3 _ _ hd2
   have s23 := A7.tr s2 s3
   have hC : Rws K H3 (.ref c) (B6 rs) := ⟨c, cs, rfl, .inl (SqL.of (s23 _ _ hc)), Dvs.same s23 _ _ hcd⟩
   refine ⟨.ref t, some r.name, rs.take i, rfl, ⟨t, _, rfl, .inr ht, hdt⟩, fun e => ?_, fun r' u e hu => ?_⟩
   ·lk
    refine ys3 hr hC (by omega) hd3 (hS r (List.mem_of_getElem? hr)) ⟨fun _ => e, fun _ => rfl⟩ (fun H' s m => qi i H' (A7.tr s03 s) ⟨hi, m, fun j hj r2 hr2 => g j r2 hj hr2⟩) fun H4 s4 h1 h2 => .mk (A7.tr s23 s4) fun j r2 hj hr2 => ?_
    rcases Nat.lt_or_ge j i with hlt | hge
    ·exact g j r2 hlt hr2
    ·have ej : j = i := by omega
     subst ej
     rw [hr] at hr2; cases hr2
     exact ⟨h1, h2⟩
   ·obtain ⟨b', _, _, rfl, _⟩ := qn5 hu
    lk
    exact ys3 hr hC (by omega) hd3 (hS r (List.mem_of_getElem? hr)) ⟨fun z => (by cases z), fun z => by rw [e] at z; cases z⟩ (fun H' s m => qi i H' (A7.tr s03 s) ⟨hi, m, fun j hj r2 hr2 => g j r2 hj hr2⟩) fun H4 s4 h1 h2 => by rw [e] at h1; cases h1
  ·rintro σ H' ⟨s, g⟩
   lk
   exact qn H' (A7.tr s1 s) fun j r hr => g j r (by rw [lus]; exact (List.getElem?_eq_some_iff.mp hr).1) hr
theorem xu3 {α : Type} [BEq α] [LawfulBEq α] : ∀ {l m : List α}, l.Nodup -> (∀ x ∈ l, x ∈ m) -> l.length <= m.length
 | [], _, _, _ => Nat.zero_le _
 | x :: l, m, hn, hs => by
   rw [List.nodup_cons] at hn
   have hm := hs x (by simp)
   have h2 : ∀ y ∈ l, y ∈ m.erase x := fun y hy => (List.mem_erase_of_ne (fun e => hn.1 (by rw [<- e]; exact hy))).mpr (hs y (by simp [hy]))
   have := xu3 hn.2 h2
   have e := List.length_erase_of_mem hm
   have hp := List.length_pos_of_mem hm
   rw [List.length_cons]; omega
def G0 (rs : List Row) : List Str := (rs.filter fun r => decide (r.sort = ("frame" : Str))).map (·.host)
variable {l : List Row}
theorem N7 : O2 l (some x) = none ↔ x ∉ l.map Row.name := by
 unfold O2
 rw [List.find?_eq_none]
 constructor
 ·intro h hm
  obtain ⟨r, hr, rfl⟩ := List.mem_map.mp hm
  have := h r hr
  simp at this
 ·intro h r hr
  have : r.name ≠ x := fun e => h (e ▸ List.mem_map_of_mem hr)
  simp [this]
theorem xp7 (h : O2 l (some x) = some r) : r ∈ l /\ r.name = x := by
 unfold O2 at h
 have h1 := List.mem_of_find?_eq_some h
 have h2 := List.find?_some h
 exact ⟨h1, by simpa using h2⟩
theorem xu4 {α β : Type} {f : α -> β} : ∀ {l : List α}, l.Nodup -> (∀ a ∈ l, ∀ b ∈ l, f a = f b -> a = b) -> (l.map f).Nodup
 | [], _, _ => List.nodup_nil
 | x :: l, h, g => by
   rw [List.nodup_cons] at h
   rw [List.map_cons, List.nodup_cons]
   refine ⟨fun hm => ?_, xu4 h.2 fun a ha b hb => g a (List.mem_cons_of_mem _ ha) b (List.mem_cons_of_mem _ hb)⟩
   obtain ⟨y, hy, e⟩ := List.mem_map.mp hm
   have := g y (List.mem_cons_of_mem _ hy) x List.mem_cons_self e
   rw [this] at hy
   exact h.1 hy
theorem qs1 : frameOf rs (some x) ≠ none ↔ x ∈ G0 rs := by
 unfold frameOf G0
 rw [ne_eq, Option.map_eq_none_iff, List.find?_eq_none]
 constructor
 ·intro h
  apply Classical.byContradiction
  intro g
  apply h
  intro r hr z
  apply g
  have z : r.sort = ("frame" : Str) /\ r.host = x := by simpa using z
  exact List.mem_map.mpr ⟨r, List.mem_filter.mpr ⟨hr, decide_eq_true z.1⟩, z.2⟩
 ·intro h g
  obtain ⟨r, hr, e⟩ := List.mem_map.mp h
  rw [List.mem_filter] at hr
  have e2 := of_decide_eq_true hr.2
  exact g r hr.1 (by simp [e2, e])
def itO (rs : List Row) : Nat -> Option Str -> Option Str
 | 0, h => h
 | k + 1, h => itO rs k (E7 rs h)
theorem qv9 : ∀ k, itO rs k none = none
 | 0 => rfl
 | k + 1 => by
   show itO rs k (E7 rs none) = none
   have : E7 rs none = none := by
    unfold E7 O2
    have : rs.find? (fun r => decide (some r.name = none)) = none := by rw [List.find?_eq_none]; intro r _; simp
    rw [this]; rfl
   rw [this]; exact qv9 k
theorem qw0 {n : Str} : ∀ (k : Nat) (h : Option Str), qa8 rs n k h = true ↔ ∃ j, j < k /\ itO rs j h = some n
 | 0, h => by
   rw [qa8]
   constructor
   ·intro z; cases z
   ·rintro ⟨j, hj, _⟩; omega
 | k + 1, h => by
   rw [qa8]
   by_cases e : h = some n
   ·rw [if_pos e]
    exact ⟨fun _ => ⟨0, by omega, e⟩, fun _ => rfl⟩
   ·rw [if_neg e, qw0 k]
    constructor
    ·rintro ⟨j, hj, q⟩
     exact ⟨j + 1, by omega, q⟩
    ·rintro ⟨j, hj, q⟩
     cases j with
     | zero => exact absurd q e
     | succ j => exact ⟨j, by omega, q⟩
theorem xi7 (h : E7 rs (some x) = some y) : ∃ r ∈ rs, r.name = x /\ r.sort = ("frame" : Str) /\ r.host = y := by
 unfold E7 at h
 cases e : O2 rs (some x) with
 | none => rw [e] at h; cases h
 | some r =>
   rw [e] at h
   obtain ⟨h1, h2⟩ := xp7 e
   have h : (if r.sort = ("frame" : Str) then some r.host else none) = some y := h
   by_cases hf : r.sort = ("frame" : Str)
   ·rw [if_pos hf] at h
    exact ⟨r, h1, h2, hf, Option.some.inj h⟩
   ·rw [if_neg hf] at h; cases h
theorem xa9 : ∀ {l : List Row}, (l.map Row.name).Nodup -> B6 l = l := by
 intro l
 induction h : l.length generalizing l with
 | zero => intro _; rw [List.eq_nil_of_length_eq_zero h]; rfl
 | succ n ih =>
   intro nd
   rcases List.eq_nil_or_concat l with rfl | ⟨l', r, rfl⟩
   ·rfl
   ·rw [List.concat_eq_append] at *
    rw [List.map_append, List.nodup_append] at nd
    have hl : l'.length = n := by simpa using h
    rw [N3, ih hl nd.1, if_pos]
    rw [N7]
    intro hm
    exact nd.2.2 _ hm _ (by simp) rfl
theorem xu5 : wr6 rs xs = true ↔ wf6 xs = true /\ ∀ x ∈ xs, inO (E8 rs (some x)) qa2 = true := by
 unfold wr6
 rw [Bool.and_eq_true, List.all_eq_true]
theorem yk2 : wn2 rs r = true ↔ ¬ (r.shuts ≠ [] /\ r.name ∈ G0 rs) /\ (∀ x ∈ r.shuts, x ∉ G0 rs) /\ wr6 rs r.shuts = true := by
 have h0 : 0 < r.shuts.length ↔ r.shuts ≠ [] := by cases r.shuts <;> simp
 unfold wn2
 have hh : (0 < r.shuts.length /\ frameOf rs (some r.name) ≠ none) ↔ (r.shuts ≠ [] /\ r.name ∈ G0 rs) := by rw [h0, qs1]
 by_cases h : r.shuts ≠ [] /\ r.name ∈ G0 rs
 ·rw [if_pos (hh.mpr h)]
  exact ⟨fun z => (by cases z), fun z => absurd h z.1⟩
 ·rw [if_neg (fun z => h (hh.mp z)), Bool.and_eq_true, decide_eq_true_eq, List.length_eq_zero_iff, List.filter_eq_nil_iff]
  have e : (∀ a ∈ r.shuts, ¬ decide (frameOf rs (some a) ≠ none) = true) ↔ ∀ x ∈ r.shuts, x ∉ G0 rs := by
   constructor
   ·intro z x hx hm; exact z x hx (decide_eq_true (qs1.mpr hm))
   ·intro z x hx hm; exact z x hx (qs1.mp (of_decide_eq_true hm))
  rw [e]
  exact ⟨fun z => ⟨h, z⟩, fun z => z.2⟩
theorem yk3 : wn3 rs r = true ↔ (r.sort = ("frame" : Str) -> inO (E8 rs (some r.host)) qa9 = true /\ qa8 rs r.name rs.length (E7 rs (some r.name)) = false /\ frameOf rs (some r.host) = some r.name) := by
 unfold wn3
 by_cases hf : r.sort = ("frame" : Str)
 ·rw [if_pos hf]
  by_cases h : inO (E8 rs (some r.host)) qa9 = true /\ qa8 rs r.name rs.length (E7 rs (some r.name)) = false
  ·rw [if_pos h, decide_eq_true_eq]
   exact ⟨fun z _ => ⟨h.1, h.2, z⟩, fun z => (z hf).2.2⟩
  ·rw [if_neg h]
   exact ⟨fun z => (by cases z), fun z => absurd ⟨(z hf).1, (z hf).2.1⟩ h⟩
 ·rw [if_neg hf]
  exact ⟨fun _ z => absurd z hf, fun _ => rfl⟩
theorem ys4 : wr7 rs r = true ↔ wn3 rs r = true /\ wn2 rs r = true /\ wr6 rs r.bars = true := by
 unfold wr7; rw [Bool.and_eq_true, Bool.and_eq_true]
theorem qw1 : ∀ (a b : List Nat), ¬ b < a -> a ≠ b -> a < b
 | [], [], _, n => absurd rfl n
 | [], y :: ys, _, _ => List.nil_lt_cons _ _
 | x :: xs, [], h, _ => absurd (List.nil_lt_cons _ _) h
 | x :: xs, y :: ys, h, n => by
   rw [List.cons_lt_cons_iff] at h ⊢
   rcases Nat.lt_trichotomy x y with g | g | g
   ·exact .inl g
   ·subst g
    exact .inr ⟨rfl, qw1 xs ys (fun z => h (.inr ⟨rfl, z⟩)) (fun z => n (by rw [z]))⟩
   ·exact absurd (.inl g) h
theorem wn4 : ∀ {xs : List Str}, PyProof.Rows.sortedS xs = true -> xs.Nodup -> wf6 xs = true
 | [], _, _ => rfl
 | [x], _, _ => rfl
 | x :: y :: r, h, nd => by
   have h : PyProof.Rows.risingS x (y :: r) = true := h
   rw [PyProof.Rows.risingS, Bool.and_eq_true] at h
   rw [List.nodup_cons] at nd
   have ih := wn4 (xs := y :: r) h.2 nd.2
   have hxy : ltS x y = true := by
    unfold ltS
    refine decide_eq_true (qw1 _ _ (fun z => ?_) (fun z => nd.1 (by rw [qp4 z]; exact List.mem_cons_self)))
    have h1 := h.1
    rw [PyProof.Rows.ltCps_eq, decide_eq_true z] at h1
    cases h1
   unfold wf6 at ih ⊢
   show (ltS x y && _) = true
   rw [hxy, Bool.true_and]
   exact ih
theorem ww4 {a b c : List Nat} (h1 : ¬ b < a) (h2 : ¬ c < b) : ¬ c < a := by
 intro h
 by_cases e1 : a = b
 ·rw [e1] at h; exact h2 h
 ·have l1 := qw1 a b h1 e1
  exact h2 (List.lt_trans h l1)
theorem wb3 : ∀ {xs : List Str}, PyProof.Rows.sortedS xs = true -> xs.Pairwise fun a b => ¬ b.cps.toList < a.cps.toList
 | [], _ => .nil
 | [x], _ => .cons (fun y hy => by cases hy) .nil
 | x :: y :: r, h => by
   have h : PyProof.Rows.risingS x (y :: r) = true := h
   rw [PyProof.Rows.risingS, Bool.and_eq_true] at h
   have ih := wb3 (xs := y :: r) h.2
   have hxy : ¬ y.cps.toList < x.cps.toList := fun z => by
    have h1 := h.1
    rw [PyProof.Rows.ltCps_eq, decide_eq_true z] at h1
    cases h1
   refine .cons (fun z hz => ?_) ih
   rcases List.mem_cons.mp hz with rfl | hz
   ·exact hxy
   ·cases ih with | cons h0 _ => exact ww4 hxy (h0 z hz)
theorem Y1 {ys : List Str} (h1 : PyProof.Rows.sortedS xs = true) (h2 : PyProof.Rows.sortedS ys = true) (p : xs.Perm ys) : xs = ys :=
 List.Perm.eq_of_pairwise (fun a b _ _ h1 h2 => Classical.byContradiction fun n => h2 (qw1 _ _ h1 fun e => n (qp4 e))) (wb3 h1) (wb3 h2) p
def jn (c : Nat) : List Str -> List Nat
 | [] => []
 | [x] => x.cps.toList
 | x :: y :: r => x.cps.toList ++ c :: jn c (y :: r)
theorem qj3 (c : Nat) : ∀ xs : List Str, (Str.join ⟨#[c]⟩ xs).cps.toList = jn c xs
 | [] => rfl
 | [x] => rfl
 | x :: y :: r => by
   show (x ++ ⟨#[c]⟩ ++ Str.join ⟨#[c]⟩ (y :: r)).cps.toList = _
   rw [jn, <- qj3 c (y :: r)]
   show (x.cps ++ #[c] ++ (Str.join ⟨#[c]⟩ (y :: r)).cps).toList = _
   simp
theorem xi8 {c : Nat} : ∀ {a b u v : List Nat}, c ∉ a -> c ∉ b -> a ++ c :: u = b ++ c :: v -> a = b /\ u = v
 | [], [], u, v, _, _, e => ⟨rfl, by simpa using e⟩
 | [], y :: b, u, v, _, hb, e => by
   rw [List.nil_append, List.cons_append] at e
   injection e with e1 e2
   exact absurd (by rw [<- e1]; exact List.mem_cons_self) hb
 | x :: a, [], u, v, ha, _, e => by
   rw [List.nil_append, List.cons_append] at e
   injection e with e1 e2
   exact absurd (by rw [e1]; exact List.mem_cons_self) ha
 | x :: a, y :: b, u, v, ha, hb, e => by
   rw [List.cons_append, List.cons_append] at e
   injection e with e1 e2
   have := xi8 (fun h => ha (List.mem_cons_of_mem _ h)) (fun h => hb (List.mem_cons_of_mem _ h)) e2
   exact ⟨by rw [e1, this.1], this.2⟩
theorem yk4 : ∀ {x y : Str} {r : List Str}, c ∈ jn c (x :: y :: r) := by
 intro x y r
 rw [jn]; simp
theorem yk5 {c : Nat} : ∀ {xs ys : List Str}, xs ≠ [] -> ys ≠ [] -> (∀ x ∈ xs, c ∉ x.cps.toList) -> (∀ y ∈ ys, c ∉ y.cps.toList) -> jn c xs = jn c ys -> xs = ys
 | [], _, h, _, _, _, _ => absurd rfl h
 | _ :: _, [], _, h, _, _, _ => absurd rfl h
 | [x], [y], _, _, _, _, e => by rw [qp4 (show x.cps.toList = y.cps.toList from e)]
 | [x], y :: z :: r, _, _, hx, _, e => by
   have e : x.cps.toList = jn c (y :: z :: r) := e
   exact absurd (by rw [e]; exact yk4) (hx x List.mem_cons_self)
 | x :: z :: r, [y], _, _, _, hy, e => by
   have e : jn c (x :: z :: r) = y.cps.toList := e
   exact absurd (by rw [<- e]; exact yk4) (hy y List.mem_cons_self)
 | x :: x2 :: r, y :: y2 :: s, _, _, hx, hy, e => by
   rw [jn, jn] at e
   obtain ⟨e1, e2⟩ := xi8 (hx x List.mem_cons_self) (hy y List.mem_cons_self) e
   have := yk5 (xs := x2 :: r) (ys := y2 :: s) (by simp) (by simp) (fun w hw => hx w (List.mem_cons_of_mem _ hw)) (fun w hw => hy w (List.mem_cons_of_mem _ hw)) e2
   rw [qp4 e1, this]
theorem qs2 (hne : xs ≠ []) (hf : ∀ x ∈ xs, c ∉ x.cps.toList) : PySem.Txt.split (Str.join ⟨#[c]⟩ xs) ⟨#[c]⟩ = xs := by
 have h1 := PySem.StrLaws.join_split (Str.join ⟨#[c]⟩ xs) ⟨#[c]⟩
 have h2 := PySem.StrLaws.split_free (Str.join ⟨#[c]⟩ xs) c
 have h3 := (PyProof.Rows.fact_split (Str.join ⟨#[c]⟩ xs) ⟨#[c]⟩).1
 refine yk5 (fun e => by rw [e] at h3; exact absurd h3 (by decide)) hne h2 hf ?_
 rw [<- qj3, <- qj3, h1]
def kwL (k : Str) (xs : List Str) : List Str := if xs = [] then [] else k :: xs
def qb0 (r : Row) : List Str := if r.sort = ("frame" : Str) then [r.host] else []
def M3 (r : Row) (sh ba : List Str) : List Str := [r.name, r.sort] ++ (qb0 r ++ (kwL ("shuts" : Str) sh ++ kwL ("bars" : Str) ba))
def nbF (k : Str) (ws : List Str) : List Str := if ws.take 1 = [k] then (ws.drop 1).takeWhile nmX else []
def wfN (xs : List Str) : Nat := if xs.length = 0 then 0 else 1 + xs.length
theorem wh7 (k : Str) (xs : List Str) : (kwL k xs).length = wfN xs := by
 unfold kwL wfN
 cases xs with
 | nil => rfl
 | cons x xs => rw [if_neg (by simp), if_neg (by simp), List.length_cons, List.length_cons]; omega
theorem xu6 {ys : List Str} (h : ∀ x ∈ xs, nmX x = true) (h2 : ∀ y, ys.head? = some y -> nmX y = false) : (xs ++ ys).takeWhile nmX = xs := by
 induction xs with
 | nil =>
   cases ys with
   | nil => rfl
   | cons y ys => rw [List.nil_append, List.takeWhile_cons, h2 y rfl]; rfl
 | cons x xs ih => rw [List.cons_append, List.takeWhile_cons, h x List.mem_cons_self, if_pos rfl, ih fun y hy => h y (List.mem_cons_of_mem _ hy)]
theorem zb8 : nmX ("bars" : Str) = false := by decide +kernel
variable {ba sh : List Str}
theorem yk6 (h : ∀ x ∈ sh, nmX x = true) : nbF ("shuts" : Str) (kwL ("shuts" : Str) sh ++ kwL ("bars" : Str) ba) = sh := by
 unfold nbF
 cases sh with
 | nil =>
   have e : kwL ("shuts" : Str) [] = [] := rfl
   rw [e, List.nil_append]
   cases ba with
   | nil => rfl
   | cons y ys => rw [if_neg]; unfold kwL; rw [if_neg (by simp)]; show ¬ [("bars" : Str)] = [("shuts" : Str)]; decide +kernel
 | cons x xs =>
   have e : kwL ("shuts" : Str) (x :: xs) = ("shuts" : Str) :: (x :: xs) := by unfold kwL; rw [if_neg (by simp)]
   rw [e, List.cons_append, if_pos (by rfl : List.take 1 (("shuts" : Str) :: (x :: xs ++ kwL ("bars" : Str) ba)) = [("shuts" : Str)])]
   show ((x :: xs) ++ kwL ("bars" : Str) ba).takeWhile nmX = _
   refine xu6 h fun y hy => ?_
   unfold kwL at hy
   split at hy
   ·cases hy
   ·cases hy; exact zb8
theorem ys5 (h : ∀ x ∈ ba, nmX x = true) : nbF ("bars" : Str) (kwL ("bars" : Str) ba) = ba := by
 unfold nbF
 cases ba with
 | nil => rfl
 | cons x xs =>
   have e : kwL ("bars" : Str) (x :: xs) = ("bars" : Str) :: (x :: xs) := by unfold kwL; rw [if_neg (by simp)]
   rw [e, if_pos (by rfl : List.take 1 (("bars" : Str) :: x :: xs) = [("bars" : Str)])]
   show (x :: xs).takeWhile nmX = _
   have := xu6 (ys := []) h (fun y hy => by cases hy)
   rwa [List.append_nil] at this
structure qq3 (r : Row) : Prop where
 n : nmX r.name = true
 s : r.sort ∈ R6
 f : r.sort = ("frame" : Str) -> nmX r.host = true
 e : r.sort ≠ ("frame" : Str) -> r.host = ("" : Str)
 a : ∀ x ∈ r.shuts, nmX x = true
 b : ∀ x ∈ r.bars, nmX x = true
 sa : PyProof.Rows.sortedS r.shuts = true
 sb : PyProof.Rows.sortedS r.bars = true
 la : r.shuts.length <= 20
 lb : r.bars.length <= 20
theorem yk7 (h : nmX x = true) : x.length <= 8 := (yj9.mp h).eight
theorem yk8 : ∀ x ∈ R6, x.length <= 8 := by decide +kernel
theorem yk9 (xs ys : List Str) : PyData.eqv (.list (sDa xs)) (.list (sDa ys)) = decide (xs = ys) := by
 induction xs generalizing ys with
 | nil => cases ys with
   | nil => rfl
   | cons y ys => rfl
 | cons x xs ih =>
   cases ys with
   | nil => rfl
   | cons y ys =>
     have h := ih ys
     rw [PyData.eqv] at h ⊢
     show PyData.eqvAll (.str x :: sDa xs) (.str y :: sDa ys) = _
     rw [PyData.eqvAll, h]
     rw [PyData.eqv]
     by_cases e : x = y
     ·subst e; by_cases e2 : xs = ys <;> simp [e2]
     ·simp [e]
def V9 (K : Fg) : Sp := fun vs H Q _ => ∃ (a : Addr) (xs : List Str), vs = [.ref a] /\ SqL K H a (B3 xs) /\ Q (.int (wfN xs : Nat)) H
theorem ws6 (K : Fg) : ∀ vs H Q E, V9 K vs H Q E -> vs.length = ["names"].length := by rintro vs H Q E ⟨a, xs, rfl, _⟩; rfl
def qf1 (K : Fg) : TS :=
 (I0 (tIf (D5 (tOp (R1 K) (tCB (R8 K) (A9 (B1 0) B7)) (tC (.int 0)))) (tC (.int 0)) (tOp (P4 K) (tC (.int 1)) (tCB (R8 K) (A9 (B1 0) B7)))))
theorem xb0 (h : V9 K vs H Q E) : qf1 K { nx := fun _ H' => Q .non H', rt := Q } (I9 ["names"] vs) H := by
 obtain ⟨a, xs, rfl, ha, q⟩ := h
 show qf1 K _ [some (.ref a)] H
 unfold qf1
 unfold wfN at q
 lk
 refine R5 (.inl ha) ?_
 rw [C2]
 lk
 by_cases h0 : xs.length = 0
 ·rw [decide_eq_true (show ((xs.length : Nat) : Int) = 0 by omega)]
  x_go
  rw [if_pos h0] at q
  lk
  exact q
 ·rw [decide_eq_false (show ¬ ((xs.length : Nat) : Int) = 0 by omega)]
  k_go
  rw [if_neg h0] at q
  lk
  refine R5 (.inl ha) ?_
  rw [C2]
  lk
  rw [show ((1 + xs.length : Nat) : Int) = 1 + (xs.length : Nat) by omega] at q
  exact q
inductive Nbh (K : Fg) (H0 : Hp) (k : Str) (a p : Addr) (ws : List Str) (i : Nat) : St -> Hp -> Prop
 | mk {H' : Hp} {o : Option V} (s : A7 H0 H') (n0 : H0 p = none) (g : H' p = some (.lst (B3 (ws.take i)))) (h : ∀ x ∈ ws.take i, nmX x = true) : Nbh K H0 k a p ws i [some (.str k), some (.ref a), some (.ref p), o] H'
theorem zk4 (xs : List Str) : ql6 (B3 xs) none (some 1) = B3 (xs.take 1) := by
 unfold ql6 B3
 cases xs with
 | nil => rfl
 | cons x xs =>
   rw [<- List.map_drop, <- List.map_take, List.length_map]
   have e1 : HT.sIx (x :: xs).length (x :: xs).length (some 1) = 1 := by
    show (if (1 : Int) < 0 then ((1 : Int) + ((x :: xs).length : Nat)).toNat else min (1 : Int).toNat (x :: xs).length) = 1
    rw [if_neg (by decide), List.length_cons]
    show min 1 (xs.length + 1) = 1
    omega
   have e2 : HT.sIx (x :: xs).length 0 none = 0 := rfl
   rw [e1, e2]; rfl
def nbR (K : Fg) : TS :=
 (I0 (B1 2))
variable {o : Option V}
theorem zb9 {k : Str} (q : D.rt (.ref p) H) : nbR K D [some (.str k), some (.ref a), some (.ref p), o] H := by
 unfold nbR
 lk
 exact q
abbrev wb4 (K : Fg) : TS :=
 (D8 (M9 (wi8 (tB (D9 (S3 K) [] E0 (A9 (B1 3) B7))))
 xl5 G8)
 (qc8 (tBM K "list" S7 (B1 2) (A9 (B1 3) B7))))
abbrev wb5 (K : Fg) : TS :=
 (ql8 (qg7 K (tSl (wk6 K) (B1 1) (qa6 (tC (.int 1))) P8)) (C3 3)
 (wb4 K))
abbrev wb6 (K : Fg) : TS :=
 (D8 (M9 (D5 (tOp (R1 K) (tSl (wk6 K) (B1 1) P8 (qa6 (tC (.int 1)))) (O9 (A9 (B1 0) B7))))
 (wb5 K) G8)
 (nbR K))
def R4 (K : Fg) : Sp := fun vs H Q _ => ∃ (k : Str) (a : Addr) (ws : List Str), vs = [.str k, .ref a] /\ H a = some (.lst (B3 ws)) /\ ws.length <= 1000 /\ (∀ x ∈ ws, x.length <= 1000) /\ ∀ (p : Addr) (H' : Hp), A7 H H' -> H p = none -> H' p = some (.lst (B3 (nbF k ws))) -> Q (.ref p) H'
theorem wb7 (K : Fg) : ∀ vs H Q E, R4 K vs H Q E -> vs.length = ["keyword", "words"].length := by rintro vs H Q E ⟨k, a, ws, rfl, _⟩; rfl
def W0 (K : Fg) : TS :=
 (D8 (J0 (O9 B7) (C3 2))
 (wb6 K))
theorem wg1 (h : R4 K vs H Q E) : W0 K { nx := fun _ H' => Q .non H', rt := Q } (I9 ["keyword", "words", "names", "word"] vs) H := by
 obtain ⟨k, a, ws, rfl, ha, hz, hx, q⟩ := h
 show W0 K _ [some (.str k), some (.ref a), none, none] H
 unfold W0
 unfold nbF at q
 lk
 refine ⟨G1 (by z_go), fun p hp => ?_⟩
 have s1 := A7.new hp (.lst [])
 have e1 : (upd H p (.lst [])) p = some (.lst []) := A8
 generalize upd H p (.lst []) = H1 at *
 lk
 refine qu9 (SqL.of (s1 _ _ ha)) fun p2 hp2 => ?_
 rw [zk4]
 have s2 := A7.new hp2 (.lst (B3 (ws.take 1)))
 have e2 : (upd H1 p2 (.lst (B3 (ws.take 1)))) p2 = some (.lst (B3 (ws.take 1))) := A8
 generalize upd H1 p2 (.lst (B3 (ws.take 1))) = H2 at *
 lk
 refine ⟨G1 (by z_go), fun p3 hp3 => ?_⟩
 have s3 := A7.new hp3 (.lst [.str k])
 refine yv0 (d := .list (sDa (ws.take 1))) (e := .list (sDa [k])) (M8.mpr ⟨p2, _, rfl, SqL.of (s3 _ _ e2), T9.mpr rfl⟩) (M8.mpr ⟨p3, _, rfl, SqL.of A8, T9.mpr rfl⟩) (Nat.le_trans (Nat.min_le_right _ _) (by have : (PyData.list [PyData.str k]).depth = 1 := rfl; show (PyData.list [PyData.str k]).depth <= _; omega)) ?_
 rw [yk9]
 generalize upd H2 p3 (.lst [.str k]) = H3 at *
 have s13 := A7.tr s2 s3
 have s03 := A7.tr s1 s13
 lk
 by_cases hk : ws.take 1 = [k]
 ·rw [decide_eq_true hk]
  x_go
  rw [if_pos hk] at q
  lk
  refine qu9 (SqL.of (s03 _ _ ha)) fun p4 hp4 => ?_
  rw [wn1]
  have s4 := A7.new hp4 (.lst (B3 (ws.drop 1)))
  have e4 : (upd H3 p4 (.lst (B3 (ws.drop 1)))) p4 = some (.lst (B3 (ws.drop 1))) := A8
  have np4 : p4 ≠ p := fun z => by rw [z, s13 _ _ e1] at hp4; cases hp4
  have ep4 := s4 _ _ (s13 _ _ e1)
  have s04 := A7.tr s03 s4
  generalize upd H3 p4 (.lst (B3 (ws.drop 1))) = H4 at *
  have hwl : (ws.drop 1).length <= 1000 := by rw [List.length_drop]; omega
  have hwx : ∀ x ∈ ws.drop 1, x.length <= 1000 := fun x h => hx x (List.mem_of_mem_drop h)
  generalize ws.drop 1 = us at *
  refine ⟨p4, rfl, .inl ⟨⟨_, SqL.of e4⟩, ql9 (xs := B3 us) (fun i σ H' => H' p4 = some (.lst (B3 us)) /\ Nbh K H k a p us i σ H') ⟨e4, .mk s04 hp ep4 (fun x hx => by cases hx)⟩ (fun i σ H' _ p => SqL.of p.1) ?_ ?_⟩⟩
  ·rintro i x σ H' hx' ⟨h4, s5, n0, g, h⟩
   rename_i o1
   obtain ⟨x, hxi, rfl⟩ := Q4 hx'
   have hil : i < us.length := (List.getElem?_eq_some_iff.mp hxi).1
   have et : us.take (i + 1) = us.take i ++ [x] := by rw [List.take_add_one, hxi]; rfl
   have hxl := hwx x (List.mem_of_getElem? hxi)
   lk
   refine ⟨x, rfl, by omega, fun H6 s6 => ?_⟩
   refine ⟨_, rfl, ?_⟩
   have g6 := s6 _ _ g
   have s06 := A7.tr s5 s6
   cases e : nmX x with
   | false =>
     x_go
     lk
     refine zb9 (K := K) (q p H6 s06 hp ?_)
     rw [g6]
     congr 2
     have : us = us.take i ++ (x :: us.drop (i + 1)) := by
      rw [List.getElem?_eq_getElem hil] at hxi
      injection hxi with hxi
      rw [<- hxi, <- List.drop_eq_getElem_cons hil, List.take_append_drop]
     have h9 := xu6 (xs := us.take i) (ys := x :: us.drop (i + 1)) h (fun y hy => by cases hy; exact e)
     rw [<- this] at h9
     rw [h9]
   | true =>
     k_go
     lk
     refine ⟨.inl ⟨rfl, _, SqL.of g6⟩, ?_⟩
     lk
     refine S2 g6 (by rw [C2, List.length_take, sizeLine_eq]; omega) ?_
     refine ⟨by rw [C4 np4]; exact s6 _ _ h4, .mk (A7.put s06 hp _) hp ?_ fun y hy => ?_⟩
     ·rw [A8, et]; unfold B3; rw [List.map_append]; rfl
     ·rw [et] at hy
      rcases List.mem_append.mp hy with hy | hy
      ·exact h y hy
      ·rw [List.mem_singleton.mp hy]; exact e
  ·rintro σ H' ⟨h4, s5, n0, g, h⟩
   rw [C2, List.take_length] at g h
   refine zb9 (K := K) (q p H' s5 hp ?_)
   rw [g]
   have h9 := xu6 (ys := []) h (fun y hy => by cases hy)
   rw [List.append_nil] at h9
   rw [h9]
 ·rw [decide_eq_false hk]
  k_go
  rw [if_neg hk] at q
  lk
  exact zb9 (K := K) (q p H3 s03 hp (s13 _ _ e1))
variable {h so : Str}
theorem yv9 {w : Addr} {n : Str} (e : H w = some (.tup [.str n, .str so, .str h, .ref s, .ref t])) (hs : SqT K H s (B3 sh)) (ht : SqT K H t (B3 ba)) : Dv K H (Row.da ⟨n, so, h, sh, ba⟩) (.ref w) :=
 L7.mpr ⟨w, _, rfl, SqT.of e, E6 (N2.mpr rfl) (E6 (N2.mpr rfl) (E6 (N2.mpr rfl) (E6 (L7.mpr ⟨s, _, rfl, hs, T9.mpr rfl⟩) (E6 (L7.mpr ⟨t, _, rfl, ht, T9.mpr rfl⟩) G7))))⟩
variable {ws : List Str}
theorem wb8 (h : i <= ws.length) : ql6 (B3 ws) (some (i : Int)) none = B3 (ws.drop i) := by
 unfold ql6
 have e1 : HT.sIx (B3 ws).length 0 (some (i : Int)) = i := by
  rw [C2]
  show (if (i : Int) < 0 then ((i : Int) + ws.length).toNat else min (i : Int).toNat ws.length) = i
  rw [if_neg (by omega)]; omega
 have e2 : HT.sIx (B3 ws).length (B3 ws).length none = (B3 ws).length := rfl
 rw [e1, e2, List.take_of_length_le (by rw [List.length_drop]; omega)]
 unfold B3; rw [List.map_drop]
theorem ww5 : ∀ {xs : List Str}, (xs.Pairwise fun a b => ¬ b.cps.toList < a.cps.toList) -> PyProof.Rows.sortedS xs = true
 | [], _ => rfl
 | [_], _ => rfl
 | a :: b :: r, h => by
   rw [List.pairwise_cons] at h
   have h1 := h.1 b List.mem_cons_self
   have h2 := ww5 h.2
   show PyProof.Rows.risingS a (b :: r) = true
   rw [PyProof.Rows.risingS, Bool.and_eq_true]
   refine ⟨?_, h2⟩
   rw [PyProof.Rows.ltCps_eq, decide_eq_false h1]; rfl
def leB (a b : Str) : Bool := !decide (b.cps.toList < a.cps.toList)
theorem qw2 {a b : Str} : leB a b = true ↔ ¬ b.cps.toList < a.cps.toList := by unfold leB; simp
def O3 (xs : List Str) : List Str := xs.mergeSort leB
theorem O4 (xs : List Str) : (O3 xs).Perm xs := List.mergeSort_perm _ _
theorem Q9 (xs : List Str) : PyProof.Rows.sortedS (O3 xs) = true := by
 refine ww5 ?_
 have := List.pairwise_mergeSort (le := leB) (fun a b c h1 h2 => qw2.mpr (ww4 (qw2.mp h1) (qw2.mp h2))) (fun a b => by
  simp only [Bool.or_eq_true, qw2]
  apply Classical.byContradiction
  intro h
  have h1 : b.cps.toList < a.cps.toList := Classical.byContradiction fun z => h (.inl z)
  have h2 : a.cps.toList < b.cps.toList := Classical.byContradiction fun z => h (.inr z)
  exact absurd h2 (List.lt_asymm h1)) xs
 exact this.imp fun h => qw2.mp h
def rdT (ws : List Str) (st : Nat) (host : Str) : Option Row :=
 if st + wfN (nbF ("shuts" : Str) (ws.drop st)) + wfN (nbF ("bars" : Str) (ws.drop (st + wfN (nbF ("shuts" : Str) (ws.drop st))))) = ws.length then
  some ⟨gd ws 0, gd ws 1, host, O3 (nbF ("shuts" : Str) (ws.drop st)), O3 (nbF ("bars" : Str) (ws.drop (st + wfN (nbF ("shuts" : Str) (ws.drop st)))))⟩
 else none
def rdF (ws : List Str) : Option Row :=
 if ws.length < 2 then none
 else if nmX (gd ws 0) = false then none
 else if gd ws 1 ∉ R6 then none
 else if gd ws 1 = ("frame" : Str) then (if ws.length < 3 then none else if nmX (gd ws 2) = false then none else rdT ws 3 (gd ws 2))
 else rdT ws 2 ("" : Str)
theorem wg2 (h : i < ws.length) : (B3 ws)[i]? = some (.str (gd ws i)) := by unfold B3; rw [List.getElem?_map, xa0 h]; rfl
theorem xb1 (k : Str) (ws : List Str) : wfN (nbF k ws) <= ws.length := by
 unfold nbF
 split
 ·rename_i h
  cases ws with
  | nil => cases h
  | cons x xs =>
    show wfN (xs.takeWhile nmX) <= xs.length + 1
    have := (List.takeWhile_prefix (p := nmX) (l := xs)).length_le
    unfold wfN; split <;> omega
 ·exact Nat.zero_le _
theorem yl0 (k : Str) (ws : List Str) : (nbF k ws).length <= ws.length := by
 have := xb1 k ws
 unfold wfN at this
 split at this <;> omega
abbrev xb2 (K : Fg) : TS :=
 (I0 (xm5 (A9 (tOp (G5 K) (B1 0) (tC (.int 0))) (A9 (tOp (G5 K) (B1 0) (tC (.int 1))) (A9 (B1 1) (A9 (tCB (Y3 K) (A9 (tCB (wk3 K) (A9 (B1 3) B7)) B7)) (A9 (tCB (Y3 K) (A9 (tCB (wk3 K) (A9 (B1 4) B7)) B7)) B7)))))))
abbrev xb3 (K : Fg) : TS :=
 (D8 (M9 (D5 (tOp (qm7 K) (tOp (P4 K) (B1 2) (D9 (V9 K) [] E0 (A9 (B1 4) B7))) (tCB (R8 K) (A9 (B1 0) B7))))
 (I0 (tC .non)) G8)
 (xb2 K))
abbrev xb4 (K : Fg) : TS :=
 (D8 (J0 (D9 (R4 K) [] E0 (A9 (tC (.str ("bars" : Str))) (A9 (tSl (wk6 K) (B1 0) (qa6 (B1 2)) P8) B7))) (C3 4))
 (xb3 K))
abbrev xb5 (K : Fg) : TS :=
 (D8 (J0 (tOp (P4 K) (B1 2) (D9 (V9 K) [] E0 (A9 (B1 3) B7))) (C3 2))
 (xb4 K))
def rrR (K : Fg) : TS :=
 (D8 (J0 (D9 (R4 K) [] E0 (A9 (tC (.str ("shuts" : Str))) (A9 (tSl (wk6 K) (B1 0) (qa6 (B1 2)) P8) B7))) (C3 3))
 (xb5 K))
theorem zi2 {st : Nat} {host : Str} (ha : H a = some (.lst (B3 ws))) (hst : 2 <= st) (hsl : st <= ws.length) (hwl : ws.length <= 60) (hwx : ∀ x ∈ ws, x.length <= 1000) (q0 : ∀ H', A7 H H' -> rdT ws st host = none -> D.rt .non H') (q : ∀ (r : Row) (t : Addr) H', A7 H H' -> rdT ws st host = some r -> Dv K H' r.da (.ref t) -> D.rt (.ref t) H') : rrR K D [some (.ref a), some (.str host), some (.int st), none, none] H := by
 unfold rrR
 lk
 refine qu9 (SqL.of ha) fun p hp => ?_
 rw [wb8 hsl]
 have s1 := A7.new hp (.lst (B3 (ws.drop st)))
 have e1 : (upd H p (.lst (B3 (ws.drop st)))) p = some (.lst (B3 (ws.drop st))) := A8
 generalize upd H p (.lst (B3 (ws.drop st))) = H1 at *
 lk
 refine ⟨("shuts" : Str), p, ws.drop st, rfl, e1, by rw [List.length_drop]; omega, fun x hx => hwx x (List.mem_of_mem_drop hx), fun c H2 s2 _ hc => ?_⟩
 unfold rdT at q0 q
 have hn1 := xb1 ("shuts" : Str) (ws.drop st)
 have hn1' := yl0 ("shuts" : Str) (ws.drop st)
 rw [List.length_drop] at hn1 hn1'
 generalize nbF ("shuts" : Str) (ws.drop st) = sh at *
 have s02 := A7.tr s1 s2
 lk
 refine ⟨c, sh, rfl, SqL.of hc, ?_⟩
 lk
 refine qu9 (SqL.of (s02 _ _ ha)) fun p3 hp3 => ?_
 rw [show ((st : Int) + (wfN sh : Nat)) = ((st + wfN sh : Nat) : Int) by omega, wb8 (by omega)]
 have s3 := A7.new hp3 (.lst (B3 (ws.drop (st + wfN sh))))
 have e3 : (upd H2 p3 (.lst (B3 (ws.drop (st + wfN sh))))) p3 = some (.lst (B3 (ws.drop (st + wfN sh)))) := A8
 generalize upd H2 p3 (.lst (B3 (ws.drop (st + wfN sh)))) = H3 at *
 lk
 refine ⟨("bars" : Str), p3, ws.drop (st + wfN sh), rfl, e3, by rw [List.length_drop]; omega, fun x hx => hwx x (List.mem_of_mem_drop hx), fun d H4 s4 _ hd => ?_⟩
 have hn2' := yl0 ("bars" : Str) (ws.drop (st + wfN sh))
 rw [List.length_drop] at hn2'
 generalize nbF ("bars" : Str) (ws.drop (st + wfN sh)) = ba at *
 have s24 := A7.tr s3 s4
 have s04 := A7.tr s02 s24
 lk
 refine ⟨d, ba, rfl, SqL.of hd, ?_⟩
 lk
 refine R5 (.inl (SqL.of (s04 _ _ ha))) ?_
 lk
 rw [C2]
 by_cases hw : st + wfN sh + wfN ba = ws.length
 ·rw [decide_eq_true (show ((st + wfN sh : Nat) : Int) + (wfN ba : Nat) = (ws.length : Nat) by omega)]
  k_go
  rw [if_pos hw] at q
  lk
  refine M5 (SqL.of (s04 _ _ ha)) (v := .str (gd ws 0)) (C5 (j := 0) (wg2 (by omega))) ?_
  lk
  refine M5 (SqL.of (s04 _ _ ha)) (v := .str (gd ws 1)) (C5 (j := 1) (wg2 (by omega))) ?_
  lk
  refine ⟨c, sh, rfl, SqL.of (s24 _ _ hc), by omega, fun l ys hp' hs' hl => ?_⟩
  have ey : ys = O3 sh := Y1 hs' (Q9 _) (hp'.trans (O4 _).symm)
  subst ey
  have s5 := A7.new hl (.lst (B3 (O3 sh)))
  have e5 : (upd H4 l (.lst (B3 (O3 sh)))) l = some (.lst (B3 (O3 sh))) := A8
  generalize upd H4 l (.lst (B3 (O3 sh))) = H5 at *
  lk
  refine ⟨l, _, rfl, .inl ⟨SqL.of e5, fun t1 ht1 => ?_⟩⟩
  have s6 := A7.new ht1 (.tup (B3 (O3 sh)))
  have e6 : (upd H5 t1 (.tup (B3 (O3 sh)))) t1 = some (.tup (B3 (O3 sh))) := A8
  generalize upd H5 t1 (.tup (B3 (O3 sh))) = H6 at *
  lk
  refine ⟨d, ba, rfl, SqL.of (s6 _ _ (s5 _ _ hd)), by omega, fun l2 zs hp'' hs'' hl2 => ?_⟩
  have ez : zs = O3 ba := Y1 hs'' (Q9 _) (hp''.trans (O4 _).symm)
  subst ez
  have s7 := A7.new hl2 (.lst (B3 (O3 ba)))
  have e7 : (upd H6 l2 (.lst (B3 (O3 ba)))) l2 = some (.lst (B3 (O3 ba))) := A8
  generalize upd H6 l2 (.lst (B3 (O3 ba))) = H7 at *
  lk
  refine ⟨l2, _, rfl, .inl ⟨SqL.of e7, fun t2 ht2 => ?_⟩⟩
  have s8 := A7.new ht2 (.tup (B3 (O3 ba)))
  have e8 : (upd H7 t2 (.tup (B3 (O3 ba)))) t2 = some (.tup (B3 (O3 ba))) := A8
  generalize upd H7 t2 (.tup (B3 (O3 ba))) = H8 at *
  lk
  refine ⟨G1 (by z_go), fun t3 ht3 => ?_⟩
  have s9 := A7.new ht3 (.tup [.str (gd ws 0), .str (gd ws 1), .str host, .ref t1, .ref t2])
  have e9 : (upd H8 t3 (.tup [.str (gd ws 0), .str (gd ws 1), .str host, .ref t1, .ref t2])) t3 = some (.tup [.str (gd ws 0), .str (gd ws 1), .str host, .ref t1, .ref t2]) := A8
  refine q _ t3 _ (A7.tr s04 (A7.tr s5 (A7.tr s6 (A7.tr s7 (A7.tr s8 s9))))) rfl ?_
  exact yv9 e9 (SqT.of (s9 _ _ (s8 _ _ (s7 _ _ e6)))) (SqT.of (s9 _ _ e8))
 ·rw [decide_eq_false (show ¬ ((st + wfN sh : Nat) : Int) + (wfN ba : Nat) = (ws.length : Nat) by omega)]
  x_go
  lk
  exact q0 _ s04 (if_neg hw)
abbrev xb6 (K : Fg) : TS :=
 (D8 (M9 (tOr (D5 (tOp wk2 (tCB (R8 K) (A9 (B1 0) B7)) (tC (.int 3)))) (wi8 (tB (D9 (S3 K) [] E0 (A9 (tOp (G5 K) (B1 0) (tC (.int 2))) B7)))))
 (I0 (tC .non)) G8)
 (D8 (J0 (tOp (G5 K) (B1 0) (tC (.int 2))) (C3 1))
 (J0 (tC (.int 3)) (C3 2))))
abbrev xb7 (K : Fg) : TS :=
 (D8 (M9 (D5 (tOp (R1 K) (tOp (G5 K) (B1 0) (tC (.int 1))) (tC (.str ("frame" : Str)))))
 (xb6 K) G8)
 (rrR K))
abbrev xb8 (K : Fg) : TS :=
 (D8 (J0 (tC (.str ("" : Str))) (C3 1))
 (D8 (J0 (tC (.int 2)) (C3 2))
 (xb7 K)))
def qa3 (K : Fg) : Sp := fun vs H Q _ => ∃ (a : Addr) (ws : List Str), vs = [.ref a] /\ H a = some (.lst (B3 ws)) /\ ws.length <= 60 /\ (∀ x ∈ ws, x.length <= 1000) /\ (∀ H', A7 H H' -> rdF ws = none -> Q .non H') /\ ∀ (r : Row) (t : Addr) H', A7 H H' -> rdF ws = some r -> Dv K H' r.da (.ref t) -> Q (.ref t) H'
theorem xb9 (K : Fg) : ∀ vs H Q E, qa3 K vs H Q E -> vs.length = ["words"].length := by rintro vs H Q E ⟨a, ws, rfl, _⟩; rfl
def qj4 (K : Fg) (c_SORTS : Addr) : TS :=
 (D8 (M9 (tOr (D5 (tOp wk2 (tCB (R8 K) (A9 (B1 0) B7)) (tC (.int 2)))) (tOr (wi8 (tB (D9 (S3 K) [] E0 (A9 (tOp (G5 K) (B1 0) (tC (.int 0))) B7)))) (D5 (tOp (X5 K true) (tOp (G5 K) (B1 0) (tC (.int 1))) (tC (.ref c_SORTS))))))
 (I0 (tC .non)) G8)
 (xb8 K))
theorem xi9 (q_SORTS : ∀ H : Hp, SqT K H c_SORTS [.str ("bare" : Str), .str ("plain" : Str), .str ("anew" : Str), .str ("room" : Str), .str ("frame" : Str)]) (h : qa3 K vs H Q E) : qj4 K c_SORTS { nx := fun _ H' => Q .non H', rt := Q } (I9 ["words", "host", "start", "shuts", "bars"] vs) H := by
 obtain ⟨a, ws, rfl, ha, hwl, hwx, q0, q⟩ := h
 show qj4 K c_SORTS _ [some (.ref a), none, none, none, none] H
 unfold qj4
 unfold rdF at q0 q
 have gdl : ∀ i, i < ws.length -> (gd ws i).length <= 1000 := fun i hi => hwx _ (zb7 hi)
 lk
 refine R5 (.inl (SqL.of ha)) ?_
 rw [C2]
 lk
 by_cases h2 : ws.length < 2
 ·rw [decide_eq_true (show ((ws.length : Nat) : Int) < 2 by omega)]
  x_go
  lk
  exact q0 _ A7.refl' (if_pos h2)
 rw [decide_eq_false (show ¬ ((ws.length : Nat) : Int) < 2 by omega)]
 k_go
 rw [if_neg h2] at q0 q
 lk
 refine M5 (SqL.of ha) (v := .str (gd ws 0)) (C5 (j := 0) (wg2 (by omega))) ?_
 have hg0 := gdl 0 (by omega)
 refine ⟨gd ws 0, rfl, by omega, fun H1 s1 => ?_⟩
 refine ⟨_, rfl, ?_⟩
 cases e0 : nmX (gd ws 0) with
 | false =>
   x_go
   lk
   exact q0 _ s1 (if_pos e0)
 | true =>
   k_go
   rw [if_neg (by rw [e0]; exact Bool.noConfusion)] at q0 q
   lk
   refine M5 (SqL.of (s1 _ _ ha)) (v := .str (gd ws 1)) (C5 (j := 1) (wg2 (by omega))) ?_
   lk
   refine .inl (qo9 (xs := B3 R6) (.inr (q_SORTS H1)) rfl (N4 _) ?_)
   rw [P6]
   lk
   by_cases hs : gd ws 1 ∈ R6
   ·rw [decide_eq_true hs]
    k_go
    rw [if_neg (fun z => z hs)] at q0 q
    lk
    refine M5 (SqL.of (s1 _ _ ha)) (v := .str (gd ws 1)) (C5 (j := 1) (wg2 (by omega))) ?_
    lk
    by_cases hf : gd ws 1 = ("frame" : Str)
    ·rw [decide_eq_true hf]
     x_go
     rw [if_pos hf] at q0 q
     lk
     refine R5 (.inl (SqL.of (s1 _ _ ha))) ?_
     rw [C2]
     lk
     by_cases h3 : ws.length < 3
     ·rw [decide_eq_true (show ((ws.length : Nat) : Int) < 3 by omega)]
      x_go
      lk
      exact q0 _ s1 (if_pos h3)
     rw [decide_eq_false (show ¬ ((ws.length : Nat) : Int) < 3 by omega)]
     k_go
     rw [if_neg h3] at q0 q
     lk
     refine M5 (SqL.of (s1 _ _ ha)) (v := .str (gd ws 2)) (C5 (j := 2) (wg2 (by omega))) ?_
     have hg2 := gdl 2 (by omega)
     refine ⟨gd ws 2, rfl, by omega, fun H2 s2 => ?_⟩
     refine ⟨_, rfl, ?_⟩
     have s02 := A7.tr s1 s2
     cases e2 : nmX (gd ws 2) with
     | false =>
       x_go
       lk
       exact q0 _ s02 (if_pos e2)
     | true =>
       k_go
       rw [if_neg (by rw [e2]; exact Bool.noConfusion)] at q0 q
       lk
       refine M5 (SqL.of (s02 _ _ ha)) (v := .str (gd ws 2)) (C5 (j := 2) (wg2 (by omega))) ?_
       lk
       exact zi2 (st := 3) (s02 _ _ ha) (by omega) (by omega) hwl hwx (fun H' s' => q0 H' (A7.tr s02 s')) fun r t H' s' => q r t H' (A7.tr s02 s')
    ·rw [decide_eq_false hf]
     k_go
     rw [if_neg hf] at q0 q
     lk
     exact zi2 (st := 2) (s1 _ _ ha) (by omega) (by omega) hwl hwx (fun H' s' => q0 H' (A7.tr s1 s')) fun r t H' s' => q r t H' (A7.tr s1 s')
   ·rw [decide_eq_false hs]
    x_go
    lk
    exact q0 _ s1 (if_pos hs)
theorem qw3 (z : Str) (xs : List Str) : PySem.Txt.join z xs = Str.join z xs := PySem.StrLaws.glued_eq_join _ _
def xu7 (r : Row) (sh ba : List Str) : Str := Str.join (" " : Str) (M3 r sh ba)
def xc0 (r : Row) (l : Str) : Prop := ∃ sh ba, sh.Perm r.shuts /\ ba.Perm r.bars /\ l = xu7 r sh ba
def wn5 : List Row -> List Str -> Prop
 | [], ls => ls = []
 | r :: rs, ls => ∃ l ls', ls = l :: ls' /\ xc0 r l /\ wn5 rs ls'
theorem wn5.len : ∀ {rs : List Row} {ls : List Str}, wn5 rs ls -> ls.length = rs.length
 | [], _, h => by rw [show _ = [] from h]; rfl
 | r :: rs, _, ⟨l, ls, e, _, h⟩ => by rw [e, List.length_cons, List.length_cons, h.len]
theorem wn5.get : ∀ {rs : List Row} {ls : List Str} {i : Nat} {l : Str}, wn5 rs ls -> ls[i]? = some l -> ∃ r, rs[i]? = some r /\ xc0 r l
 | [], _, i, l, h, e => by rw [show _ = [] from h] at e; simp at e
 | r :: rs, _, 0, l, ⟨l', ls, e, h1, h2⟩, e2 => by subst e; cases e2; exact ⟨r, rfl, h1⟩
 | r :: rs, _, i + 1, l, ⟨l', ls, e, h1, h2⟩, e2 => by
   subst e
   obtain ⟨r2, h3, h4⟩ := h2.get (i := i) (by simpa using e2)
   exact ⟨r2, by simpa using h3, h4⟩
theorem wh8 (h : nmX x = true) : 10 ∉ x.cps.toList /\ 32 ∉ x.cps.toList := by
 have k := (yj9.mp h).low
 exact ⟨fun z => by have := k 10 z; omega, fun z => by have := k 32 z; omega⟩
theorem yb1 : ∀ x ∈ R6, 10 ∉ x.cps.toList /\ 32 ∉ x.cps.toList := by decide +kernel
theorem wn6 (G : qq3 r) (p1 : sh.Perm r.shuts) (p2 : ba.Perm r.bars) : ∀ x ∈ M3 r sh ba, 10 ∉ x.cps.toList /\ 32 ∉ x.cps.toList := by
 intro x hx
 unfold M3 at hx
 rcases List.mem_append.mp hx with hx | hx
 ·rcases List.mem_cons.mp hx with rfl | hx
  ·exact wh8 G.n
  ·rw [List.mem_singleton.mp hx]; exact yb1 _ G.s
 ·rcases List.mem_append.mp hx with hx | hx
  ·unfold qb0 at hx
   split at hx
   ·rename_i hf; rw [List.mem_singleton.mp hx]; exact wh8 (G.f hf)
   ·cases hx
  ·rcases List.mem_append.mp hx with hx | hx
   ·unfold kwL at hx
    split at hx
    ·cases hx
    ·rcases List.mem_cons.mp hx with rfl | hx
     ·decide +kernel
     ·exact wh8 (G.a x (p1.mem_iff.mp hx))
   ·unfold kwL at hx
    split at hx
    ·cases hx
    ·rcases List.mem_cons.mp hx with rfl | hx
     ·decide +kernel
     ·exact wh8 (G.b x (p2.mem_iff.mp hx))
theorem xc1 {c d : Nat} (n : c ≠ d) : ∀ {xs : List Str}, (∀ x ∈ xs, c ∉ x.cps.toList) -> c ∉ jn d xs
 | [], _ => by rw [jn]; simp
 | [x], h => by rw [jn]; exact h x List.mem_cons_self
 | x :: y :: r, h => by
   rw [jn]
   intro z
   rcases List.mem_append.mp z with z | z
   ·exact h x List.mem_cons_self z
   ·rcases List.mem_cons.mp z with z | z
    ·exact n z
    ·exact xc1 n (fun w hw => h w (List.mem_cons_of_mem _ hw)) z
theorem yl1 {c : Nat} {m : Nat} : ∀ {xs : List Str}, (∀ x ∈ xs, x.length <= m) -> (jn c xs).length <= xs.length * (m + 1)
 | [], _ => by rw [jn]; simp
 | [x], h => by
   have := h x List.mem_cons_self
   have e : x.cps.toList.length = x.length := Array.length_toList
   rw [jn, List.length_singleton]; omega
 | x :: y :: r, h => by
   have h1 := h x List.mem_cons_self
   have e : x.cps.toList.length = x.length := Array.length_toList
   have h2 := yl1 (c := c) (xs := y :: r) fun w hw => h w (List.mem_cons_of_mem _ hw)
   rw [jn, List.length_append, List.length_cons, List.length_cons, Nat.add_mul]
   omega
theorem qw4 {m : Nat} (h : ∀ x ∈ xs, x.length <= m) : (Str.join ⟨#[c]⟩ xs).length <= xs.length * (m + 1) := by
 have := yl1 (c := c) h
 rw [<- qj3] at this
 have e : (Str.join ⟨#[c]⟩ xs).cps.toList.length = (Str.join ⟨#[c]⟩ xs).length := Array.length_toList
 omega
theorem qh6 (G : qq3 r) (p1 : sh.Perm r.shuts) (p2 : ba.Perm r.bars) : (M3 r sh ba).length <= 50 /\ ∀ x ∈ M3 r sh ba, x.length <= 10 := by
 have hsl2 : sh.length <= 20 := by rw [p1.length_eq]; exact G.la
 have hbl2 : ba.length <= 20 := by rw [p2.length_eq]; exact G.lb
 have hk1 := wh7 ("shuts" : Str) sh
 have hk2 := wh7 ("bars" : Str) ba
 have hf1 : wfN sh <= 21 := by unfold wfN; split <;> omega
 have hf2 : wfN ba <= 21 := by unfold wfN; split <;> omega
 have hhl : (qb0 r).length <= 1 := by unfold qb0; split <;> simp
 refine ⟨?_, fun x hx => ?_⟩
 ·unfold M3
  rw [List.length_append, List.length_append, List.length_append, hk1, hk2]
  show 2 + _ <= _
  omega
 ·have nl : ∀ {z : Str}, nmX z = true -> z.length <= 10 := fun h => by have := yk7 h; omega
  unfold M3 at hx
  rcases List.mem_append.mp hx with hx | hx
  ·rcases List.mem_cons.mp hx with rfl | hx
   ·exact nl G.n
   ·rw [List.mem_singleton.mp hx]; have := yk8 _ G.s; omega
  ·rcases List.mem_append.mp hx with hx | hx
   ·unfold qb0 at hx
    split at hx
    ·rename_i hf; rw [List.mem_singleton.mp hx]; exact nl (G.f hf)
    ·cases hx
   ·rcases List.mem_append.mp hx with hx | hx
    ·unfold kwL at hx
     split at hx
     ·cases hx
     ·rcases List.mem_cons.mp hx with rfl | hx
      ·decide +kernel
      ·exact nl (G.a x (p1.mem_iff.mp hx))
    ·unfold kwL at hx
     split at hx
     ·cases hx
     ·rcases List.mem_cons.mp hx with rfl | hx
      ·decide +kernel
      ·exact nl (G.b x (p2.mem_iff.mp hx))
theorem yl2 {l : Str} (G : qq3 r) (h : xc0 r l) : l.length <= 600 := by
 obtain ⟨sh, ba, p1, p2, rfl⟩ := h
 obtain ⟨h1, h2⟩ := qh6 G p1 p2
 have := qw4 (c := 32) h2
 have h3 : (M3 r sh ba).length * (10 + 1) <= 50 * 11 := Nat.mul_le_mul_right _ h1
 show (Str.join ⟨#[32]⟩ (M3 r sh ba)).length <= 600
 omega
def rdL (l : Str) : Option Row := rdF (PySem.Txt.split l (" " : Str))
structure ws7 (l : Str) : Prop where
 n : 10 ∉ l.cps.toList
 z : l.length <= 1000
 w : (PySem.Txt.split l (" " : Str)).length <= 60
 x : ∀ y ∈ PySem.Txt.split l (" " : Str), y.length <= 1000
structure wg3 (ls : List Str) (m : Nat) : Prop where
 lt : m < ls.length
 bad : ∀ l, ls[m]? = some l -> rdL l = none \/ 12 <= m
 ok : ∀ j l, j < m -> ls[j]? = some l -> rdL l ≠ none /\ j < 12
variable {ls : List Str}
theorem wn7 (hne : ls ≠ []) (h : ∀ l ∈ ls, ws7 l) : PySem.Txt.split (Str.join ("\n" : Str) ls) ("\n" : Str) = ls := qs2 (c := 10) hne fun x hx => (h x hx).n
theorem xp8 (h : ∀ l ∈ ls, ws7 l) (hl : ls.length <= 20) : (Str.join ("\n" : Str) ls).length <= 20 * 1001 := by
 have h1 := qw4 (c := 10) (m := 1000) (xs := ls) fun x hx => (h x hx).z
 have h2 : ls.length * (1000 + 1) <= 20 * 1001 := Nat.mul_le_mul_right _ hl
 show (Str.join ⟨#[10]⟩ ls).length <= _
 omega
inductive Rrw (K : Fg) (H0 : Hp) (z : Str) (p : Addr) (ls : List Str) (i : Nat) : St -> Hp -> Prop
 | mk {H' : Hp} {a2 a3 a4 : Option V} {us : List V} {rs : List Row} (s : A7 H0 H') (g : H' p = some (.lst us)) (d : Dvs K H' (rs.map Row.da) us) (e : (ls.take i).map rdL = rs.map some) : Rrw K H0 z p ls i [some (.str z), some (.ref p), a2, a3, a4] H'
abbrev ws8 (K : Fg) : TS :=
 (D8 (M9 (tOr (D5 (tOp wq7 (B1 4) (tC .non))) (D5 (tOp yp2 (B1 2) (tC (.int 12)))))
 wx1 G8)
 (qc8 (tBM K "list" S7 (B1 1) (A9 (B1 4) B7))))
abbrev ws9 (K : Fg) : TS :=
 (D8 (J0 (D9 (qa3 K) [] E0 (A9 (tBM K "str" wm2 (B1 3) (A9 (tC (.str (" " : Str))) B7)) B7)) (C3 4))
 (ws8 K))
abbrev wt0 (K : Fg) : TS :=
 (D8 (ql8 (wm0 K (A9 (tBM K "str" wm2 (B1 0) (A9 (tC (.str ("\n" : Str))) B7)) B7)) (xl7 K 2 (qc9 (C3 2) (qc9 (C3 3) xl6)))
 (ws9 K))
 (I0 (B1 1)))
def qb7 (K : Fg) : Sp := fun vs H Q _ => ∃ (z : Str) (ls : List Str), vs = [.str z] /\ ls ≠ [] /\ ls.length <= 12 /\ (∀ l ∈ ls, ws7 l) /\ z = Str.join ("\n" : Str) ls /\ (∀ l ∈ ls, rdL l ≠ none) /\ ∀ (p : Addr) (us : List V) (rs : List Row) H', A7 H H' -> H' p = some (.lst us) -> Dvs K H' (rs.map Row.da) us -> ls.map rdL = rs.map some -> Q (.ref p) H'
theorem wt1 (K : Fg) : ∀ vs H Q E, qb7 K vs H Q E -> vs.length = ["text"].length := by rintro vs H Q E ⟨z, ls, rfl, _⟩; rfl
def qf2 (K : Fg) : TS :=
 (D8 (J0 (O9 B7) (C3 1))
 (wt0 K))
theorem xc2 (h : qb7 K vs H Q E) : qf2 K { nx := fun _ H' => Q .non H', rt := Q } (I9 ["text", "rows", "number", "line", "row"] vs) H := by
 obtain ⟨z, ls, rfl, hne, hz, hL, ez, hR, q⟩ := h
 show qf2 K _ [some (.str z), none, none, none, none] H
 unfold qf2
 have hzl := xp8 hL (by omega)
 have hsp := wn7 hne hL
 rw [<- ez] at hzl hsp
 lk
 refine ⟨G1 (by z_go), fun p hp => ?_⟩
 have s1 := A7.new hp (.lst [])
 have e1 : (upd H p (.lst [])) p = some (.lst []) := A8
 generalize upd H p (.lst []) = H1 at *
 lk
 refine qv2 ?_
 lk
 refine ⟨rfl, ?_⟩
 lk
 refine ⟨z, _, rfl, rfl, by decide +kernel, by omega, fun p2 hp2 => ?_⟩
 rw [hsp]
 have s2 := A7.new hp2 (.lst (B3 ls))
 have e2 : (upd H1 p2 (.lst (B3 ls))) p2 = some (.lst (B3 ls)) := A8
 have np2 : p2 ≠ p := fun z => by rw [z, e1] at hp2; cases hp2
 have e12 := s2 _ _ e1
 have s02 := A7.tr s1 s2
 generalize upd H1 p2 (.lst (B3 ls)) = H2 at *
 lk
 refine qp2 (SqL.of e2) (fun i σ H' => H' p2 = some (.lst (B3 ls)) /\ Rrw K H z p ls i σ H') ⟨e2, .mk (rs := []) s02 e12 G7 rfl⟩ (fun i σ H' p => SqL.of p.1) ?_ ?_
 ·rintro i x σ H' t hx ⟨h2, s, g, d, ee⟩ ht
  rename_i a2 a3 a4 us rs
  obtain ⟨l, hl, rfl⟩ := Q4 hx
  have O := hL l (List.mem_of_getElem? hl)
  have hi : i < ls.length := (List.getElem?_eq_some_iff.mp hl).1
  have et : ls.take (i + 1) = ls.take i ++ [l] := by rw [List.take_add_one, hl]; rfl
  have lus : us.length = i := by
   have h1 := d.length
   have h2 := congrArg List.length ee
   rw [List.length_map] at h1
   rw [List.length_map, List.length_map, List.length_take] at h2
   omega
  have s3 := A7.new ht (.tup [.int i, .str l])
  refine ⟨t, _, rfl, SqT.of A8, rfl, _, _, rfl, J9 ⟨_, _, rfl, J9 ⟨rfl, ?_⟩⟩⟩
  generalize upd H' t (.tup [.int i, .str l]) = H3 at *
  have hz1 := O.z
  lk
  refine ⟨rfl, ?_⟩
  lk
  refine ⟨_, _, rfl, rfl, by decide +kernel, by omega, fun p4 hp4 => ?_⟩
  have s4 := A7.new hp4 (.lst (B3 (PySem.Txt.split l (" " : Str))))
  have e4 : (upd H3 p4 (.lst (B3 (PySem.Txt.split l (" " : Str))))) p4 = some (.lst (B3 (PySem.Txt.split l (" " : Str)))) := A8
  generalize upd H3 p4 (.lst (B3 (PySem.Txt.split l (" " : Str)))) = H4 at *
  lk
  refine ⟨p4, _, rfl, e4, O.w, O.x, fun H5 s5 e5 => absurd e5 (hR l (List.mem_of_getElem? hl)), fun r t5 H5 s5 e5 hd5 => ?_⟩
  have s35 := A7.tr s3 (A7.tr s4 s5)
  lk
  rw [decide_eq_false (show ¬ V.ref t5 = .non from fun z => by cases z)]
  k_go
  lk
  rw [decide_eq_false (show ¬ (12 : Int) <= (i : Int) by omega)]
  k_go
  lk
  refine ⟨.inl ⟨rfl, _, SqL.of (s35 _ _ g)⟩, ?_⟩
  lk
  refine S2 (s35 _ _ g) (by rw [lus, sizeLine_eq]; omega) ?_
  have tk := xi1 (ys := us ++ [.ref t5]) (s35 _ _ g)
  refine ⟨by rw [C4 np2]; exact s35 _ _ h2, .mk (rs := rs ++ [r]) (A7.put (A7.tr s s35) hp _) A8 ?_ ?_⟩
  ·rw [List.map_append]
   exact qv7 (Dvs.tupK tk _ _ (qv6 _) (Dvs.same s35 _ _ d)) (E6 (Dv.tupK tk _ _ (wh5 _) hd5) G7)
  ·rw [et, List.map_append, List.map_append, ee]
   show _ ++ [rdL l] = _
   rw [show rdL l = some r from e5]; rfl
 ·rintro σ H' ⟨h2, s, g, d, ee⟩
  rw [C2, List.take_length] at ee
  lk
  exact q p _ _ H' s g d ee
def V5 (K : Fg) : Sp := fun vs H Q _ => ∃ (e C : Addr) (i : Int), vs = [.ref e, .int i] /\ H e = some (ErX e C none) /\ SeI K C "row" /\ i.natAbs <= 1000 /\ ∀ dx, H dx = none -> dx ≠ e -> Q .non (upd (upd H e (ErX e C (some dx))) dx (.xd [("row", .int i)]))
theorem xc3 (K : Fg) : ∀ vs H Q E, V5 K vs H Q E -> vs.length = ["self", "row"].length := by rintro vs H Q E ⟨e, C, i, rfl, _⟩; rfl
def qj5 (K : Fg) : TS :=
 (D8 (qc8 (yr4 K (A9 (B1 0) (A9 (yr3 ("row " : Str) (" does not have the form of a book's row" : Str) (B1 1)) B7))))
 (ya4 K (B1 0) (B1 1) "row"))
theorem xj0 (h : V5 K vs H Q E) : qj5 K { nx := fun _ H' => Q .non H', rt := Q } (I9 ["self", "row"] vs) H := by
 obtain ⟨e, C, i, rfl, he, S, hi, q⟩ := h
 show qj5 K _ [some (.ref e), some (.int i)] H
 unfold qj5
 lk
 refine yi2 ?_
 lk
 refine yi3 ?_
 lk
 refine ⟨hi, ?_⟩
 lk
 refine ⟨e, C, none, _, rfl, he, S.qi, ?_⟩
 show ya4 K (B1 0) (B1 1) "row" { nx := fun _ H' => Q .non H', rt := Q } _ _
 refine yi4 ?_
 lk
 exact ⟨e, C, rfl, he, S, q⟩
theorem ys6 (hz : ls.length <= 12) (h : ¬ ∀ l ∈ ls, rdL l ≠ none) : ∃ m, wg3 ls m := by
 induction ls with
 | nil => exact absurd (fun l hl => nomatch hl) h
 | cons l ls ih =>
   by_cases e : rdL l = none
   ·refine ⟨0, Nat.succ_pos _, fun x hx => ?_, fun j x hj => absurd hj (Nat.not_lt_zero _)⟩
    have : x = l := by simpa using hx.symm
    rw [this]; exact .inl e
   ·have h2 : ¬ ∀ l ∈ ls, rdL l ≠ none := fun z => h fun x hx => by
     rcases List.mem_cons.mp hx with rfl | hx
     ·exact e
     ·exact z x hx
    rw [List.length_cons] at hz
    obtain ⟨m, F⟩ := ih (by omega) h2
    refine ⟨m + 1, by have := F.lt; rw [List.length_cons]; omega, fun x hx => ?_, fun j x hj hx => ?_⟩
    ·rw [List.getElem?_cons_succ] at hx
     rcases F.bad x hx with z | z
     ·exact .inl z
     ·exact .inr (by omega)
    ·have := F.lt
     cases j with
     | zero => rw [List.getElem?_cons_zero] at hx; injection hx with hx; rw [<- hx]; exact ⟨e, by decide⟩
     | succ j => rw [List.getElem?_cons_succ] at hx; exact ⟨(F.ok j x (by omega) hx).1, by omega⟩
abbrev wn8 (K : Fg) (k_NoText : Addr) (E : XK) : TS :=
 (D8 (M9 (tOr (D5 (tOp wq7 (B1 4) (tC .non))) (D5 (tOp yp2 (B1 2) (tC (.int 12)))))
 (qp3 k_NoText E (V5 K) (A9 (B1 2) B7)) G8)
 (qc8 (tBM K "list" S7 (B1 1) (A9 (B1 4) B7))))
abbrev wn9 (K : Fg) (k_NoText : Addr) (E : XK) : TS :=
 (D8 (J0 (D9 (qa3 K) [] E0 (A9 (tBM K "str" wm2 (B1 3) (A9 (tC (.str (" " : Str))) B7)) B7)) (C3 4))
 (wn8 K k_NoText E))
abbrev wo2 (K : Fg) (k_NoText : Addr) (E : XK) : TS :=
 (D8 (ql8 (wm0 K (A9 (tBM K "str" wm2 (B1 0) (A9 (tC (.str ("\n" : Str))) B7)) B7)) (xl7 K 2 (qc9 (C3 2) (qc9 (C3 3) xl6)))
 (wn9 K k_NoText E))
 (I0 (B1 1)))
def Y6 (K : Fg) (kX : Addr) : Sp := fun vs H Q E => ∃ (z : Str) (ls : List Str), vs = [.str z] /\ ls ≠ [] /\ ls.length <= 12 /\ (∀ l ∈ ls, ws7 l) /\ z = Str.join ("\n" : Str) ls /\ (∀ (p : Addr) (us : List V) (rs : List Row) H', A7 H H' -> H' p = some (.lst us) -> Dvs K H' (rs.map Row.da) us -> ls.map rdL = rs.map some -> Q (.ref p) H') /\ ∀ (m : Nat) (dx : Addr) H', wg3 ls m -> A7 H H' -> H' dx = some (.xd [("row", .int m)]) -> E (.ref kX) (some dx) H'
theorem wo4 (K : Fg) (kX : Addr) : ∀ vs H Q E, Y6 K kX vs H Q E -> vs.length = ["text"].length := by rintro vs H Q E ⟨z, ls, rfl, _⟩; rfl
def T0 (K : Fg) (k_NoText : Addr) (E : XK) : TS :=
 (D8 (J0 (O9 B7) (C3 1))
 (wo2 K k_NoText E))
variable {kX : Addr}
theorem wt2 (se : SeI K kX "row") (h : Y6 K kX vs H Q E) : T0 K kX E { nx := fun _ H' => Q .non H', rt := Q } (I9 ["text", "rows", "number", "line", "row"] vs) H := by
 obtain ⟨z, ls, rfl, hne, hz, hL, ez, q, q'⟩ := h
 by_cases hR : ∀ l ∈ ls, rdL l ≠ none
 ·show T0 K _ _ _ [some (.str z), none, none, none, none] H
  unfold T0
  have hzl := xp8 hL (by omega)
  have hsp := wn7 hne hL
  rw [<- ez] at hzl hsp
  lk
  refine ⟨G1 (by z_go), fun p hp => ?_⟩
  have s1 := A7.new hp (.lst [])
  have e1 : (upd H p (.lst [])) p = some (.lst []) := A8
  generalize upd H p (.lst []) = H1 at *
  lk
  refine qv2 ?_
  lk
  refine ⟨rfl, ?_⟩
  lk
  refine ⟨z, _, rfl, rfl, by decide +kernel, by omega, fun p2 hp2 => ?_⟩
  rw [hsp]
  have s2 := A7.new hp2 (.lst (B3 ls))
  have e2 : (upd H1 p2 (.lst (B3 ls))) p2 = some (.lst (B3 ls)) := A8
  have np2 : p2 ≠ p := fun z => by rw [z, e1] at hp2; cases hp2
  have e12 := s2 _ _ e1
  have s02 := A7.tr s1 s2
  generalize upd H1 p2 (.lst (B3 ls)) = H2 at *
  lk
  refine qp2 (SqL.of e2) (fun i σ H' => H' p2 = some (.lst (B3 ls)) /\ Rrw K H z p ls i σ H') ⟨e2, .mk (rs := []) s02 e12 G7 rfl⟩ (fun i σ H' p => SqL.of p.1) ?_ ?_
  ·rintro i x σ H' t hx ⟨h2, s, g, d, ee⟩ ht
   rename_i a2 a3 a4 us rs
   obtain ⟨l, hl, rfl⟩ := Q4 hx
   have O := hL l (List.mem_of_getElem? hl)
   have hi : i < ls.length := (List.getElem?_eq_some_iff.mp hl).1
   have et : ls.take (i + 1) = ls.take i ++ [l] := by rw [List.take_add_one, hl]; rfl
   have lus : us.length = i := by
    have h1 := d.length
    have h2 := congrArg List.length ee
    rw [List.length_map] at h1
    rw [List.length_map, List.length_map, List.length_take] at h2
    omega
   have s3 := A7.new ht (.tup [.int i, .str l])
   refine ⟨t, _, rfl, SqT.of A8, rfl, _, _, rfl, J9 ⟨_, _, rfl, J9 ⟨rfl, ?_⟩⟩⟩
   generalize upd H' t (.tup [.int i, .str l]) = H3 at *
   have hz1 := O.z
   lk
   refine ⟨rfl, ?_⟩
   lk
   refine ⟨_, _, rfl, rfl, by decide +kernel, by omega, fun p4 hp4 => ?_⟩
   have s4 := A7.new hp4 (.lst (B3 (PySem.Txt.split l (" " : Str))))
   have e4 : (upd H3 p4 (.lst (B3 (PySem.Txt.split l (" " : Str))))) p4 = some (.lst (B3 (PySem.Txt.split l (" " : Str)))) := A8
   generalize upd H3 p4 (.lst (B3 (PySem.Txt.split l (" " : Str)))) = H4 at *
   lk
   refine ⟨p4, _, rfl, e4, O.w, O.x, fun H5 s5 e5 => absurd e5 (hR l (List.mem_of_getElem? hl)), fun r t5 H5 s5 e5 hd5 => ?_⟩
   have s35 := A7.tr s3 (A7.tr s4 s5)
   lk
   rw [decide_eq_false (show ¬ V.ref t5 = .non from fun z => by cases z)]
   k_go
   lk
   rw [decide_eq_false (show ¬ (12 : Int) <= (i : Int) by omega)]
   k_go
   lk
   refine ⟨.inl ⟨rfl, _, SqL.of (s35 _ _ g)⟩, ?_⟩
   lk
   refine S2 (s35 _ _ g) (by rw [lus, sizeLine_eq]; omega) ?_
   have tk := xi1 (ys := us ++ [.ref t5]) (s35 _ _ g)
   refine ⟨by rw [C4 np2]; exact s35 _ _ h2, .mk (rs := rs ++ [r]) (A7.put (A7.tr s s35) hp _) A8 ?_ ?_⟩
   ·rw [List.map_append]
    exact qv7 (Dvs.tupK tk _ _ (qv6 _) (Dvs.same s35 _ _ d)) (E6 (Dv.tupK tk _ _ (wh5 _) hd5) G7)
   ·rw [et, List.map_append, List.map_append, ee]
    show _ ++ [rdL l] = _
    rw [show rdL l = some r from e5]; rfl
  ·rintro σ H' ⟨h2, s, g, d, ee⟩
   rw [C2, List.take_length] at ee
   lk
   exact q p _ _ H' s g d ee
 ·obtain ⟨m, F⟩ := ys6 hz hR
  replace q := fun dx H' => q' m dx H' F
  show T0 K _ _ _ [some (.str z), none, none, none, none] H
  unfold T0
  have hne : ls ≠ [] := fun z => by have := F.lt; rw [z] at this; exact absurd this (Nat.not_lt_zero _)
  have hzl := xp8 hL (by omega)
  have hsp := wn7 hne hL
  rw [<- ez] at hzl hsp
  lk
  refine ⟨G1 (by z_go), fun p hp => ?_⟩
  have s1 := A7.new hp (.lst [])
  have e1 : (upd H p (.lst [])) p = some (.lst []) := A8
  generalize upd H p (.lst []) = H1 at *
  lk
  refine qv2 ?_
  lk
  refine ⟨rfl, ?_⟩
  lk
  refine ⟨z, _, rfl, rfl, by decide +kernel, by omega, fun p2 hp2 => ?_⟩
  rw [hsp]
  have s2 := A7.new hp2 (.lst (B3 ls))
  have e2 : (upd H1 p2 (.lst (B3 ls))) p2 = some (.lst (B3 ls)) := A8
  have np2 : p2 ≠ p := fun z => by rw [z, e1] at hp2; cases hp2
  have e12 := s2 _ _ e1
  have s02 := A7.tr s1 s2
  generalize upd H1 p2 (.lst (B3 ls)) = H2 at *
  lk
  refine qp2 (SqL.of e2) (fun i σ H' => H' p2 = some (.lst (B3 ls)) /\ i <= m /\ ∃ (a2 a3 a4 : Option V) (us : List V), A7 H H' /\ H' p = some (.lst us) /\ us.length = i /\ σ = [some (.str z), some (.ref p), a2, a3, a4]) ⟨e2, Nat.zero_le _, _, _, _, [], s02, e12, rfl, rfl⟩ (fun i σ H' p => SqL.of p.1) ?_ ?_
  ·rintro i x σ H' t hx ⟨h2, him, a2, a3, a4, us, s, g, lus, rfl⟩ ht
   obtain ⟨l, hl, rfl⟩ := Q4 hx
   have O := hL l (List.mem_of_getElem? hl)
   have hi : i < ls.length := (List.getElem?_eq_some_iff.mp hl).1
   have s3 := A7.new ht (.tup [.int i, .str l])
   refine ⟨t, _, rfl, SqT.of A8, rfl, _, _, rfl, J9 ⟨_, _, rfl, J9 ⟨rfl, ?_⟩⟩⟩
   generalize upd H' t (.tup [.int i, .str l]) = H3 at *
   have hz1 := O.z
   have raise : ∀ {H6 : Hp} {v4 : V}, A7 H H6 -> i = m -> qp3 kX E (V5 K) (A9 (B1 2) B7) { nx := fun _ _ => True, rt := Q } [some (.str z), some (.ref p), some (.int i), some (.str l), some v4] H6 := by
    intro H6 v4 s6 em
    subst em
    refine ww2 ?_
    lk
    refine ⟨G1 (by z_go), fun e he => ⟨e, kX, i, rfl, A8, se, by omega, fun dx hdx ne => ⟨rfl, some dx, ?_, q dx _ ?_ ?_⟩⟩⟩
    ·rw [C4 (Ne.symm ne), A8]
    ·intro c u g
     have g1 := s6 c u g
     rw [C4 ne] at hdx
     have n1 := S9 g1 he
     have n2 := S9 g1 hdx
     rw [qd1 n1, C4 n2, C4 n1, C4 n1]; exact g1
    ·rw [qd1 ne, A8]
   lk
   refine ⟨rfl, ?_⟩
   lk
   refine ⟨_, _, rfl, rfl, by decide +kernel, by omega, fun p4 hp4 => ?_⟩
   have s4 := A7.new hp4 (.lst (B3 (PySem.Txt.split l (" " : Str))))
   have e4 : (upd H3 p4 (.lst (B3 (PySem.Txt.split l (" " : Str))))) p4 = some (.lst (B3 (PySem.Txt.split l (" " : Str)))) := A8
   generalize upd H3 p4 (.lst (B3 (PySem.Txt.split l (" " : Str)))) = H4 at *
   lk
   refine ⟨p4, _, rfl, e4, O.w, O.x, fun H5 s5 e5 => ?_, fun r t5 H5 s5 e5 hd5 => ?_⟩
   ·have s35 := A7.tr s3 (A7.tr s4 s5)
    lk
    rw [decide_eq_true rfl]
    x_go
    have em : i = m := by
     rcases Nat.lt_or_ge i m with h | h
     ·exact absurd e5 (F.ok i l h hl).1
     ·omega
    exact raise (A7.tr s s35) em
   ·have s35 := A7.tr s3 (A7.tr s4 s5)
    lk
    rw [decide_eq_false (show ¬ V.ref t5 = .non from fun z => by cases z)]
    k_go
    lk
    by_cases h12 : 12 <= i
    ·rw [decide_eq_true (show (12 : Int) <= (i : Int) by omega)]
     x_go
     have em : i = m := by
      rcases Nat.lt_or_ge i m with h | h
      ·have := (F.ok i l h hl).2; omega
      ·omega
     exact raise (A7.tr s s35) em
    ·rw [decide_eq_false (show ¬ (12 : Int) <= (i : Int) by omega)]
     k_go
     have hlt : i < m := by
      rcases Nat.lt_or_ge i m with h | h
      ·exact h
      ·obtain rfl : i = m := by omega
       rcases F.bad l hl with z | z
       ·have e5 : rdL l = some r := e5
        rw [z] at e5; cases e5
       ·omega
     lk
     refine ⟨.inl ⟨rfl, _, SqL.of (s35 _ _ g)⟩, ?_⟩
     lk
     refine S2 (s35 _ _ g) (by rw [lus, sizeLine_eq]; omega) ?_
     refine ⟨by rw [C4 np2]; exact s35 _ _ h2, hlt, _, _, _, us ++ [.ref t5], A7.put (A7.tr s s35) hp _, A8, by rw [List.length_append, lus]; rfl, rfl⟩
  ·rintro σ H' ⟨h2, him, a2, a3, a4, us, s, g, lus, rfl⟩
   have := F.lt
   rw [C2] at him
   omega
def qf3 (K : Fg) : Sp := fun vs H Q _ => ∃ (e C : Addr) (i : Int), vs = [.ref e, .int i] /\ H e = some (ErX e C none) /\ SeI K C "row" /\ i.natAbs <= 1000 /\ ∀ dx, H dx = none -> dx ≠ e -> Q .non (upd (upd H e (ErX e C (some dx))) dx (.xd [("row", .int i)]))
theorem xc4 (K : Fg) : ∀ vs H Q E, qf3 K vs H Q E -> vs.length = ["self", "row"].length := by rintro vs H Q E ⟨e, C, i, rfl, _⟩; rfl
def qj6 (K : Fg) : TS :=
 (D8 (qc8 (yr4 K (A9 (B1 0) (A9 (yr3 ("row " : Str) (" does not fit into a book with the other rows" : Str) (B1 1)) B7))))
 (ya4 K (B1 0) (B1 1) "row"))
theorem xj1 (h : qf3 K vs H Q E) : qj6 K { nx := fun _ H' => Q .non H', rt := Q } (I9 ["self", "row"] vs) H := by
 obtain ⟨e, C, i, rfl, he, S, hi, q⟩ := h
 show qj6 K _ [some (.ref e), some (.int i)] H
 unfold qj6
 lk
 refine yi2 ?_
 lk
 refine yi3 ?_
 lk
 refine ⟨hi, ?_⟩
 lk
 refine ⟨e, C, none, _, rfl, he, S.qi, ?_⟩
 show ya4 K (B1 0) (B1 1) "row" { nx := fun _ H' => Q .non H', rt := Q } _ _
 refine yi4 ?_
 lk
 exact ⟨e, C, rfl, he, S, q⟩
abbrev wt3 (K : Fg) : TS :=
 (D8 (M9 (D5 (tOp qi5 (B1 2) (tC .non)))
 wx1 G8)
 (I0 (tCB (Y3 K) (A9 (B1 1) B7))))
def rbT (K : Fg) : TS :=
 (D8 (J0 (D9 (P1 K) [] E0 (A9 (B1 1) B7)) (C3 2))
 (wt3 K))
theorem zi3 (hp : H p = some (.lst us)) (hd : Dvs K H (rs.map Row.da) us) (hz : rs.length <= 12) (hS : ∀ r ∈ rs, Sml r) (hM : wf7 rs) (q : ∀ (t : Addr) H', A7 H H' -> H' t = some (.tup us) -> Dvs K H' (rs.map Row.da) us -> D.rt (.ref t) H') : rbT K D [some (.str z), some (.ref p), none] H := by
 unfold rbT
 lk
 refine ⟨p, us, rs, rfl, .inl (SqL.of hp), hd, by omega, hS, fun H1 s1 _ => ?_, fun i H1 s1 m => absurd hM m.not⟩
 lk
 k_go
 lk
 refine ⟨p, _, rfl, .inl ⟨SqL.of (s1 _ _ hp), fun t ht => ?_⟩⟩
 have s2 := A7.new ht (.tup us)
 exact q t _ (A7.tr s1 s2) A8 (Dvs.same (A7.tr s1 s2) _ _ hd)
theorem xc5 (h0 : ls ≠ []) (h1 : ls ≠ [("" : Str)]) : Str.join ("\n" : Str) ls ≠ ("" : Str) := by
 intro e
 have e2 : (Str.join ⟨#[10]⟩ ls).cps.toList = jn 10 ls := qj3 10 _
 have e3 : ([] : List Nat) = jn 10 ls := by rw [<- e2]; show _ = (Str.join ("\n" : Str) ls).cps.toList; rw [e]; rfl
 match ls, h0, h1, e3 with
 | [l], _, h1, e3 =>
   refine h1 ?_
   rw [jn] at e3
   have : l = ("" : Str) := qp4 (by rw [<- e3]; rfl)
   rw [this]
 | l :: m :: ls, _, _, e3 => rw [jn] at e3; have := congrArg List.length e3; simp at this
theorem qw5 {qs : List Row} (h : ls.map rdL = rs.map some) (g : ls.map rdL = qs.map some) : rs = qs := by
 have e : rs.map some = qs.map some := by rw [<- h, <- g]
 have : ∀ {a b : List Row}, a.map some = b.map some -> a = b := by
  intro a
  induction a with
  | nil => intro b h; cases b with
    | nil => rfl
    | cons _ _ => cases h
  | cons x a ih => intro b h; cases b with
    | nil => cases h
    | cons y b => injection h with h1 h2; injection h1 with h1; rw [h1, ih h2]
 exact this e
abbrev wt4 (K : Fg) : TS :=
 (D8 (J0 (tIf (D5 (tOp (R1 K) (B1 0) (tC (.str ("" : Str))))) (O9 B7) (D9 (qb7 K) [] E0 (A9 (B1 0) B7))) (C3 1))
 (rbT K))
def qb8 (K : Fg) : Sp := fun vs H Q _ => ∃ (z : Str) (ls : List Str) (rs : List Row), vs = [.str z] /\ (z = ("" : Str) /\ rs = [] \/ ls ≠ [] /\ ls ≠ [("" : Str)] /\ ls.length <= 12 /\ (∀ l ∈ ls, ws7 l) /\ z = Str.join ("\n" : Str) ls /\ ls.map rdL = rs.map some) /\ (∀ r ∈ rs, Sml r) /\ wf7 rs /\ ∀ (t : Addr) (us : List V) H', A7 H H' -> H' t = some (.tup us) -> Dvs K H' (rs.map Row.da) us -> Q (.ref t) H'
theorem wt5 (K : Fg) : ∀ vs H Q E, qb8 K vs H Q E -> vs.length = ["text"].length := by rintro vs H Q E ⟨z, ls, rs, rfl, _⟩; rfl
def qf4 (K : Fg) : TS :=
 (D8 (M9 (wi8 (tB (tCB (yf4 K) (A9 (B1 0) (A9 (tC (.ty "str")) B7)))))
 wx1 G8)
 (wt4 K))
theorem xc6 (h : qb8 K vs H Q E) : qf4 K { nx := fun _ H' => Q .non H', rt := Q } (I9 ["text", "rows", "misfit"] vs) H := by
 obtain ⟨z, ls, rs, rfl, hb, hS, hM, q⟩ := h
 show qf4 K _ [some (.str z), none, none] H
 unfold qf4
 lk
 refine yv1 (.str _) (b := true) rfl ?_
 lk
 k_go
 lk
 rcases hb with ⟨rfl, rfl⟩ | ⟨h0, h1, hz, hL, ez, hR⟩
 ·rw [decide_eq_true rfl]
  x_go
  lk
  refine ⟨G1 (by z_go), fun p hp => ?_⟩
  have s1 := A7.new hp (.lst [])
  have e1 : (upd H p (.lst [])) p = some (.lst []) := A8
  generalize upd H p (.lst []) = H1 at *
  refine J9 ?_
  exact zi3 (rs := []) e1 G7 (by decide) hS hM fun t H' s' h hd => q t _ H' (A7.tr s1 s') h hd
 ·have hzn : ¬ z = ("" : Str) := by rw [ez]; exact xc5 h0 h1
  rw [decide_eq_false hzn]
  k_go
  lk
  have hlr : rs.length = ls.length := by have := congrArg List.length hR; rw [List.length_map, List.length_map] at this; exact this.symm
  refine ⟨z, ls, rfl, h0, hz, hL, ez, fun l hl e => ?_, fun p us qs H1 s1 h1 h2 h3 => ?_⟩
  ·have : (none : Option Row) ∈ rs.map some := by rw [<- hR, <- e]; exact List.mem_map_of_mem hl
   obtain ⟨_, _, z⟩ := List.mem_map.mp this
   cases z
  ·obtain rfl := qw5 h3 hR
   lk
   exact zi3 h1 h2 (by omega) hS hM fun t H' s' h hd => q t _ H' (A7.tr s1 s') h hd
abbrev qd5 (K : Fg) (k_NoBook : Addr) (E : XK) : TS :=
 (D8 (M9 (D5 (tOp qi5 (B1 2) (tC .non)))
 (qp3 k_NoBook E (qf3 K) (A9 (B1 2) B7)) G8)
 (I0 (tCB (Y3 K) (A9 (B1 1) B7))))
abbrev qd6 (K : Fg) (k_NoBook : Addr) (E : XK) : TS :=
 (D8 (J0 (D9 (P1 K) [] E0 (A9 (B1 1) B7)) (C3 2))
 (qd5 K k_NoBook E))
abbrev wo5 (K : Fg) (k_NoText : Addr) (k_NoBook : Addr) (E : XK) : TS :=
 (D8 (J0 (tIf (D5 (tOp (R1 K) (B1 0) (tC (.str ("" : Str))))) (O9 B7) (D9 (Y6 K k_NoText) [] E (A9 (B1 0) B7))) (C3 1))
 (qd6 K k_NoBook E))
def Y7 (K : Fg) (kX : Addr) (kY : Addr) : Sp := fun vs H Q E => ∃ (z : Str) (ls : List Str), vs = [.str z] /\ ls ≠ [] /\ ls.length <= 12 /\ (∀ l ∈ ls, ws7 l) /\ z = Str.join ("\n" : Str) ls /\ (∀ l ∈ ls, ∀ r, rdL l = some r -> Sml r) /\
 (ls = [("" : Str)] -> ∀ (t : Addr) H', A7 H H' -> H' t = some (.tup []) -> Q (.ref t) H') /\
 (∀ rs, ls ≠ [("" : Str)] -> ls.map rdL = rs.map some -> wf7 rs -> ∀ (t : Addr) (us : List V) H', A7 H H' -> H' t = some (.tup us) -> Dvs K H' (rs.map Row.da) us -> Q (.ref t) H') /\
 (∀ rs m, ls ≠ [("" : Str)] -> ls.map rdL = rs.map some -> wf9 rs m -> ∀ (dx : Addr) H', A7 H H' -> H' dx = some (.xd [("row", .int m)]) -> E (.ref kY) (some dx) H') /\
 ∀ m, ls ≠ [("" : Str)] -> wg3 ls m -> ∀ (dx : Addr) H', A7 H H' -> H' dx = some (.xd [("row", .int m)]) -> E (.ref kX) (some dx) H'
theorem wo6 (K : Fg) (kX : Addr) (kY : Addr) : ∀ vs H Q E, Y7 K kX kY vs H Q E -> vs.length = ["text"].length := by rintro vs H Q E ⟨z, ls, rfl, _⟩; rfl
def qb9 (K : Fg) (k_NoText : Addr) (k_NoBook : Addr) (E : XK) : TS :=
 (D8 (M9 (wi8 (tB (tCB (yf4 K) (A9 (B1 0) (A9 (tC (.ty "str")) B7)))))
 (qp3 k_NoText E (V5 K) (A9 (tC (.int 0)) B7)) G8)
 (wo5 K k_NoText k_NoBook E))
variable {kY : Addr}
theorem zi4 (se : SeI K kY "row") (hp : H p = some (.lst us)) (hd : Dvs K H (rs.map Row.da) us) (hz : rs.length <= 12) (hS : ∀ r ∈ rs, Sml r) (q1 : ∀ (t : Addr) H', wf7 rs -> A7 H H' -> H' t = some (.tup us) -> Dvs K H' (rs.map Row.da) us -> D.rt (.ref t) H') (q2 : ∀ (m : Nat) (dx : Addr) H', wf9 rs m -> A7 H H' -> H' dx = some (.xd [("row", .int m)]) -> E (.ref kY) (some dx) H') : qd6 K kY E D [some (.str z), some (.ref p), none] H := by
 unfold qd6
 lk
 refine ⟨p, us, rs, rfl, .inl (SqL.of hp), hd, by omega, hS, fun H1 s1 m => ?_, fun i H1 s1 m => ?_⟩
 ·unfold qd5
  lk
  k_go
  lk
  refine ⟨p, _, rfl, .inl ⟨SqL.of (s1 _ _ hp), fun t ht => ?_⟩⟩
  have s2 := A7.new ht (.tup us)
  exact q1 t _ m (A7.tr s1 s2) A8 (Dvs.same (A7.tr s1 s2) _ _ hd)
 ·unfold qd5
  lk
  x_go
  refine ww2 ?_
  lk
  have hm := m.lt
  refine ⟨G1 (by z_go), fun e he => ⟨e, kY, i, rfl, A8, se, by omega, fun dx hdx ne => ⟨rfl, some dx, ?_, q2 i dx _ m ?_ ?_⟩⟩⟩
  ·rw [C4 (Ne.symm ne), A8]
  ·intro c u g
   have g1 := s1 c u g
   rw [C4 ne] at hdx
   have n1 := S9 g1 he
   have n2 := S9 g1 hdx
   rw [qd1 n1, C4 n2, C4 n1, C4 n1]; exact g1
  ·rw [qd1 ne, A8]
theorem wt6 (se : SeI K kX "row") (sf : SeI K kY "row") (h : Y7 K kX kY vs H Q E) : qb9 K kX kY E { nx := fun _ H' => Q .non H', rt := Q } (I9 ["text", "rows", "misfit"] vs) H := by
 obtain ⟨z, ls, rfl, h0, hz, hL, ez, hS, q0, q1, q2, q3⟩ := h
 show qb9 K _ _ _ _ [some (.str z), none, none] H
 unfold qb9
 lk
 refine yv1 (.str _) (b := true) rfl ?_
 lk
 k_go
 lk
 by_cases h1 : ls = [("" : Str)]
 ·have ez0 : z = ("" : Str) := by rw [ez, h1]; rfl
  rw [decide_eq_true ez0]
  x_go
  lk
  refine ⟨G1 (by z_go), fun p hp => ?_⟩
  have s1 := A7.new hp (.lst [])
  have e1 : (upd H p (.lst [])) p = some (.lst []) := A8
  generalize upd H p (.lst []) = H1 at *
  refine J9 ?_
  exact zi4 (rs := []) sf e1 G7 (by decide) (fun _ h => nomatch h) (fun t H' m s' h1' h2 => q0 h1 t H' (A7.tr s1 s') h1') fun m dx H' hm s' h1 => absurd hm.lt (Nat.not_lt_zero _)
 ·have hzn : ¬ z = ("" : Str) := by rw [ez]; exact xc5 h0 h1
  rw [decide_eq_false hzn]
  k_go
  lk
  refine ⟨z, ls, rfl, h0, hz, hL, ez, fun p us rs H1 s1 g1 g2 g3 => ?_, fun m dx H' F s' g => q3 m h1 F dx H' s' g⟩
  have hlr : rs.length = ls.length := by have := congrArg List.length g3; rw [List.length_map, List.length_map] at this; exact this.symm
  refine J9 ?_
  refine zi4 sf g1 g2 (by omega) (fun r hr => ?_) (fun t H' m s' k1 k2 => q1 rs h1 g3 m t us H' (A7.tr s1 s') k1 k2) fun m dx H' hm s' k => q2 rs m h1 g3 hm dx H' (A7.tr s1 s') k
  have : some r ∈ ls.map rdL := by rw [g3]; exact List.mem_map_of_mem hr
  obtain ⟨l, hl, e⟩ := List.mem_map.mp this
  exact hS l hl r e
theorem wo7 {m : Nat} : ∀ {xs : List Str}, (∀ x ∈ xs, x.length <= m) -> (xs.map (·.length)).sum <= xs.length * m
 | [], _ => by simp
 | x :: xs, h => by
   have h1 := h x List.mem_cons_self
   have h2 := wo7 (xs := xs) fun y hy => h y (List.mem_cons_of_mem _ hy)
   rw [List.map_cons, List.sum_cons, List.length_cons, Nat.add_mul]; omega
theorem xp9 (G : qq3 r) (p1 : sh.Perm r.shuts) (p2 : ba.Perm r.bars) : ((M3 r sh ba).map (·.length)).sum + (M3 r sh ba).length * (" " : Str).length <= 16777216 := by
 obtain ⟨h1, h2⟩ := qh6 G p1 p2
 have h3 := wo7 h2
 have h4 : (M3 r sh ba).length * 10 <= 50 * 10 := Nat.mul_le_mul_right _ h1
 show _ + _ * 1 <= _
 omega
theorem Q5 (xs ys : List Str) : B3 xs ++ B3 ys = B3 (xs ++ ys) := by unfold B3; rw [List.map_append]
def qn6 (K : Fg) : Sp := fun vs H Q _ => ∃ (k : Str) (a : Addr) (xs : List Str), vs = [.str k, .ref a] /\ SqT K H a (B3 xs) /\ xs.length <= 20 /\ PyProof.Rows.sortedS xs = true /\ ∀ (p : Addr) H', A7 H H' -> H p = none -> H' p = some (.lst (B3 (kwL k xs))) -> Q (.ref p) H'
theorem yb2 (K : Fg) : ∀ vs H Q E, qn6 K vs H Q E -> vs.length = ["keyword", "names"].length := by rintro vs H Q E ⟨k, a, xs, rfl, _⟩; rfl
def wh9 (K : Fg) : TS :=
 (I0 (tIf (D5 (tOp (R1 K) (tCB (R8 K) (A9 (B1 1) B7)) (tC (.int 0)))) (O9 B7) (tOp (P4 K) (O9 (A9 (B1 0) B7)) (tCB (qv1 K) (A9 (B1 1) B7)))))
theorem yl3 (h : qn6 K vs H Q E) : wh9 K { nx := fun _ H' => Q .non H', rt := Q } (I9 ["keyword", "names"] vs) H := by
 obtain ⟨k, a, xs, rfl, ha, hz, hs, q⟩ := h
 show wh9 K _ [some (.str k), some (.ref a)] H
 unfold wh9
 unfold kwL at q
 lk
 refine R5 (.inr ha) ?_
 rw [C2]
 lk
 by_cases h0 : xs = []
 ·rw [decide_eq_true (show ((xs.length : Nat) : Int) = 0 by rw [h0]; rfl)]
  x_go
  rw [if_pos h0] at q
  lk
  exact ⟨G1 (by z_go), fun p hp => q p _ (A7.new hp _) hp A8⟩
 ·have hl : 1 <= xs.length := by cases xs with | nil => exact absurd rfl h0 | cons _ _ => rw [List.length_cons]; omega
  rw [decide_eq_false (show ¬ ((xs.length : Nat) : Int) = 0 by omega)]
  k_go
  rw [if_neg h0] at q
  lk
  refine ⟨G1 (by z_go), fun p hp => ?_⟩
  have s1 := A7.new hp (.lst [.str k])
  have e1 : (upd H p (.lst [.str k])) p = some (.lst [.str k]) := A8
  generalize upd H p (.lst [.str k]) = H1 at *
  lk
  refine ⟨a, xs, rfl, s1.sqT ha, by omega, fun l ys hp' hs' hl' => ?_⟩
  have ey : ys = xs := Y1 hs' hs hp'
  subst ey
  have s2 := A7.new hl' (.lst (B3 ys))
  have e2 : (upd H1 l (.lst (B3 ys))) l = some (.lst (B3 ys)) := A8
  generalize upd H1 l (.lst (B3 ys)) = H2 at *
  refine xf9 (s2 _ _ e1) e2 (G1 (by rw [C2]; show 1 + _ <= _; omega)) fun p3 hp3 => ?_
  have s12 := A7.tr s1 s2
  exact q p3 _ (A7.tr s12 (A7.new hp3 _)) (qp5 s12 hp3) A8
def srT (K : Fg) : TS :=
 (I0 (tBM K "str" (xf8 K) (tC (.str (" " : Str))) (A9 (tOp (P4 K) (tOp (P4 K) (B1 1) (D9 (qn6 K) [] E0 (A9 (tC (.str ("shuts" : Str))) (A9 (tOp (G5 K) (B1 0) (tC (.int 3))) B7)))) (D9 (qn6 K) [] E0 (A9 (tC (.str ("bars" : Str))) (A9 (tOp (G5 K) (B1 0) (tC (.int 4))) B7)))) B7)))
theorem zi5 (G : qq3 r) (hb : SqT K H b [.str r.name, .str r.sort, .str r.host, .ref s, .ref t]) (hs : SqT K H s (B3 r.shuts)) (ht : SqT K H t (B3 r.bars)) (hp : H p = some (.lst (B3 ([r.name, r.sort] ++ qb0 r)))) (q : ∀ H', A7 H H' -> D.rt (.str (xu7 r r.shuts r.bars)) H') : srT K D [some (.ref b), some (.ref p)] H := by
 have hwl := qh6 G (List.Perm.refl r.shuts) (List.Perm.refl r.bars)
 have hlen : (M3 r r.shuts r.bars).length = ([r.name, r.sort] ++ qb0 r).length + ((kwL ("shuts" : Str) r.shuts).length + (kwL ("bars" : Str) r.bars).length) := by
  unfold M3
  rw [List.length_append, List.length_append, List.length_append, List.length_append]; omega
 have hw1 := hwl.1
 unfold srT
 lk
 refine ⟨rfl, ?_⟩
 lk
 refine M0 hb (v := .ref s) (C5 (j := 3) rfl) ?_
 refine ⟨("shuts" : Str), s, r.shuts, rfl, hs, by have := G.la; omega, G.sa, fun p1 H1 s1 _ e1 => ?_⟩
 refine xf9 (s1 _ _ hp) e1 (G1 (by rw [C2, C2]; omega)) fun p2 hp2 => ?_
 rw [Q5]
 have s2 := A7.new hp2 (.lst (B3 ([r.name, r.sort] ++ qb0 r ++ kwL ("shuts" : Str) r.shuts)))
 have e2 : (upd H1 p2 (.lst (B3 ([r.name, r.sort] ++ qb0 r ++ kwL ("shuts" : Str) r.shuts)))) p2 = some (.lst (B3 ([r.name, r.sort] ++ qb0 r ++ kwL ("shuts" : Str) r.shuts))) := A8
 generalize upd H1 p2 (.lst (B3 ([r.name, r.sort] ++ qb0 r ++ kwL ("shuts" : Str) r.shuts))) = H2 at *
 have s02 := A7.tr s1 s2
 lk
 refine M0 (s02.sqT hb) (v := .ref t) (C5 (j := 4) rfl) ?_
 refine ⟨("bars" : Str), t, r.bars, rfl, s02.sqT ht, by have := G.lb; omega, G.sb, fun p3 H3 s3 _ e3 => ?_⟩
 refine xf9 (s3 _ _ e2) e3 (G1 (by rw [C2, C2, List.length_append]; omega)) fun p4 hp4 => ?_
 rw [Q5]
 have ew : [r.name, r.sort] ++ qb0 r ++ kwL ("shuts" : Str) r.shuts ++ kwL ("bars" : Str) r.bars = M3 r r.shuts r.bars := by unfold M3; simp
 rw [ew]
 have s4 := A7.tr s02 (A7.tr s3 (A7.new hp4 (.lst (B3 (M3 r r.shuts r.bars)))))
 lk
 refine ⟨_, p4, M3 r r.shuts r.bars, rfl, rfl, .inl (SqL.of A8), xp9 G (List.Perm.refl _) (List.Perm.refl _), ?_⟩
 rw [qw3]
 exact q _ s4
abbrev xc7 (K : Fg) : TS :=
 (D8 (M9 (D5 (tOp (R1 K) (tOp (G5 K) (B1 0) (tC (.int 1))) (tC (.str ("frame" : Str)))))
 (qc8 (tBM K "list" S7 (B1 1) (A9 (tOp (G5 K) (B1 0) (tC (.int 2))) B7))) G8)
 (srT K))
def qf5 (K : Fg) : Sp := fun vs H Q _ => ∃ (v : V) (r : Row), vs = [v] /\ Dv K H r.da v /\ qq3 r /\ ∀ H', A7 H H' -> Q (.str (xu7 r r.shuts r.bars)) H'
theorem xc8 (K : Fg) : ∀ vs H Q E, qf5 K vs H Q E -> vs.length = ["row"].length := by rintro vs H Q E ⟨v, r, rfl, _⟩; rfl
def qj7 (K : Fg) : TS :=
 (D8 (J0 (O9 (A9 (tOp (G5 K) (B1 0) (tC (.int 0))) (A9 (tOp (G5 K) (B1 0) (tC (.int 1))) B7))) (C3 1))
 (xc7 K))
theorem xj2 (h : qf5 K vs H Q E) : qj7 K { nx := fun _ H' => Q .non H', rt := Q } (I9 ["row", "words"] vs) H := by
 obtain ⟨v, r, rfl, hd, G, q⟩ := h
 obtain ⟨b, s, t, rfl, hb, hs, ht⟩ := qn5 hd
 show qj7 K _ [some (.ref b), none] H
 unfold qj7
 lk
 refine M0 hb (v := .str r.name) (C5 (j := 0) rfl) ?_
 lk
 refine M0 hb (v := .str r.sort) (C5 (j := 1) rfl) ?_
 lk
 refine ⟨G1 (by z_go), fun p hp => ?_⟩
 have s1 := A7.new hp (.lst [.str r.name, .str r.sort])
 have e1 : (upd H p (.lst [.str r.name, .str r.sort])) p = some (.lst [.str r.name, .str r.sort]) := A8
 generalize upd H p (.lst [.str r.name, .str r.sort]) = H1 at *
 lk
 refine M0 (s1.sqT hb) (v := .str r.sort) (C5 (j := 1) rfl) ?_
 lk
 by_cases hf : r.sort = ("frame" : Str)
 ·rw [decide_eq_true hf]
  x_go
  lk
  refine ⟨.inl ⟨rfl, _, SqL.of e1⟩, ?_⟩
  lk
  refine M0 (s1.sqT hb) (v := .str r.host) (C5 (j := 2) rfl) ?_
  lk
  refine S2 e1 (by show 2 < _; rw [sizeLine_eq]; decide) ?_
  have s2 : A7 H (upd H1 p (.lst ([.str r.name, .str r.sort] ++ [.str r.host]))) := A7.put s1 hp _
  lk
  refine zi5 G (s2.sqT hb) (s2.sqT hs) (s2.sqT ht) ?_ fun H' s' => q H' (A7.tr s2 s')
  rw [A8]; unfold qb0; rw [if_pos hf]; rfl
 ·rw [decide_eq_false hf]
  k_go
  lk
  refine zi5 G (s1.sqT hb) (s1.sqT hs) (s1.sqT ht) ?_ fun H' s' => q H' (A7.tr s1 s')
  rw [e1]; unfold qb0; rw [if_neg hf]; rfl
def qq8 (r : Row) : Str := xu7 r r.shuts r.bars
theorem yl4 (r : Row) : xc0 r (qq8 r) := ⟨r.shuts, r.bars, List.Perm.refl _, List.Perm.refl _, rfl⟩
theorem xu8 : ∀ rs : List Row, wn5 rs (rs.map qq8)
 | [] => rfl
 | r :: rs => ⟨qq8 r, _, rfl, yl4 r, xu8 rs⟩
theorem xq0 (hG : ∀ r ∈ rs, qq3 r) (hz : rs.length <= 12) (h : wn5 rs ls) : (ls.map (·.length)).sum + ls.length * ("\n" : Str).length <= 16777216 := by
 have hx : ∀ l ∈ ls, l.length <= 600 := fun l hl => by
  obtain ⟨i, hi⟩ := List.mem_iff_getElem?.mp hl
  obtain ⟨r, hr, g⟩ := h.get hi
  exact yl2 (hG r (List.mem_of_getElem? hr)) g
 have h1 := wo7 hx
 have h2 := h.len
 have h3 : ls.length * 600 <= 12 * 600 := Nat.mul_le_mul_right _ (by omega)
 show _ + _ * 1 <= _
 omega
def qc0 (K : Fg) : Sp := fun vs H Q _ => ∃ (a : Addr) (us : List V) (rs : List Row), vs = [.ref a] /\ SqT K H a us /\ Dvs K H (rs.map Row.da) us /\ rs.length <= 12 /\ (∀ r ∈ rs, qq3 r) /\ ∀ H', A7 H H' -> Q (.str (Str.join ("\n" : Str) (rs.map qq8))) H'
theorem wt7 (K : Fg) : ∀ vs H Q E, qc0 K vs H Q E -> vs.length = ["book"].length := by rintro vs H Q E ⟨a, us, rs, rfl, _⟩; rfl
def qf6 (K : Fg) : TS :=
 (I0 (tBM K "str" (xf8 K) (tC (.str ("\n" : Str))) (A9 (T3 [none] (qg7 K (B1 0)) (C3 0) tTT (D9 (qf5 K) [] E0 (A9 (B1 0) B7))) B7)))
theorem xc9 (h : qc0 K vs H Q E) : qf6 K { nx := fun _ H' => Q .non H', rt := Q } (I9 ["book"] vs) H := by
 obtain ⟨a, us, rs, rfl, ha, hd, hz, hG, q⟩ := h
 have lus : us.length = rs.length := by have := hd.length; simpa using this
 show qf6 K _ [some (.ref a)] H
 unfold qf6
 lk
 refine ⟨rfl, ?_⟩
 lk
 refine P0 (.inr ha) A7.refl' (fun i ys H' => A7 H H' /\ ys = B3 ((rs.take i).map qq8)) ⟨A7.refl', rfl⟩ ?_ (fun i ys H' p => p.1) ?_ ?_
 ·rintro i ys H' hi ⟨_, rfl⟩
  rw [C2, List.length_map, List.length_take]
  exact G1 (by omega)
 ·rintro i x ys H' hx ⟨s2, rfl⟩
  obtain ⟨d, hd1, hd2⟩ := (Dvs.same s2 _ _ hd).get' hx
  rw [List.getElem?_map] at hd1
  obtain ⟨r, hr, rfl⟩ := Option.map_eq_some_iff.mp hd1
  lk
  refine ⟨x, r, rfl, hd2, hG r (List.mem_of_getElem? hr), fun H3 s3 => ⟨A7.tr s2 s3, ?_⟩⟩
  rw [List.take_add_one, hr, List.map_append, <- Q5]
  rfl
 ·rintro ys H' ⟨s2, rfl⟩ c hc
  rw [lus, List.take_length]
  lk
  refine ⟨_, c, rs.map qq8, rfl, rfl, .inl (SqL.of A8), xq0 hG hz (xu8 rs), ?_⟩
  rw [qw3]
  exact q _ (A7.tr s2 (A7.new hc _))
def qj8 (K : Fg) : Sp := fun vs H Q _ => ∃ (a : Addr) (us : List V) (rs : List Row), vs = [.ref a] /\ SqT K H a us /\ Dvs K H (rs.map Row.da) us /\ rs.length <= 12 /\ (∀ r ∈ rs, Sml r) /\ (∀ r ∈ rs, xi3 r = true) /\ wf7 rs /\ ∀ H', A7 H H' -> Q (.bl true) H'
theorem xj3 (K : Fg) : ∀ vs H Q E, qj8 K vs H Q E -> vs.length = ["rows"].length := by rintro vs H Q E ⟨a, us, rs, rfl, _⟩; rfl
def qp7 (K : Fg) : TS :=
 (D8 (M9 (tOr (D5 (tOp xy5 (tCB (R8 K) (A9 (B1 0) B7)) (tC (.int 12)))) (wi8 (tB (tCB (wv8 K) (A9 (T3 [none] (qg7 K (B1 0)) (C3 0) tTT (D9 (qe7 K) [] E0 (A9 (B1 0) B7))) B7)))))
 (I0 (tC (.bl false))) G8)
 (I0 (tOp wq7 (D9 (P1 K) [] E0 (A9 (B1 0) B7)) (tC .non))))
theorem xq1 (h : qj8 K vs H Q E) : qp7 K { nx := fun _ H' => Q .non H', rt := Q } (I9 ["rows"] vs) H := by
 obtain ⟨a, us, rs, rfl, hq, hd, h12, hS, hf, hM, q⟩ := h
 have lus : us.length = rs.length := by have := hd.length; simpa using this
 show qp7 K _ [some (.ref a)] H
 unfold qp7
 lk
 refine R5 (.inr hq) ?_
 lk
 rw [lus]
 rw [decide_eq_false (show ¬ (12 : Int) < (rs.length : Nat) by omega)]
 k_go
 lk
 refine P0 (.inr hq) A7.refl' (fun i ys H' => A7 H H' /\ ys = ((rs.take i).map xi3).map V.bl) ⟨A7.refl', rfl⟩ ?_ (fun i ys H' p => p.1) ?_ ?_
 ·rintro i ys H' hi ⟨_, rfl⟩
  rw [List.length_map, List.length_map, List.length_take]
  exact G1 (by omega)
 ·rintro i x ys H' hx ⟨s2, rfl⟩
  obtain ⟨d, hd1, hd2⟩ := (Dvs.same s2 _ _ hd).get' hx
  rw [List.getElem?_map] at hd1
  obtain ⟨r, hr, rfl⟩ := Option.map_eq_some_iff.mp hd1
  lk
  refine ⟨x, r, rfl, hd2, hS r (List.mem_of_getElem? hr), fun H3 s3 => ⟨A7.tr s2 s3, ?_⟩⟩
  rw [List.take_add_one, hr, List.map_append, List.map_append]
  rfl
 ·rintro ys H' ⟨s2, rfl⟩ c hc
  lk
  refine xs9 (SqL.of A8) ?_
  rw [lus, List.take_length, List.all_map]
  have s3 := A7.tr s2 (A7.new hc (.lst ((rs.map xi3).map V.bl)))
  refine ⟨_, rfl, ?_⟩
  have e : rs.all (id ∘ xi3) = true := List.all_eq_true.mpr fun r hr => hf r hr
  rw [e]
  k_go
  lk
  refine ⟨a, us, rs, rfl, .inr (s3.sqT hq), Dvs.same s3 _ _ hd, by omega, hS, fun H4 s4 m => ?_, fun i H4 s4 m => absurd hM m.not⟩
  lk
  exact q _ (A7.tr s3 s4)
theorem yb3 (cs : List Nat) : Dvs K H (cs.map fun c => PyData.str ⟨#[c]⟩) (cs.map fun c => V.str ⟨#[c]⟩) := by
 induction cs with
 | nil => exact G7
 | cons c cs ih => exact E6 (N2.mpr rfl) ih
abbrev wb9 (K : Fg) : TS :=
 (I0 (tOp (R1 K) (T3 [none] (yp8 (B1 0)) (C3 0) (D5 (tOp (X5 K true) (B1 0) (tC (.str ("abcdefghijklmnopqrstuvwxyz" : Str))))) (B1 0)) (O9 B7)))
def N8 (K : Fg) : Sp := fun vs H Q _ => ∃ z : Str, vs = [.str z] /\ z.length <= 100000 /\ ∀ H', A7 H H' -> Q (.bl (nmX z)) H'
theorem wc0 (K : Fg) : ∀ vs H Q E, N8 K vs H Q E -> vs.length = ["_law_word"].length := by rintro vs H Q E ⟨z, rfl, _⟩; rfl
def W7 (K : Fg) : TS :=
 (D8 (M9 (tOr (D5 (tOp (X5 K false) (B1 0) (O9 (A9 (tC (.str ("" : Str))) (A9 (tC (.str ("shuts" : Str))) (A9 (tC (.str ("bars" : Str))) B7)))))) (D5 (tOp xy5 (tCB (R8 K) (A9 (B1 0) B7)) (tC (.int 8)))))
 (I0 (tC (.bl false))) G8)
 (wb9 K))
theorem wg4 (h : N8 K vs H Q E) : W7 K { nx := fun _ H' => Q .non H', rt := Q } (I9 ["_law_word"] vs) H := by
 obtain ⟨z, rfl, hz, q⟩ := h
 show W7 K _ [some (.str z)] H
 unfold W7
 unfold nmX yb0 at q
 have hl : z.cps.toList.length = z.cps.size := Array.length_toList
 have hl2 : z.cps.toList.length = z.length := Array.length_toList
 lk
 refine ⟨G1 (by z_go), fun p hp => ?_⟩
 lk
 refine .inl (wa2 (xs := B3 [("" : Str), ("shuts" : Str), ("bars" : Str)]) (.inl (SqL.of A8)) rfl (N4 _) ?_)
 rw [P6]
 have s1 : A7 H (upd H p (.lst [.str ("" : Str), .str ("shuts" : Str), .str ("bars" : Str)])) := A7.new hp _
 generalize upd H p (.lst [.str ("" : Str), .str ("shuts" : Str), .str ("bars" : Str)]) = H1 at *
 lk
 by_cases hm : z ∈ [("" : Str), ("shuts" : Str), ("bars" : Str)]
 ·rw [decide_eq_true hm]
  x_go
  lk
  have e : (decide (1 <= z.length) && (decide (z.length <= 8) && z.cps.toList.all TX.letter) && !decide (z ∈ [("shuts" : Str), ("bars" : Str)])) = false := by
   rcases List.mem_cons.mp hm with h | h
   ·rw [h]; rfl
   ·rw [decide_eq_true h]; simp
  rw [e] at q
  exact q H1 s1
 ·rw [decide_eq_false hm]
  k_go
  have h0 : 1 <= z.length := by
   rcases Nat.eq_zero_or_pos z.length with h | h
   ·exfalso
    apply hm
    have : z = ("" : Str) := qp4 (by rw [List.eq_nil_of_length_eq_zero (by omega : z.cps.toList.length = 0)]; rfl)
    rw [this]; exact List.mem_cons_self
   ·exact h
  rw [decide_eq_true h0, decide_eq_false (fun h => hm (List.mem_cons_of_mem _ h)), Bool.true_and, Bool.not_false, Bool.and_true] at q
  lk
  refine xn7 (G1 hz) ?_
  lk
  by_cases h8 : z.length <= 8
  ·rw [decide_eq_false (show ¬ (8 : Int) < (z.length : Nat) by omega)]
   k_go
   rw [decide_eq_true h8, Bool.true_and] at q
   lk
   refine xg3 (fun j ys H' => H' = H1 /\ ys = ((z.cps.toList.take j).filter fun c => !TX.letter c).map fun c => V.str ⟨#[c]⟩) ⟨rfl, rfl⟩ ?_ ?_ ?_
   ·rintro j ys H' hj ⟨_, rfl⟩
    rw [List.length_map]
    have h1 := List.length_filter_le (fun c => !TX.letter c) (z.cps.toList.take j)
    rw [List.length_take] at h1
    exact G1 (by omega)
   ·rintro j c ys H' hc ⟨rfl, rfl⟩
    have tk : z.cps.toList.take (j + 1) = z.cps.toList.take j ++ [c] := by rw [List.take_add_one, hc]; rfl
    lk
    refine yj8 ?_
    lk
    by_cases hlc : TX.letter c = true
    ·rw [hlc, Bool.not_true]; refine qz7 ?_
     exact ⟨rfl, by rw [tk, List.filter_append]; simp [hlc]⟩
    ·rw [Bool.eq_false_iff.mpr hlc, Bool.not_false]; refine wy2 ?_
     lk
     exact ⟨rfl, by rw [tk, List.filter_append]; simp [hlc]⟩
   rintro ys H2 ⟨rfl, rfl⟩ c hc
   rw [<- hl, List.take_length]
   have s2 := A7.new hc (.lst ((z.cps.toList.filter fun c => !TX.letter c).map fun c => V.str ⟨#[c]⟩))
   have e2 : (upd H2 c (.lst ((z.cps.toList.filter fun c => !TX.letter c).map fun c => V.str ⟨#[c]⟩))) c = some (.lst ((z.cps.toList.filter fun c => !TX.letter c).map fun c => V.str ⟨#[c]⟩)) := A8
   generalize upd H2 c (.lst ((z.cps.toList.filter fun c => !TX.letter c).map fun c => V.str ⟨#[c]⟩)) = H3 at *
   lk
   refine ⟨G1 (by z_go), fun d hd => ?_⟩
   have s3 := A7.new hd (.lst [])
   refine zi0 (ds := (z.cps.toList.filter fun c => !TX.letter c).map fun c => PyData.str ⟨#[c]⟩) (M8.mpr ⟨c, _, rfl, SqL.of (s3 _ _ e2), yb3 _⟩) A8 ?_
   have e : ((z.cps.toList.filter fun c => !TX.letter c).map fun c => PyData.str ⟨#[c]⟩).isEmpty = z.cps.toList.all TX.letter := by
    rw [Bool.eq_iff_iff, List.isEmpty_iff, List.map_eq_nil_iff, List.filter_eq_nil_iff, List.all_eq_true]
    constructor
    ·intro h c hc; have := h c hc; simpa using this
    ·intro h c hc; simp [h c hc]
   rw [e]
   exact q _ (A7.tr s1 (A7.tr s2 s3))
  ·rw [decide_eq_true (show (8 : Int) < (z.length : Nat) by omega)]
   x_go
   rw [decide_eq_false h8, Bool.false_and] at q
   lk
   exact q H1 s1
structure As where
 st : Nat
 h : Str
 a : List Str
 b : List Str
def stp (s : As) (w : Str) : Option As :=
 if s.st = 1 /\ nmX w = true then some ⟨0, w, s.a, s.b⟩
 else if s.st = 0 /\ w = ("shuts" : Str) then some ⟨2, s.h, s.a, s.b⟩
 else if (s.st = 0 \/ s.st = 3) /\ w = ("bars" : Str) then some ⟨4, s.h, s.a, s.b⟩
 else if (s.st = 2 \/ s.st = 3) /\ nmX w = true then some ⟨3, s.h, s.a ++ [w], s.b⟩
 else if (s.st = 4 \/ s.st = 5) /\ nmX w = true then some ⟨5, s.h, s.a, s.b ++ [w]⟩
 else none
def qh7 : As -> List Str -> Option As
 | s, [] => some s
 | s, w :: ws => (stp s w).bind fun s' => qh7 s' ws
def qq4 (n so : Str) (s : As) : Option Row := if s.st = 1 \/ s.st = 2 \/ s.st = 4 then none else some ⟨n, so, s.h, s.a, s.b⟩
def lrw (ws : List Str) : Option Row :=
 if ws.length < 2 then none
 else if nmX (gd ws 0) = false then none
 else if gd ws 1 ∉ R6 then none
 else (qh7 ⟨if gd ws 1 = ("frame" : Str) then 1 else 0, ("" : Str), [], []⟩ (ws.drop 2)).bind (qq4 (gd ws 0) (gd ws 1))
def O0 (r : Row) : Row := ⟨r.name, r.sort, r.host, O3 r.shuts, O3 r.bars⟩
theorem ys7 : nmX ("bars" : Str) = false := by decide +kernel
theorem wo8 : ¬ ("shuts" : Str) = ("bars" : Str) := by decide +kernel
variable {w : Str}
section
variable {n : Str}
def EA (n so : Str) (s : As) (xs : List Str) : Option Row := (qh7 s xs).bind (qq4 n so)
theorem wo9 (s : As) : EA n so s [] = qq4 n so s := rfl
theorem qp8 (s : As) (w : Str) (xs : List Str) : EA n so s (w :: xs) = (stp s w).bind fun s' => EA n so s' xs := by
 unfold EA; rw [qh7]; cases stp s w <;> rfl
theorem EA5 {a : List Str} : ∀ (xs b : List Str), EA n so ⟨5, h, a, b⟩ xs = if xs.all nmX = true then some ⟨n, so, h, a, b ++ xs⟩ else none
 | [], b => by rw [wo9]; simp [qq4]
 | x :: xs, b => by
   rw [qp8]
   by_cases hx : nmX x = true
   ·have e : stp ⟨5, h, a, b⟩ x = some ⟨5, h, a, b ++ [x]⟩ := by simp [stp, hx]
    rw [e, Option.bind_some, EA5 xs (b ++ [x])]
    simp [hx]
   ·have e : stp ⟨5, h, a, b⟩ x = none := by simp [stp, hx]
    rw [e]; simp [hx]
theorem EA4 {a b : List Str} (xs : List Str) : EA n so ⟨4, h, a, b⟩ xs = if xs ≠ [] /\ xs.all nmX = true then some ⟨n, so, h, a, b ++ xs⟩ else none := by
 cases xs with
 | nil => rw [wo9]; simp [qq4]
 | cons x xs =>
   rw [qp8]
   by_cases hx : nmX x = true
   ·have e : stp ⟨4, h, a, b⟩ x = some ⟨5, h, a, b ++ [x]⟩ := by simp [stp, hx]
    rw [e, Option.bind_some, EA5 xs (b ++ [x])]
    simp [hx]
   ·have e : stp ⟨4, h, a, b⟩ x = none := by simp [stp, hx]
    rw [e]; simp [hx]
def tlB (n so h : Str) (a ys : List Str) : Option Row := if wfN (nbF ("bars" : Str) ys) = ys.length then some ⟨n, so, h, a, nbF ("bars" : Str) ys⟩ else none
theorem yl5 : ∀ xs : List Str, xs.all nmX = true ↔ (xs.takeWhile nmX).length = xs.length
 | [] => by simp
 | x :: xs => by
   by_cases hx : nmX x = true
   ·rw [List.all_cons, hx, Bool.true_and, List.takeWhile_cons, if_pos hx, List.length_cons, List.length_cons, Nat.add_right_cancel_iff]; exact yl5 xs
   ·simp [List.takeWhile_cons, hx]
theorem zc0 (h : xs.all nmX = true) : xs.takeWhile nmX = xs := by
 induction xs with
 | nil => rfl
 | cons x xs ih =>
   rw [List.all_cons, Bool.and_eq_true] at h
   rw [List.takeWhile_cons, if_pos h.1, ih h.2]
theorem yl6 (k : Str) (r : List Str) : nbF k (k :: r) = r.takeWhile nmX := by
 show (if [k] = [k] then _ else _) = _
 rw [if_pos rfl]; rfl
theorem xj4 {a r : List Str} : tlB n so h a (("bars" : Str) :: r) = EA n so ⟨4, h, a, []⟩ r := by
 rw [EA4]
 unfold tlB
 have e : nbF ("bars" : Str) (("bars" : Str) :: r) = r.takeWhile nmX := yl6 _ _
 rw [e]
 unfold wfN
 cases r with
 | nil => simp
 | cons x r =>
   by_cases hx : (x :: r).all nmX = true
   ·rw [zc0 hx]
    have h1 : (if (x :: r).length = 0 then 0 else 1 + (x :: r).length) = (("bars" : Str) :: x :: r).length := by rw [if_neg (by simp), List.length_cons (a := ("bars" : Str))]; omega
    rw [if_pos h1, if_pos ⟨by simp, hx⟩]; rfl
   ·have h1 : ¬ ((x :: r).takeWhile nmX).length = (x :: r).length := fun z => hx ((yl5 _).mpr z)
    have h2 : ((x :: r).takeWhile nmX).length <= (x :: r).length := (List.takeWhile_sublist _).length_le
    rw [if_neg (c := _ /\ _) fun z => hx z.2, if_neg]
    rw [List.length_cons] at h1 h2 ⊢
    rw [List.length_cons]
    split <;> omega
theorem ys8 {a : List Str} : tlB n so h a [] = some ⟨n, so, h, a, []⟩ := rfl
theorem xd0 {a r : List Str} (hw : w ≠ ("bars" : Str)) : tlB n so h a (w :: r) = none := by
 unfold tlB
 have e : nbF ("bars" : Str) (w :: r) = [] := by unfold nbF; rw [if_neg]; intro z; injection z with z; exact hw z
 rw [e]; rfl
theorem EA3 : ∀ (xs a : List Str), EA n so ⟨3, h, a, []⟩ xs = tlB n so h (a ++ xs.takeWhile nmX) (xs.drop (xs.takeWhile nmX).length)
 | [], a => by rw [wo9]; simp [qq4, ys8]
 | x :: xs, a => by
   rw [qp8]
   by_cases hx : nmX x = true
   ·have hb : x ≠ ("bars" : Str) := fun z => by rw [z, ys7] at hx; cases hx
    have e : stp ⟨3, h, a, []⟩ x = some ⟨3, h, a ++ [x], []⟩ := by simp [stp, hx, hb]
    rw [e, Option.bind_some, EA3 xs (a ++ [x]), List.takeWhile_cons, if_pos hx, List.length_cons, List.drop_succ_cons, List.append_assoc]; rfl
   ·rw [List.takeWhile_cons, if_neg hx, List.append_nil]
    show _ = tlB n so h a (x :: xs)
    by_cases hb : x = ("bars" : Str)
    ·subst hb
     have e : stp ⟨3, h, a, []⟩ ("bars" : Str) = some ⟨4, h, a, []⟩ := by simp [stp]
     rw [e, Option.bind_some, xj4]
    ·have e : stp ⟨3, h, a, []⟩ x = none := by simp [stp, hx, hb]
     rw [e, xd0 hb]; rfl
def tlA (n so h : Str) (xs : List Str) : Option Row := tlB n so h (nbF ("shuts" : Str) xs) (xs.drop (wfN (nbF ("shuts" : Str) xs)))
theorem EA0 (xs : List Str) : EA n so ⟨0, h, [], []⟩ xs = tlA n so h xs := by
 cases xs with
 | nil => rfl
 | cons x r =>
   rw [qp8]
   by_cases hs : x = ("shuts" : Str)
   ·subst hs
    have e : stp ⟨0, h, [], []⟩ ("shuts" : Str) = some ⟨2, h, [], []⟩ := by simp [stp]
    rw [e, Option.bind_some]
    unfold tlA
    have e2 : nbF ("shuts" : Str) (("shuts" : Str) :: r) = r.takeWhile nmX := yl6 _ _
    rw [e2]
    cases r with
    | nil => rw [wo9]; simp [qq4, wfN]; rw [xd0 wo8]
    | cons y r =>
      rw [qp8]
      by_cases hy : nmX y = true
      ·have e3 : stp ⟨2, h, [], []⟩ y = some ⟨3, h, [y], []⟩ := by simp [stp, hy]
       rw [e3, Option.bind_some, EA3, List.takeWhile_cons, if_pos hy]
       have e4 : wfN (y :: r.takeWhile nmX) = (r.takeWhile nmX).length + 1 + 1 := by unfold wfN; rw [if_neg (by simp), List.length_cons]; omega
       rw [e4, List.drop_succ_cons, List.drop_succ_cons]; rfl
      ·have e3 : stp ⟨2, h, [], []⟩ y = none := by simp [stp, hy]
       rw [e3, List.takeWhile_cons, if_neg hy]
       show none = tlB n so h [] (("shuts" : Str) :: y :: r)
       rw [xd0 wo8]
   ·have e2 : nbF ("shuts" : Str) (x :: r) = [] := by unfold nbF; rw [if_neg]; intro z; injection z with z; exact hs z
    unfold tlA
    rw [e2]
    show _ = tlB n so h [] (x :: r)
    by_cases hb : x = ("bars" : Str)
    ·subst hb
     have e : stp ⟨0, h, [], []⟩ ("bars" : Str) = some ⟨4, h, [], []⟩ := by simp [stp, hs]
     rw [e, Option.bind_some, xj4]
    ·have e : stp ⟨0, h, [], []⟩ x = none := by simp [stp, hs, hb]
     rw [e, xd0 hb]; rfl
theorem yl7 (ws : List Str) (hi : i <= ws.length) (host : Str) : (tlA (gd ws 0) (gd ws 1) host (ws.drop i)).map O0 = rdT ws i host := by
 unfold tlA tlB rdT
 rw [List.drop_drop]
 have hl : wfN (nbF ("shuts" : Str) (ws.drop i)) <= (ws.drop i).length := xb1 _ _
 rw [List.length_drop] at hl
 by_cases hc : wfN (nbF ("bars" : Str) (ws.drop (i + wfN (nbF ("shuts" : Str) (ws.drop i))))) = (ws.drop (i + wfN (nbF ("shuts" : Str) (ws.drop i)))).length
 ·rw [if_pos hc, if_pos (by rw [List.length_drop] at hc; omega)]; rfl
 ·rw [if_neg hc, if_neg (by rw [List.length_drop] at hc; omega)]; rfl
end
theorem zc1 (ws : List Str) : (lrw ws).map O0 = rdF ws := by
 unfold lrw rdF
 by_cases h2 : ws.length < 2
 ·rw [if_pos h2, if_pos h2]; rfl
 rw [if_neg h2, if_neg h2]
 by_cases h0 : nmX (gd ws 0) = false
 ·rw [if_pos h0, if_pos h0]; rfl
 rw [if_neg h0, if_neg h0]
 by_cases h1 : gd ws 1 ∉ R6
 ·rw [if_pos h1, if_pos h1]; rfl
 rw [if_neg h1, if_neg h1]
 show (EA _ _ _ _).map O0 = _
 by_cases hf : gd ws 1 = ("frame" : Str)
 ·rw [if_pos hf, if_pos hf]
  by_cases h3 : ws.length < 3
  ·rw [if_pos h3]
   have e : ws.drop 2 = [] := List.drop_eq_nil_of_le (by omega)
   rw [e, wo9]; simp [qq4]
  ·rw [if_neg h3]
   have e : ws.drop 2 = gd ws 2 :: ws.drop 3 := by
    have hg : ws[2]? = some (gd ws 2) := xa0 (by omega)
    obtain ⟨hl, hg⟩ := List.getElem?_eq_some_iff.mp hg
    rw [List.drop_eq_getElem_cons hl, hg]
   rw [e, qp8]
   by_cases hn : nmX (gd ws 2) = false
   ·rw [if_pos hn]
    have e3 : stp ⟨1, ("" : Str), [], []⟩ (gd ws 2) = none := by simp [stp, hn]
    rw [e3]; rfl
   ·rw [if_neg hn]
    have hn : nmX (gd ws 2) = true := by simpa using hn
    have e3 : stp ⟨1, ("" : Str), [], []⟩ (gd ws 2) = some ⟨0, gd ws 2, [], []⟩ := by simp [stp, hn]
    rw [e3, Option.bind_some, EA0, yl7 ws (by omega)]
 ·rw [if_neg hf, if_neg hf, EA0, yl7 ws (by omega)]
abbrev qw6 (K : Fg) : TS :=
 (D8 (qc8 (tBM K "list" S7 (tOp (G5 K) (B1 3) (tC (.int 1))) (A9 (B1 4) B7)))
 (J0 (tC (.int 5)) (C3 1)))
abbrev qw7 (K : Fg) : TS :=
 (D8 (qc8 (tBM K "list" S7 (tOp (G5 K) (B1 3) (tC (.int 0))) (A9 (B1 4) B7)))
 (J0 (tC (.int 3)) (C3 1)))
abbrev qj9 (K : Fg) : TS :=
 (M9 (wi7 (D5 (tOp (X5 K false) (B1 1) (O9 (A9 (tC (.int 4)) (A9 (tC (.int 5)) B7))))) (tB (D9 (N8 K) [] E0 (A9 (B1 4) B7))))
 (qw6 K) (I0 (tC .non)))
abbrev qk0 (K : Fg) : TS :=
 (M9 (wi7 (D5 (tOp (X5 K false) (B1 1) (O9 (A9 (tC (.int 2)) (A9 (tC (.int 3)) B7))))) (tB (D9 (N8 K) [] E0 (A9 (B1 4) B7))))
 (qw7 K) (qj9 K))
abbrev qk1 (K : Fg) : TS :=
 (M9 (wi7 (D5 (tOp (X5 K false) (B1 1) (O9 (A9 (tC (.int 0)) (A9 (tC (.int 3)) B7))))) (D5 (tOp (R1 K) (B1 4) (tC (.str ("bars" : Str))))))
 (J0 (tC (.int 4)) (C3 1)) (qk0 K))
abbrev qk2 (K : Fg) : TS :=
 (M9 (wi7 (D5 (tOp (R1 K) (B1 1) (tC (.int 0)))) (D5 (tOp (R1 K) (B1 4) (tC (.str ("shuts" : Str))))))
 (J0 (tC (.int 2)) (C3 1)) (qk1 K))
abbrev qc1 (K : Fg) : TS :=
 (M9 (wi7 (D5 (tOp (R1 K) (B1 1) (tC (.int 1)))) (tB (D9 (N8 K) [] E0 (A9 (B1 4) B7))))
 (D8 (J0 (B1 4) (C3 2))
 (J0 (tC (.int 0)) (C3 1))) (qk2 K))
abbrev qw8 (K : Fg) : TS :=
 (I0 (xm5 (A9 (tOp (G5 K) (B1 0) (tC (.int 0))) (A9 (tOp (G5 K) (B1 0) (tC (.int 1))) (A9 (B1 2) (A9 (tCB (Y3 K) (A9 (tOp (G5 K) (B1 3) (tC (.int 0))) B7)) (A9 (tCB (Y3 K) (A9 (tOp (G5 K) (B1 3) (tC (.int 1))) B7)) B7)))))))
abbrev qc2 (K : Fg) : TS :=
 (D8 (M9 (D5 (tOp (X5 K false) (B1 1) (O9 (A9 (tC (.int 1)) (A9 (tC (.int 2)) (A9 (tC (.int 4)) B7))))))
 (I0 (tC .non)) G8)
 (qw8 K))
abbrev qw9 (K : Fg) : TS :=
 (D8 (ql8 (qg7 K (tSl (wk6 K) (B1 0) (qa6 (tC (.int 2))) P8)) (C3 4)
 (qc1 K))
 (qc2 K))
abbrev qq9 (K : Fg) : TS :=
 (D8 (J0 (tC (.str ("" : Str))) (C3 2))
 (D8 (J0 (O9 (A9 (O9 B7) (A9 (O9 B7) B7))) (C3 3))
 (qw9 K)))
abbrev qg9 (K : Fg) : TS :=
 (D8 (J0 (tOp (G5 K) (O9 (A9 (tC (.int 0)) (A9 (tC (.int 1)) B7))) (tCB xs0 (A9 (tOp (R1 K) (tOp (G5 K) (B1 0) (tC (.int 1))) (tC (.str ("frame" : Str)))) B7))) (C3 1))
 (qq9 K))
abbrev qr0 (K : Fg) : TS :=
 (D8 (M9 (D5 (tOp (X5 K true) (tOp (G5 K) (B1 0) (tC (.int 1))) (O9 (wk7 [("bare" : Str), ("plain" : Str), ("anew" : Str), ("room" : Str), ("frame" : Str)]))))
 (I0 (tC .non)) G8)
 (qg9 K))
theorem xd1 (n a b : Int) : inV (.int n) [.int a, .int b] = decide (n = a \/ n = b) := by
 unfold inV
 rw [List.any_cons, List.any_cons, List.any_nil, Bool.or_false]
 show (decide (a = n) || decide (b = n)) = _
 by_cases h1 : n = a <;> by_cases h2 : n = b <;> simp [h1, h2, eq_comm]
structure Wk (H0 : Hp) (hp p0 p1 p2 : Addr) (xs : List V) (i : Nat) (s : As) (H : Hp) : Prop where
 s0 : A7 H0 H
 n0 : H0 p0 = none
 n1 : H0 p1 = none
 e : H hp = some (.lst [.ref p0, .ref p1])
 ea : H p0 = some (.lst (B3 s.a))
 eb : H p1 = some (.lst (B3 s.b))
 ne : p0 ≠ p1
 na : hp ≠ p0
 nb : hp ≠ p1
 l : s.a.length + s.b.length <= i
 e2 : H p2 = some (.lst xs)
 n2a : p2 ≠ p0
 n2b : p2 ≠ p1
variable {hp p0 p1 p2 : Addr}
theorem Wk.same {xs : List V} {s : As} (W : Wk H0 hp p0 p1 p2 xs i s H) (z : A7 H H') : Wk H0 hp p0 p1 p2 xs i s H' := ⟨A7.tr W.s0 z, W.n0, W.n1, z _ _ W.e, z _ _ W.ea, z _ _ W.eb, W.ne, W.na, W.nb, W.l, z _ _ W.e2, W.n2a, W.n2b⟩
def zc2 (s : As) (w : Str) : Option As := if (s.st = 4 \/ s.st = 5) /\ nmX w = true then some ⟨5, s.h, s.a, s.b ++ [w]⟩ else none
def zc3 (s : As) (w : Str) : Option As := if (s.st = 2 \/ s.st = 3) /\ nmX w = true then some ⟨3, s.h, s.a ++ [w], s.b⟩ else zc2 s w
def zc4 (s : As) (w : Str) : Option As := if (s.st = 0 \/ s.st = 3) /\ w = ("bars" : Str) then some ⟨4, s.h, s.a, s.b⟩ else zc3 s w
def zc5 (s : As) (w : Str) : Option As := if s.st = 0 /\ w = ("shuts" : Str) then some ⟨2, s.h, s.a, s.b⟩ else zc4 s w
structure Nx (H0 : Hp) (hp p0 p1 p2 : Addr) (xs : List V) (i : Nat) (f : Option V) (w : Str) (D : Q6) (r : Option As) : Prop where
 no : r = none -> ∀ H', A7 H0 H' -> D.rt .non H'
 go : ∀ s' H', r = some s' -> Wk H0 hp p0 p1 p2 xs (i + 1) s' H' -> D.nx [f, some (.int s'.st), some (.str s'.h), some (.ref hp), some (.str w)] H'
section
variable {xs : List V} {s : As} {f : Option V}
theorem rw2 (W : Wk H0 hp p0 p1 p2 xs i s H) (hi : i <= 60) (hw : w.length <= 1000) (N : Nx H0 hp p0 p1 p2 xs i f w D (zc2 s w)) : qj9 K D [f, some (.int s.st), some (.str s.h), some (.ref hp), some (.str w)] H := by
 unfold qj9
 unfold zc2 at N
 lk
 refine ⟨G1 (by z_go), fun p hq => ?_⟩
 have z1 := A7.new hq (.lst [.int 4, .int 5])
 refine .inl (wa2 (.inl (SqL.of A8)) rfl rfl ?_)
 generalize upd H p (.lst [.int 4, .int 5]) = H1 at *
 have W := W.same z1
 rw [xd1]
 lk
 by_cases hc : s.st = 4 \/ s.st = 5
 ·rw [decide_eq_true (show ((s.st : Int) = 4 \/ (s.st : Int) = 5) by omega)]
  x_go
  lk
  refine ⟨w, rfl, by omega, fun H2 z2 => ⟨_, rfl, ?_⟩⟩
  have W := W.same z2
  cases e : nmX w with
  | true =>
    rw [if_pos ⟨hc, e⟩] at N
    x_go
    unfold qw6
    lk
    refine M5 (SqL.of W.e) (v := .ref p1) (C5 (j := 1) rfl) ?_
    refine ⟨.inl ⟨rfl, _, SqL.of W.eb⟩, ?_⟩
    lk
    have hl := W.l
    refine S2 W.eb (by rw [C2, sizeLine_eq]; omega) ?_
    lk
    refine N.go _ _ rfl ⟨A7.put W.s0 W.n1 _, W.n0, W.n1, by rw [C4 W.nb]; exact W.e, by rw [C4 W.ne]; exact W.ea, by rw [A8]; exact congrArg (fun z => some (HO.lst z)) (Q5 s.b [w]), W.ne, W.na, W.nb, ?_, by rw [C4 W.n2b]; exact W.e2, W.n2a, W.n2b⟩
    show s.a.length + (s.b ++ [w]).length <= i + 1
    rw [List.length_append, List.length_singleton]; omega
  | false =>
    rw [if_neg (by simp [e])] at N
    k_go
    lk
    exact N.no rfl _ W.s0
 ·rw [decide_eq_false (show ¬ ((s.st : Int) = 4 \/ (s.st : Int) = 5) by omega)]
  rw [if_neg fun z => hc z.1] at N
  k_go
  lk
  exact N.no rfl _ W.s0
theorem rw3 (W : Wk H0 hp p0 p1 p2 xs i s H) (hi : i <= 60) (hw : w.length <= 1000) (N : Nx H0 hp p0 p1 p2 xs i f w D (zc3 s w)) : qk0 K D [f, some (.int s.st), some (.str s.h), some (.ref hp), some (.str w)] H := by
 unfold qk0
 unfold zc3 at N
 lk
 refine ⟨G1 (by z_go), fun p hq => ?_⟩
 have z1 := A7.new hq (.lst [.int 2, .int 3])
 refine .inl (wa2 (.inl (SqL.of A8)) rfl rfl ?_)
 generalize upd H p (.lst [.int 2, .int 3]) = H1 at *
 have W := W.same z1
 rw [xd1]
 lk
 by_cases hc : s.st = 2 \/ s.st = 3
 ·rw [decide_eq_true (show ((s.st : Int) = 2 \/ (s.st : Int) = 3) by omega)]
  x_go
  lk
  refine ⟨w, rfl, by omega, fun H2 z2 => ⟨_, rfl, ?_⟩⟩
  have W := W.same z2
  cases e : nmX w with
  | true =>
    rw [if_pos ⟨hc, e⟩] at N
    x_go
    unfold qw7
    lk
    refine M5 (SqL.of W.e) (v := .ref p0) (C5 (j := 0) rfl) ?_
    refine ⟨.inl ⟨rfl, _, SqL.of W.ea⟩, ?_⟩
    lk
    have hl := W.l
    refine S2 W.ea (by rw [C2, sizeLine_eq]; omega) ?_
    lk
    refine N.go _ _ rfl ⟨A7.put W.s0 W.n0 _, W.n0, W.n1, by rw [C4 W.na]; exact W.e, by rw [A8]; exact congrArg (fun z => some (HO.lst z)) (Q5 s.a [w]), by rw [C4 (Ne.symm W.ne)]; exact W.eb, W.ne, W.na, W.nb, ?_, by rw [C4 W.n2a]; exact W.e2, W.n2a, W.n2b⟩
    show (s.a ++ [w]).length + s.b.length <= i + 1
    rw [List.length_append, List.length_singleton]; omega
  | false =>
    rw [if_neg (by simp [e])] at N
    k_go
    exact rw2 W hi hw N
 ·rw [decide_eq_false (show ¬ ((s.st : Int) = 2 \/ (s.st : Int) = 3) by omega)]
  rw [if_neg fun z => hc z.1] at N
  k_go
  exact rw2 W hi hw N
theorem rw4 (W : Wk H0 hp p0 p1 p2 xs i s H) (hi : i <= 60) (hw : w.length <= 1000) (N : Nx H0 hp p0 p1 p2 xs i f w D (zc4 s w)) : qk1 K D [f, some (.int s.st), some (.str s.h), some (.ref hp), some (.str w)] H := by
 unfold qk1
 unfold zc4 at N
 lk
 refine ⟨G1 (by z_go), fun p hq => ?_⟩
 have z1 := A7.new hq (.lst [.int 0, .int 3])
 refine .inl (wa2 (.inl (SqL.of A8)) rfl rfl ?_)
 generalize upd H p (.lst [.int 0, .int 3]) = H1 at *
 have W := W.same z1
 rw [xd1]
 lk
 by_cases hc : s.st = 0 \/ s.st = 3
 ·rw [decide_eq_true (show ((s.st : Int) = 0 \/ (s.st : Int) = 3) by omega)]
  x_go
  lk
  by_cases e : w = ("bars" : Str)
  ·rw [decide_eq_true e]
   rw [if_pos ⟨hc, e⟩] at N
   x_go
   lk
   exact N.go _ _ rfl ⟨W.s0, W.n0, W.n1, W.e, W.ea, W.eb, W.ne, W.na, W.nb, Nat.le_succ_of_le W.l, W.e2, W.n2a, W.n2b⟩
  ·rw [decide_eq_false e]
   rw [if_neg fun z => e z.2] at N
   k_go
   exact rw3 W hi hw N
 ·rw [decide_eq_false (show ¬ ((s.st : Int) = 0 \/ (s.st : Int) = 3) by omega)]
  rw [if_neg fun z => hc z.1] at N
  k_go
  exact rw3 W hi hw N
theorem rw5 (W : Wk H0 hp p0 p1 p2 xs i s H) (hi : i <= 60) (hw : w.length <= 1000) (N : Nx H0 hp p0 p1 p2 xs i f w D (zc5 s w)) : qk2 K D [f, some (.int s.st), some (.str s.h), some (.ref hp), some (.str w)] H := by
 unfold qk2
 unfold zc5 at N
 lk
 by_cases hc : s.st = 0
 ·rw [decide_eq_true (show (s.st : Int) = 0 by omega)]
  x_go
  lk
  by_cases e : w = ("shuts" : Str)
  ·rw [decide_eq_true e]
   rw [if_pos ⟨hc, e⟩] at N
   x_go
   lk
   exact N.go _ _ rfl ⟨W.s0, W.n0, W.n1, W.e, W.ea, W.eb, W.ne, W.na, W.nb, Nat.le_succ_of_le W.l, W.e2, W.n2a, W.n2b⟩
  ·rw [decide_eq_false e]
   rw [if_neg fun z => e z.2] at N
   k_go
   exact rw4 W hi hw N
 ·rw [decide_eq_false (show ¬ (s.st : Int) = 0 by omega)]
  rw [if_neg fun z => hc z.1] at N
  k_go
  exact rw4 W hi hw N
theorem rw6 (W : Wk H0 hp p0 p1 p2 xs i s H) (hi : i <= 60) (hw : w.length <= 1000) (N : Nx H0 hp p0 p1 p2 xs i f w D (stp s w)) : qc1 K D [f, some (.int s.st), some (.str s.h), some (.ref hp), some (.str w)] H := by
 unfold qc1
 have N : Nx H0 hp p0 p1 p2 xs i f w D (if s.st = 1 /\ nmX w = true then some ⟨0, w, s.a, s.b⟩ else zc5 s w) := N
 lk
 by_cases hc : s.st = 1
 ·rw [decide_eq_true (show (s.st : Int) = 1 by omega)]
  x_go
  lk
  refine ⟨w, rfl, by omega, fun H2 z2 => ⟨_, rfl, ?_⟩⟩
  have W := W.same z2
  cases e : nmX w with
  | true =>
    rw [if_pos ⟨hc, e⟩] at N
    x_go
    lk
    exact N.go _ _ rfl ⟨W.s0, W.n0, W.n1, W.e, W.ea, W.eb, W.ne, W.na, W.nb, Nat.le_succ_of_le W.l, W.e2, W.n2a, W.n2b⟩
  | false =>
    rw [if_neg (by simp [e])] at N
    k_go
    exact rw5 W hi hw N
 ·rw [decide_eq_false (show ¬ (s.st : Int) = 1 by omega)]
  rw [if_neg fun z => hc z.1] at N
  k_go
  exact rw5 W hi hw N
theorem yb4 (n a b c : Int) : inV (.int n) [.int a, .int b, .int c] = decide (n = a \/ n = b \/ n = c) := by
 unfold inV
 rw [List.any_cons, List.any_cons, List.any_cons, List.any_nil, Bool.or_false]
 show (decide (a = n) || (decide (b = n) || decide (c = n))) = _
 by_cases h1 : n = a <;> by_cases h2 : n = b <;> by_cases h3 : n = c <;> simp [h1, h2, h3, eq_comm]
theorem rw8 (ha : SqL K H0 a (B3 ws)) (hl : 2 <= ws.length) (W : Wk H0 hp p0 p1 p2 xs i s H) (qn : qq4 (gd ws 0) (gd ws 1) s = none -> ∀ H', A7 H0 H' -> D.rt .non H') (qs : ∀ r, qq4 (gd ws 0) (gd ws 1) s = some r -> ∀ (t : Addr) H', A7 H0 H' -> Dv K H' r.da (.ref t) -> D.rt (.ref t) H') : qc2 K D [some (.ref a), some (.int s.st), some (.str s.h), some (.ref hp), o] H := by
 unfold qc2
 unfold qq4 at qn qs
 lk
 refine ⟨G1 (by z_go), fun p hq => ?_⟩
 have z1 := A7.new hq (.lst [.int 1, .int 2, .int 4])
 refine .inl (wa2 (.inl (SqL.of A8)) rfl rfl ?_)
 generalize upd H p (.lst [.int 1, .int 2, .int 4]) = H1 at *
 have W := W.same z1
 rw [yb4]
 lk
 by_cases hc : s.st = 1 \/ s.st = 2 \/ s.st = 4
 ·rw [decide_eq_true (show ((s.st : Int) = 1 \/ (s.st : Int) = 2 \/ (s.st : Int) = 4) by omega)]
  rw [if_pos hc] at qn
  x_go
  lk
  exact qn rfl _ W.s0
 ·rw [decide_eq_false (show ¬ ((s.st : Int) = 1 \/ (s.st : Int) = 2 \/ (s.st : Int) = 4) by omega)]
  rw [if_neg hc] at qs
  k_go
  unfold qw8
  lk
  refine M5 (W.s0.sqL ha) (v := .str (gd ws 0)) (C5 (j := 0) (wg2 (by omega))) ?_
  lk
  refine M5 (W.s0.sqL ha) (v := .str (gd ws 1)) (C5 (j := 1) (wg2 (by omega))) ?_
  lk
  refine M5 (SqL.of W.e) (v := .ref p0) (C5 (j := 0) rfl) ?_
  refine ⟨p0, _, rfl, .inl ⟨SqL.of W.ea, fun t1 ht1 => ?_⟩⟩
  have z2 := A7.new ht1 (.tup (B3 s.a))
  have f1 : (upd H1 t1 (.tup (B3 s.a))) t1 = some (.tup (B3 s.a)) := A8
  generalize upd H1 t1 (.tup (B3 s.a)) = H2 at *
  have W := W.same z2
  lk
  refine M5 (SqL.of W.e) (v := .ref p1) (C5 (j := 1) rfl) ?_
  refine ⟨p1, _, rfl, .inl ⟨SqL.of W.eb, fun t2 ht2 => ?_⟩⟩
  have z3 := A7.new ht2 (.tup (B3 s.b))
  have f2 : (upd H2 t2 (.tup (B3 s.b))) t2 = some (.tup (B3 s.b)) := A8
  generalize upd H2 t2 (.tup (B3 s.b)) = H3 at *
  have W := W.same z3
  lk
  refine ⟨G1 (by z_go), fun t ht => ?_⟩
  have z4 := A7.new ht (.tup [.str (gd ws 0), .str (gd ws 1), .str s.h, .ref t1, .ref t2])
  exact qs _ rfl t _ (A7.tr W.s0 z4) (yv9 A8 (SqT.of (z4 _ _ (z3 _ _ f1))) (SqT.of (z4 _ _ f2)))
theorem wp0 : ∀ (s : As) (ys zs : List Str), qh7 s (ys ++ zs) = (qh7 s ys).bind fun s' => qh7 s' zs
 | s, [], zs => rfl
 | s, y :: ys, zs => by
   show (stp s y).bind (fun s' => qh7 s' (ys ++ zs)) = ((stp s y).bind fun s' => qh7 s' ys).bind fun s' => qh7 s' zs
   cases stp s y with
   | none => rfl
   | some s' => exact wp0 s' ys zs
theorem rw9 {s0 : As} (ha : SqL K H0 a (B3 ws)) (hl : 2 <= ws.length) (hz : ws.length <= 60) (hw : ∀ w ∈ ws, w.length <= 1000) (W : Wk H0 hp p0 p1 p2 (B3 (ws.drop 2)) 0 s0 H) (qn : (qh7 s0 (ws.drop 2)).bind (qq4 (gd ws 0) (gd ws 1)) = none -> ∀ H', A7 H0 H' -> D.rt .non H') (qs : ∀ r, (qh7 s0 (ws.drop 2)).bind (qq4 (gd ws 0) (gd ws 1)) = some r -> ∀ (t : Addr) H', A7 H0 H' -> Dv K H' r.da (.ref t) -> D.rt (.ref t) H') :
 wy7 (C3 4) (qc1 K) { D with nx := qc2 K D } [some (.ref a), some (.int s0.st), some (.str s0.h), some (.ref hp), o] (Itl K p2) H := by
 refine ql9 (xs := B3 (ws.drop 2)) (fun i σ H' => ∃ s o, qh7 s0 ((ws.drop 2).take i) = some s /\ Wk H0 hp p0 p1 p2 (B3 (ws.drop 2)) i s H' /\ σ = [some (.ref a), some (.int s.st), some (.str s.h), some (.ref hp), o]) ⟨s0, o, rfl, W, rfl⟩ (fun i σ H' _ ⟨s, o, _, W, _⟩ => SqL.of W.e2) ?_ ?_
 ·rintro i x σ H' hx ⟨s, o, e, W, rfl⟩
  obtain ⟨w, hw1, rfl⟩ := Q4 hx
  have hm : w ∈ ws := List.mem_of_mem_drop (List.mem_of_getElem? hw1)
  have hi : i < (ws.drop 2).length := (List.getElem?_eq_some_iff.mp hw1).1
  have et : (ws.drop 2).take (i + 1) = (ws.drop 2).take i ++ [w] := by rw [List.take_add_one, hw1]; rfl
  rw [List.length_drop] at hi
  have e2 : qh7 s0 ((ws.drop 2).take (i + 1)) = stp s w := by
   rw [et, wp0, e, Option.bind_some]
   show (stp s w).bind (fun s' => qh7 s' []) = stp s w
   cases stp s w <;> rfl
  refine J9 ?_
  refine rw6 W (by omega) (hw w hm) ⟨fun z H2 s2 => qn ?_ H2 s2, fun s' H2 z W2 => ⟨s', _, e2.trans z, W2, rfl⟩⟩
  have e3 : ws.drop 2 = (ws.drop 2).take (i + 1) ++ (ws.drop 2).drop (i + 1) := (List.take_append_drop _ _).symm
  rw [e3, wp0, e2, z]; rfl
 ·rintro σ H' ⟨s, o, e, W, rfl⟩
  rw [C2, List.take_length] at e
  rw [e] at qn qs
  exact rw8 ha hl W qn qs
theorem zk5 (ha : SqL K H a (B3 ws)) (hl : 2 <= ws.length) (hz : ws.length <= 60) (hw : ∀ w ∈ ws, w.length <= 1000) (qn : (qh7 ⟨if gd ws 1 = ("frame" : Str) then 1 else 0, ("" : Str), [], []⟩ (ws.drop 2)).bind (qq4 (gd ws 0) (gd ws 1)) = none -> ∀ H', A7 H H' -> D.rt .non H') (qs : ∀ r, (qh7 ⟨if gd ws 1 = ("frame" : Str) then 1 else 0, ("" : Str), [], []⟩ (ws.drop 2)).bind (qq4 (gd ws 0) (gd ws 1)) = some r -> ∀ (t : Addr) H', A7 H H' -> Dv K H' r.da (.ref t) -> D.rt (.ref t) H') :
 qg9 K D [some (.ref a), none, none, none, none] H := by
 unfold qg9
 lk
 refine ⟨G1 (by z_go), fun p hq => ?_⟩
 have z1 := A7.new hq (.lst [.int 0, .int 1])
 have f1 : (upd H p (.lst [.int 0, .int 1])) p = some (.lst [.int 0, .int 1]) := A8
 generalize upd H p (.lst [.int 0, .int 1]) = H1 at *
 lk
 refine M5 (z1.sqL ha) (v := .str (gd ws 1)) (C5 (j := 1) (wg2 (by omega))) ?_
 lk
 refine .inr ⟨_, rfl, ?_⟩
 refine M5 (SqL.of f1) (v := .int ((if gd ws 1 = ("frame" : Str) then 1 else 0 : Nat) : Int)) ?_ ?_
 ·by_cases h : gd ws 1 = ("frame" : Str)
  ·rw [decide_eq_true h, if_pos h]; rfl
  ·rw [decide_eq_false h, if_neg h]; rfl
 unfold qq9
 lk
 refine ⟨G1 (by z_go), fun p0 h0 => ?_⟩
 have z2 := A7.new h0 (.lst [])
 have g0 : (upd H1 p0 (.lst [])) p0 = some (.lst []) := A8
 generalize upd H1 p0 (.lst []) = H2 at *
 lk
 refine ⟨G1 (by z_go), fun p1 h1 => ?_⟩
 have z3 := A7.new h1 (.lst [])
 have g1 : (upd H2 p1 (.lst [])) p1 = some (.lst []) := A8
 generalize upd H2 p1 (.lst []) = H3 at *
 lk
 refine ⟨G1 (by z_go), fun hp h3 => ?_⟩
 have z4 := A7.new h3 (.lst [.ref p0, .ref p1])
 have g2 : (upd H3 hp (.lst [.ref p0, .ref p1])) hp = some (.lst [.ref p0, .ref p1]) := A8
 generalize upd H3 hp (.lst [.ref p0, .ref p1]) = H4 at *
 have z14 := A7.tr z2 (A7.tr z3 z4)
 have z04 := A7.tr z1 z14
 unfold qw9
 lk
 refine qu9 (z04.sqL ha) fun p2 h2 => ?_
 rw [show ql6 (B3 ws) (some 2) none = B3 (ws.drop 2) from wb8 (i := 2) hl]
 have z5 := A7.new h2 (.lst (B3 (ws.drop 2)))
 have g3 : (upd H4 p2 (.lst (B3 (ws.drop 2)))) p2 = some (.lst (B3 (ws.drop 2))) := A8
 generalize upd H4 p2 (.lst (B3 (ws.drop 2))) = H5 at *
 refine ⟨p2, rfl, .inl ⟨⟨_, SqL.of g3⟩, ?_⟩⟩
 have n0 : H p0 = none := qp5 z1 h0
 have n1 : H p1 = none := qp5 (A7.tr z1 z2) h1
 refine rw9 (s0 := ⟨if gd ws 1 = ("frame" : Str) then 1 else 0, ("" : Str), [], []⟩) ha hl hz hw ⟨A7.tr z04 z5, n0, n1, z5 _ _ g2, z5 _ _ (z4 _ _ (z3 _ _ g0)), z5 _ _ (z4 _ _ g1), S9 g0 h1, Ne.symm (S9 (z3 _ _ g0) h3), Ne.symm (S9 g1 h3), Nat.le_refl _, g3, Ne.symm (S9 (z4 _ _ (z3 _ _ g0)) h2), Ne.symm (S9 (z4 _ _ g1) h2)⟩ qn qs
end
def qf7 (K : Fg) : Sp := fun vs H Q _ => ∃ (a : Addr) (ws : List Str), vs = [.ref a] /\ SqL K H a (B3 ws) /\ ws.length <= 60 /\ (∀ w ∈ ws, w.length <= 1000) /\ (lrw ws = none -> ∀ H', A7 H H' -> Q .non H') /\ ∀ r, lrw ws = some r -> ∀ (t : Addr) H', A7 H H' -> Dv K H' r.da (.ref t) -> Q (.ref t) H'
theorem xd2 (K : Fg) : ∀ vs H Q E, qf7 K vs H Q E -> vs.length = ["_law_found"].length := by rintro vs H Q E ⟨a, ws, rfl, _⟩; rfl
def qk3 (K : Fg) : TS :=
 (D8 (M9 (tOr (D5 (tOp wk2 (tCB (R8 K) (A9 (B1 0) B7)) (tC (.int 2)))) (wi8 (tB (D9 (N8 K) [] E0 (A9 (tOp (G5 K) (B1 0) (tC (.int 0))) B7)))))
 (I0 (tC .non)) G8)
 (qr0 K))
theorem xj5 (h : qf7 K vs H Q E) : qk3 K { nx := fun _ H' => Q .non H', rt := Q } (I9 ["_law_found", "_law_state", "_law_host", "_law_heaps", "_law_word"] vs) H := by
 obtain ⟨a, ws, rfl, ha, hz, hw, qn, qs⟩ := h
 show qk3 K _ [some (.ref a), none, none, none, none] H
 unfold qk3
 lk
 refine R5 (.inl ha) ?_
 rw [C2]
 lk
 unfold lrw at qn qs
 by_cases h2 : ws.length < 2
 ·rw [decide_eq_true (show ((ws.length : Nat) : Int) < 2 by omega)]
  rw [if_pos h2] at qn
  x_go
  lk
  exact qn rfl _ A7.refl'
 rw [decide_eq_false (show ¬ ((ws.length : Nat) : Int) < 2 by omega)]
 rw [if_neg h2] at qn qs
 have g0 : gd ws 0 ∈ ws := List.mem_of_getElem? (xa0 (by omega))
 k_go
 lk
 refine M5 ha (v := .str (gd ws 0)) (C5 (j := 0) (wg2 (by omega))) ?_
 refine ⟨gd ws 0, rfl, by have := hw _ g0; omega, fun H1 s1 => ⟨_, rfl, ?_⟩⟩
 by_cases h0 : nmX (gd ws 0) = false
 ·rw [h0]
  rw [if_pos h0] at qn
  x_go
  lk
  exact qn rfl _ s1
 rw [if_neg h0] at qn qs
 have h0 : nmX (gd ws 0) = true := by simpa using h0
 rw [h0]
 k_go
 unfold qr0
 lk
 refine M5 (s1.sqL ha) (v := .str (gd ws 1)) (C5 (j := 1) (wg2 (by omega))) ?_
 lk
 refine ⟨G1 (by decide), fun p hp => ?_⟩
 have z1 := A7.new hp (.lst (B3 R6))
 refine .inl (qo9 (xs := B3 R6) (.inl (SqL.of A8)) rfl (N4 _) ?_)
 have e1 : A7 H (upd H1 p (.lst (B3 R6))) := A7.tr s1 z1
 obtain ⟨H2, eH⟩ : ∃ H2, H2 = upd H1 p (.lst (B3 R6)) := ⟨_, rfl⟩
 rw [show upd H1 p (HO.lst (B3 [("bare" : Str), ("plain" : Str), ("anew" : Str), ("room" : Str), ("frame" : Str)])) = H2 from eH.symm]
 rw [<- eH] at e1
 rw [P6]
 refine ⟨_, rfl, ?_⟩
 by_cases h1 : gd ws 1 ∉ R6
 ·rw [decide_eq_false h1]
  rw [if_pos h1] at qn
  x_go
  lk
  exact qn rfl _ e1
 ·rw [if_neg h1] at qn qs
  have h1 : gd ws 1 ∈ R6 := Classical.byContradiction h1
  rw [decide_eq_true h1]
  k_go
  lk
  exact zk5 (e1.sqL ha) (by omega) hz hw (fun z H' s' => qn z H' (A7.tr e1 s')) fun r z t H' s' d => qs r z t H' (A7.tr e1 s') d
structure Wrd (n : Nat) (x : Str) : Prop where
 z : x.length <= n
 c : ∀ c ∈ x.cps.toList, c ≠ 10 /\ c ≠ 32
def xq2 (x : Str) : Prop := ∀ c ∈ x.cps.toList, 97 <= c /\ c <= 122
theorem xj6 {lo hi : Option Int} (h : c ∈ (qr7 z lo hi).cps.toList) : c ∈ z.cps.toList := List.mem_of_mem_drop (List.mem_of_mem_take h)
theorem xj7 (z : Str) (lo hi : Option Int) : (qr7 z lo hi).length <= z.length := by
 show (List.toArray _).size <= z.cps.size
 rw [List.size_toArray, List.length_take, List.length_drop, <- Array.length_toList]
 omega
theorem xu9 (h : c ∈ (x ++ y).cps.toList) : c ∈ x.cps.toList \/ c ∈ y.cps.toList := by
 have e : (x ++ y).cps.toList = x.cps.toList ++ y.cps.toList := Array.toList_append
 rw [e] at h; exact List.mem_append.mp h
theorem wi0 (x y : Str) : (x ++ y).length = x.length + y.length := Array.size_append
theorem yl8 : xq2 ("" : Str) := fun c hc => nomatch (show c ∈ ([] : List Nat) from hc)
theorem wp1 (h1 : xq2 x) (h2 : xq2 y) : xq2 (x ++ y) := fun c hc => (xu9 hc).elim (h1 c) (h2 c)
theorem xv0 {r : Int} (r0 : 0 <= r) (r1 : r < 26) : xq2 ⟨#[97 + r.toNat]⟩ := fun c hc => by
 have : c = 97 + r.toNat := by simpa using hc
 omega
theorem yl9 (h : xq2 x) (hl : x.length <= n) : Wrd n x := ⟨hl, fun c hc => by have := h c hc; omega⟩
abbrev wg5 (K : Fg) : TS :=
 (J0 (tOp (P4 K) (B1 4) (tOp (G5 K) (B1 2) (D9 (L6 K) [] E0 (A9 (B1 3) (A9 (tC (.int 26)) B7))))) (C3 4))
abbrev wg6 (K : Fg) : TS :=
 (I0 (T3 [some 4, some 2, some 6, some 7, none] (qq5 (A9 (tC (.int 4)) B7)) (C3 4) tTT (tOp (P4 K) (tOp (P4 K) (tSl (wk6 K) (B1 0) P8 (qa6 (B1 2))) (tOp (G5 K) (B1 1) (tOp (rI (fun _ j => 0 < j) fun i j => .int (i % j)) (tOp (P4 K) (B1 3) (B1 4)) (tC (.int 26))))) (tSl (wk6 K) (B1 0) (qa6 (tOp (P4 K) (B1 2) (tC (.int 1)))) P8))))
abbrev wg7 (K : Fg) : TS :=
 (D8 (J0 (tBM K "str" xs1 (B1 2) (A9 (tOp (G5 K) (B1 4) (B1 6)) B7)) (C3 7))
 (wg6 K))
abbrev wg8 (K : Fg) : TS :=
 (D8 (J0 (tOp (rI (fun _ j => 0 < j) fun i j => .int (i % j)) (B1 1) (tCB (R8 K) (A9 (B1 4) B7))) (C3 6))
 (wg7 K))
abbrev qk8 (K : Fg) : TS :=
 (D8 (ql8 (qq5 (A9 (tOp (P4 K) (tC (.int 1)) (D9 (L6 K) [] E0 (A9 (B1 3) (A9 (tC (.int 8)) B7)))) B7)) (C3 5)
 (wg5 K))
 (wg8 K))
abbrev wg9 (K : Fg) : TS :=
 (D8 (J0 (D9 (qa1 K) [] E0 (A9 (B1 0) B7)) (C3 3))
 (D8 (J0 (tC (.str ("" : Str))) (C3 4))
 (qk8 K)))
def W8 (K : Fg) : Sp := fun vs H Q _ => ∃ c w : Int, vs = [.int c, .int w] /\ ∀ (t : Addr) (ns : List Str) H', A7 H H' -> H' t = some (.lst (B3 ns)) -> ns.length = 4 -> (∀ x ∈ ns, Wrd 20 x) -> Q (.ref t) H'
theorem wh0 (K : Fg) : ∀ vs H Q E, W8 K vs H Q E -> vs.length = ["_law_cell", "_law_where"].length := by rintro vs H Q E ⟨c, w, rfl, _⟩; rfl
def Y8 (K : Fg) : TS :=
 (D8 (J0 (tC (.str ("abcdefghijklmnopqrstuvwxyz" : Str))) (C3 2))
 (wg9 K))
theorem wp2 (h : W8 K vs H Q E) : Y8 K { nx := fun _ H' => Q .non H', rt := Q } (I9 ["_law_cell", "_law_where", "_law_letters", "_law_pot_here", "_law_base", "_law_k", "_law_there", "_law_at_first"] vs) H := by
 obtain ⟨c, w, rfl, q⟩ := h
 show Y8 K _ [some (.int c), some (.int w), none, none, none, none, none, none] H
 unfold Y8
 lk
 refine ⟨c, rfl, fun p n hp => ?_⟩
 have s1 := A7.new hp (.lst [.int n])
 have e1 : (upd H p (.lst [.int n])) p = some (.lst [.int n]) := A8
 generalize upd H p (.lst [.int n]) = H1 at *
 unfold qk8
 lk
 refine ⟨p, 8, n, rfl, e1, by decide, by decide, fun z n2 z0 z1 => ?_⟩
 have s2 : A7 H (upd H1 p (.lst [.int n2])) := A7.put s1 hp _
 have e2 : (upd H1 p (.lst [.int n2])) p = some (.lst [.int n2]) := A8
 generalize upd H1 p (.lst [.int n2]) = H2 at *
 lk
 refine qu7 (n := 1 + z) (by omega) (by omega) (fun i σ H' => ∃ (b : Str) (k : Option V) (n' : Int), A7 H H' /\ H' p = some (.lst [.int n']) /\ b.length = i /\ xq2 b /\ σ = [some (.int c), some (.int w), some (.str Lt), some (.ref p), some (.str b), k, none, none]) ⟨("" : Str), none, n2, s2, e2, rfl, yl8, rfl⟩ ?_ ?_
 ·rintro i σ H' hi ⟨b, k, n', s, e, hl, hb, rfl⟩
  lk
  refine ⟨p, 26, n', rfl, e, by decide, by decide, fun r n4 r0 r1 => ?_⟩
  refine yf3 (z := Lt) xh9 (yv7 r0 r1) ?_
  refine wz1 (G1 (by show b.length + 1 <= _; omega)) ?_
  lk
  refine ⟨b ++ ⟨#[97 + r.toNat]⟩, _, n4, A7.put s hp _, A8, ?_, wp1 hb (xv0 r0 r1), rfl⟩
  rw [wi0, hl]; rfl
 ·rintro σ H' ⟨b, k, n', s, e, hl, hb, rfl⟩
  have hb1 : 1 <= b.length := by omega
  have hb8 : b.length <= 8 := by omega
  have hbi : 0 < (b.length : Int) := by omega
  lk
  refine xn7 (G1 (by omega)) ?_
  lk
  have t0 : 0 <= w % (b.length : Int) := Int.emod_nonneg _ (by omega)
  have t1 : w % (b.length : Int) < b.length := Int.emod_lt_of_pos _ (by omega)
  generalize hth : (w % (b.length : Int)).toNat = th
  have eth : w % (b.length : Int) = ((th : Nat) : Int) := by omega
  rw [eth]
  have hth' : th < b.cps.toList.length := by rw [Array.length_toList]; show th < b.length; omega
  obtain ⟨d, hd⟩ : ∃ d, b.cps.toList[th]? = some d := ⟨_, List.getElem?_eq_getElem hth'⟩
  lk
  refine ⟨rfl, ?_⟩
  lk
  refine yf3 (G1 (by omega)) (C5 hd) ?_
  have hdl := hb d (List.mem_of_getElem? hd)
  refine ⟨Lt, ch d, d - 97, [], rfl, rfl, ?_, ?_⟩
  ·have := zb5 (d - 97) (by omega)
   have e : 97 + (d - 97) = d := by omega
   rw [e] at this
   exact this
  lk
  refine qo8 (n := 4) (by decide) (by decide) (fun i ys H2 => A7 H H2 /\ ∃ ns : List Str, ys = B3 ns /\ ns.length = i /\ ∀ x ∈ ns, Wrd 20 x) ⟨s, [], rfl, rfl, fun x hx => nomatch hx⟩ ?_ ?_ ?_
  ·rintro i ys H2 hi ⟨_, ns, rfl, hl, _⟩
   rw [C2]
   exact G1 (by omega)
  ·rintro i ys H2 hi ⟨s2, ns, rfl, hl2, hn⟩
   lk
   refine yv2 (G1 (by omega)) ?_
   have a0 : 0 <= (((d - 97 : Nat) : Int) + (i : Int)) % 26 := Int.emod_nonneg _ (by decide)
   have a1 : (((d - 97 : Nat) : Int) + (i : Int)) % 26 < 26 := Int.emod_lt_of_pos _ (by decide)
   lk
   refine yf3 (z := Lt) xh9 (yv7 a0 a1) ?_
   have l1 := xj7 b none (some (th : Int))
   have l2 := xj7 b (some ((th : Int) + 1)) none
   refine wz1 (G1 (by show (qr7 b none (some (th : Int))).length + 1 <= _; omega)) ?_
   have l3 : (qr7 b none (some (th : Int)) ++ (⟨#[97 + ((((d - 97 : Nat) : Int) + (i : Int)) % 26).toNat]⟩ : Str)).length <= 9 := by rw [wi0]; show (qr7 b none (some (th : Int))).length + 1 <= _; omega
   lk
   refine yv2 (G1 (by omega)) ?_
   refine wz1 (G1 (by omega)) ?_
   obtain ⟨nm, enm⟩ : ∃ nm, nm = qr7 b none (some (th : Int)) ++ (⟨#[97 + ((((d - 97 : Nat) : Int) + (i : Int)) % 26).toNat]⟩ : Str) ++ qr7 b (some ((th : Int) + 1)) none := ⟨_, rfl⟩
   rw [<- enm]
   refine ⟨s2, ns ++ [nm], Q5 ns [nm], by rw [List.length_append, hl2]; rfl, fun x hx => ?_⟩
   rcases List.mem_append.mp hx with hx | hx
   ·exact hn x hx
   ·rw [List.mem_singleton.mp hx, enm]
    refine yl9 (wp1 (wp1 (fun c hc => hb c (xj6 hc)) (xv0 a0 a1)) fun c hc => hb c (xj6 hc)) ?_
    rw [wi0]; omega
  ·rintro ys H2 ⟨s2, ns, rfl, hl2, hn⟩ t ht
   exact q t ns _ (A7.tr s2 (A7.new ht _)) A8 hl2 hn
abbrev R9 (K : Fg) : TS :=
 (qc8 (tBM K "list" S7 (B1 4) (A9 (tOp (G5 K) (B1 0) (D9 (L6 K) [] E0 (A9 (B1 2) (A9 (tC (.int 4)) B7)))) B7)))
abbrev W9 (K : Fg) : TS :=
 (ql8 (qq5 (A9 (tOp (P4 K) (tC (.int 1)) (D9 (L6 K) [] E0 (A9 (B1 2) (A9 (tC (.int 3)) B7)))) B7)) (C3 6)
 (R9 K))
abbrev qx0 (K : Fg) : TS :=
 (M9 (D5 (tOp (R1 K) (D9 (L6 K) [] E0 (A9 (B1 2) (A9 (tC (.int 2)) B7))) (tC (.int 1))))
 (D8 (qc8 (tBM K "list" S7 (B1 4) (A9 (B1 5) B7)))
 (W9 K)) G8)
abbrev X0 (K : Fg) : TS :=
 (D8 (ql8 (qg7 K (O9 (A9 (tC (.str ("shuts" : Str))) (A9 (tC (.str ("bars" : Str))) B7)))) (C3 5)
 (qx0 K))
 (I0 (B1 4)))
abbrev qf8 (K : Fg) : TS :=
 (D8 (M9 (D5 (tOp (R1 K) (tOp (G5 K) (B1 4) (tC (.int 1))) (tC (.str ("frame" : Str)))))
 (R9 K) G8)
 (X0 K))
abbrev qx1 (K : Fg) : TS :=
 (D8 (J0 (O9 (A9 (tOp (G5 K) (B1 0) (D9 (L6 K) [] E0 (A9 (B1 2) (A9 (tC (.int 4)) B7)))) (A9 (tOp (G5 K) (B1 3) (D9 (L6 K) [] E0 (A9 (B1 2) (A9 (tC (.int 6)) B7)))) B7))) (C3 4))
 (qf8 K))
abbrev qx2 (K : Fg) : TS :=
 (I0 (T3 [some 7, some 2, none] (qq5 (A9 (tOp (P4 K) (tC (.int 1)) (D9 (L6 K) [] E0 (A9 (B1 2) (A9 (tC (.int 9)) B7)))) B7)) (C3 2) tTT (tOp (G5 K) (B1 0) (D9 (L6 K) [] E0 (A9 (B1 1) (A9 (tCB (R8 K) (A9 (B1 0) B7)) B7))))))
abbrev qx3 (K : Fg) : TS :=
 (D8 (J0 (tOp (P4 K) (tOp (P4 K) (B1 0) (B1 3)) (O9 (wk7 [("shuts" : Str), ("bars" : Str), ("shuts" : Str), ("bars" : Str), ("abcdefghi" : Str), ("a1" : Str), ("" : Str), ("Plain" : Str)]))) (C3 7))
 (qx2 K))
abbrev qx4 (K : Fg) : TS :=
 (D8 (M9 (D5 (tOp xy5 (D9 (L6 K) [] E0 (A9 (B1 2) (A9 (tC (.int 3)) B7))) (tC (.int 0))))
 (qx1 K) G8)
 (qx3 K))
abbrev qf9 (K : Fg) : TS :=
 (D8 (J0 (O9 (wk7 [("plain" : Str), ("anew" : Str), ("bare" : Str), ("frame" : Str), ("room" : Str), ("plain" : Str)])) (C3 3))
 (qx4 K))
variable {ns : List Str}
theorem wi1 {r : Int} (h0 : 0 <= r) (h1 : r < ns.length) : ∃ x ∈ ns, atI (B3 ns) r = some (.str x) := by
 have hl : r.toNat < ns.length := by omega
 refine ⟨ns[r.toNat], List.getElem_mem hl, ?_⟩
 have e : r = ((r.toNat : Nat) : Int) := by omega
 have g : (B3 ns)[r.toNat]? = some (.str ns[r.toNat]) := by unfold B3; rw [List.getElem?_map, List.getElem?_eq_getElem hl]; rfl
 have q : atI (B3 ns) ((r.toNat : Nat) : Int) = some (.str ns[r.toNat]) := C5 g
 rw [<- e] at q; exact q
structure Ww (B : Hp) (p f : Addr) (n : Int) (ws : List Str) (k : Nat) (H : Hp) : Prop where
 s : A7 B H
 np : B p = none
 nf : B f = none
 ne : p ≠ f
 ep : H p = some (.lst [.int n])
 ef : H f = some (.lst (B3 ws))
 l0 : ws ≠ []
 l1 : ws.length <= k
 w : ∀ x ∈ ws, Wrd 21 x
variable {B : Hp} {f : Addr}
theorem Ww.pot {n m : Int} {k : Nat} (W : Ww B p f n ws k H) : Ww B p f m ws k (upd H p (.lst [.int m])) :=
 ⟨A7.put W.s W.np _, W.np, W.nf, W.ne, A8, by rw [C4 (Ne.symm W.ne)]; exact W.ef, W.l0, W.l1, W.w⟩
theorem Ww.add {n : Int} {k : Nat} (W : Ww B p f n ws k H) (hx : Wrd 21 x) : Ww B p f n (ws ++ [x]) (k + 1) (upd H f (.lst (B3 ws ++ [.str x]))) :=
 ⟨A7.put W.s W.nf _, W.np, W.nf, W.ne, by rw [C4 W.ne]; exact W.ep, by rw [A8]; exact congrArg (fun z => some (HO.lst z)) (Q5 ws [x]), by simp, by rw [List.length_append]; exact Nat.succ_le_succ W.l1, fun y hy => (List.mem_append.mp hy).elim (W.w y) fun h => by rw [List.mem_singleton.mp h]; exact hx⟩
theorem Ww.more {n : Int} {k m : Nat} (W : Ww B p f n ws k H) (h : k <= m) : Ww B p f n ws m H := ⟨W.s, W.np, W.nf, W.ne, W.ep, W.ef, W.l0, Nat.le_trans W.l1 h, W.w⟩
theorem Ww.same {n : Int} {k : Nat} (W : Ww B p f n ws k H) (z : A7 H H') : Ww B p f n ws k H' := ⟨A7.tr W.s z, W.np, W.nf, W.ne, z _ _ W.ep, z _ _ W.ef, W.l0, W.l1, W.w⟩
theorem Ww.base {n : Int} {k : Nat} (W : Ww B p f n ws k H) : ∃ B', A7 B B' /\ (∀ c u, H c = some u -> c ≠ p -> c ≠ f -> B' c = some u) /\ Ww B' p f n ws k H := by
 refine ⟨fun c => if c = p \/ c = f then none else H c, fun c u g => ?_, fun c u g h1 h2 => ?_, ⟨fun c u g => ?_, if_pos (.inl rfl), if_pos (.inr rfl), W.ne, W.ep, W.ef, W.l0, W.l1, W.w⟩⟩
 ·have h1 : c ≠ p := fun z => by rw [z, W.np] at g; cases g
  have h2 : c ≠ f := fun z => by rw [z, W.nf] at g; cases g
  show (if c = p \/ c = f then none else H c) = some u
  rw [if_neg fun z => z.elim h1 h2]; exact W.s c u g
 ·show (if c = p \/ c = f then none else H c) = some u
  rw [if_neg fun z => z.elim h1 h2]; exact g
 ·have g : (if c = p \/ c = f then none else H c) = some u := g
  by_cases hc : c = p \/ c = f
  ·rw [if_pos hc] at g; cases g
  ·rw [if_neg hc] at g; exact g
variable {o1 o3 o5 o6 : Option V}
section
variable {n : Int} {k : Nat} {o7 : Option V}
theorem wo0 (ha : SqL K B a (B3 ns)) (hn : ns.length = 4) (hw : ∀ x ∈ ns, Wrd 21 x) (W : Ww B p f n ws k H) (hk : k <= 60) (q : ∀ n' ws' H', Ww B p f n' ws' (k + 1) H' -> D.nx [some (.ref a), o1, some (.ref p), o3, some (.ref f), o5, o6, o7] H') :
 R9 K D [some (.ref a), o1, some (.ref p), o3, some (.ref f), o5, o6, o7] H := by
 unfold R9
 lk
 refine ⟨.inl ⟨rfl, _, SqL.of W.ef⟩, ?_⟩
 lk
 refine ⟨p, 4, n, rfl, W.ep, by decide, by decide, fun r n' r0 r1 => ?_⟩
 have W : Ww B p f n' ws k (upd H p (.lst [.int n'])) := W.pot
 generalize upd H p (.lst [.int n']) = H1 at *
 obtain ⟨x, hx, ex⟩ := wi1 (ns := ns) r0 (by rw [hn]; exact r1)
 refine M5 (W.s.sqL ha) ex ?_
 lk
 have hl := W.l1
 refine S2 W.ef (by rw [C2, sizeLine_eq]; omega) ?_
 exact q n' _ _ (W.add (hw x hx))
theorem wo1 (ha : SqL K B a (B3 ns)) (hn : ns.length = 4) (hw : ∀ x ∈ ns, Wrd 21 x) (W : Ww B p f n ws k H) (hk : k <= 40) (q : ∀ n' ws' H' o6, Ww B p f n' ws' (k + 3) H' -> D.nx [some (.ref a), o1, some (.ref p), o3, some (.ref f), o5, o6, o7] H') :
 W9 K D [some (.ref a), o1, some (.ref p), o3, some (.ref f), o5, o6, o7] H := by
 unfold W9
 lk
 refine ⟨p, 3, n, rfl, W.ep, by decide, by decide, fun r n' r0 r1 => ?_⟩
 have W : Ww B p f n' ws k (upd H p (.lst [.int n'])) := W.pot
 generalize upd H p (.lst [.int n']) = H1 at *
 lk
 refine qu7 (n := 1 + r) (by omega) (by omega) (fun i σ H' => ∃ n' ws' o6, Ww B p f n' ws' (k + i) H' /\ σ = [some (.ref a), o1, some (.ref p), o3, some (.ref f), o5, o6, o7]) ⟨n', ws, o6, W, rfl⟩ ?_ ?_
 ·rintro i σ H' hi ⟨n', ws', o6, W, rfl⟩
  refine J9 ?_
  exact wo0 ha hn hw W (by omega) fun n2 ws2 H2 W2 => ⟨n2, ws2, _, W2, rfl⟩
 ·rintro σ H' ⟨n', ws', o6, W, rfl⟩
  exact q n' ws' H' o6 (W.more (by omega))
theorem xq3 (h : (decide (x.length <= 21) && x.cps.toList.all (fun c => decide (c ≠ 10) && decide (c ≠ 32))) = true) : Wrd 21 x := by
 rw [Bool.and_eq_true, List.all_eq_true] at h
 exact ⟨of_decide_eq_true h.1, fun c hc => by have := h.2 c hc; simpa using this⟩
theorem wo3 (ha : SqL K B a (B3 ns)) (hn : ns.length = 4) (hw : ∀ x ∈ ns, Wrd 21 x) (W : Ww B p f n ws 3 H) (q : ∀ n' ws' H', Ww B p f n' ws' 11 H' -> D.rt (.ref f) H') :
 X0 K D [some (.ref a), o1, some (.ref p), o3, some (.ref f), o5, o6, o7] H := by
 unfold X0
 lk
 refine ⟨G1 (by z_go), fun h hh => ?_⟩
 obtain ⟨H1, eH⟩ : ∃ H1, H1 = upd H h (.lst [.str ("shuts" : Str), .str ("bars" : Str)]) := ⟨_, rfl⟩
 have z1 : A7 H H1 := by rw [eH]; exact A7.new hh _
 have e1 : H1 h = some (.lst (B3 [("shuts" : Str), ("bars" : Str)])) := by rw [eH]; exact A8
 rw [<- eH]
 have nh1 : h ≠ p := fun z => by rw [z, W.ep] at hh; cases hh
 have nh2 : h ≠ f := fun z => by rw [z, W.ef] at hh; cases hh
 obtain ⟨B', sB, hB, W'⟩ := (W.same z1).base
 have ha' := sB.sqL ha
 refine xi2 (xs := B3 [("shuts" : Str), ("bars" : Str)]) (.inl (SqL.of (hB h _ e1 nh1 nh2))) W'.s (fun i σ H' => ∃ n' ws' o5 o6, Ww B' p f n' ws' (3 + 4 * i) H' /\ σ = [some (.ref a), o1, some (.ref p), o3, some (.ref f), o5, o6, o7]) ⟨n, ws, o5, o6, W', rfl⟩ (fun i σ H' ⟨_, _, _, _, W, _⟩ => W.s) ?_ ?_
 ·rintro i x σ H' hx ⟨n', ws', o5, o6, W, rfl⟩
  obtain ⟨y, hy, rfl⟩ := Q4 hx
  have hi : i < 2 := (List.getElem?_eq_some_iff.mp hy).1
  have hyw : Wrd 21 y := by
   have := List.mem_of_getElem? hy
   rcases List.mem_cons.mp this with rfl | h
   ·exact xq3 (by decide +kernel)
   ·rw [List.mem_singleton.mp h]; exact xq3 (by decide +kernel)
  lk
  refine ⟨p, 2, n', rfl, W.ep, by decide, by decide, fun r n2 r0 r1 => ?_⟩
  have W : Ww B' p f n2 ws' (3 + 4 * i) (upd H' p (.lst [.int n2])) := W.pot
  generalize upd H' p (.lst [.int n2]) = H2 at *
  lk
  by_cases hr : r = 1
  ·rw [decide_eq_true hr]
   x_go
   lk
   refine ⟨.inl ⟨rfl, _, SqL.of W.ef⟩, ?_⟩
   lk
   have hl := W.l1
   refine S2 W.ef (by rw [C2, sizeLine_eq]; omega) ?_
   refine wo1 ha' hn hw (W.add hyw) (by omega) fun n3 ws3 H3 o6 W3 => ⟨n3, ws3, _, o6, W3.more (by omega), rfl⟩
  ·rw [decide_eq_false hr]
   k_go
   lk
   exact ⟨n2, ws', _, o6, W.more (by omega), rfl⟩
 ·rintro σ H' ⟨n', ws', o5, o6, W, rfl⟩
  lk
  refine q n' ws' H' ⟨A7.tr sB W.s, ?_, ?_, W.ne, W.ep, W.ef, W.l0, W.l1, W.w⟩
  ·exact qp5 sB W.np
  ·exact qp5 sB W.nf
end
def wc1 : List Str := [("plain" : Str), ("anew" : Str), ("bare" : Str), ("frame" : Str), ("room" : Str), ("plain" : Str)]
def ys9 : List Str := [("shuts" : Str), ("bars" : Str), ("shuts" : Str), ("bars" : Str), ("abcdefghi" : Str), ("a1" : Str), ("" : Str), ("Plain" : Str)]
theorem xv1 (h : xs.all (fun x => decide (x.length <= 21) && x.cps.toList.all (fun c => decide (c ≠ 10) && decide (c ≠ 32))) = true) : ∀ x ∈ xs, Wrd 21 x := fun x hx => xq3 (List.all_eq_true.mp h x hx)
theorem zi6 : ∀ x ∈ wc1, Wrd 21 x := xv1 (by decide +kernel)
theorem zk6 : ∀ x ∈ ys9, Wrd 21 x := xv1 (by decide +kernel)
def T1 (K : Fg) : Sp := fun vs H Q _ => ∃ (a : Addr) (ns : List Str) (c : Int), vs = [.ref a, .int c] /\ H a = some (.lst (B3 ns)) /\ ns.length = 4 /\ (∀ x ∈ ns, Wrd 21 x) /\ ∀ (t : Addr) (ws : List Str) H', A7 H H' -> H' t = some (.lst (B3 ws)) -> ws ≠ [] -> ws.length <= 20 -> (∀ x ∈ ws, Wrd 21 x) -> Q (.ref t) H'
theorem qx5 (K : Fg) : ∀ vs H Q E, T1 K vs H Q E -> vs.length = ["_law_names", "_law_cell"].length := by rintro vs H Q E ⟨a, ns, c, rfl, _⟩; rfl
def U0 (K : Fg) : TS :=
 (D8 (J0 (D9 (qa1 K) [] E0 (A9 (B1 1) B7)) (C3 2))
 (qf9 K))
theorem wc2 (h : T1 K vs H Q E) : U0 K { nx := fun _ H' => Q .non H', rt := Q } (I9 ["_law_names", "_law_cell", "_law_pot_here", "_law_sorts", "_law_found", "_law_head", "_law_k", "_law_some"] vs) H := by
 obtain ⟨a, ns, c, rfl, ha, hn, hw, q⟩ := h
 show U0 K _ [some (.ref a), some (.int c), none, none, none, none, none, none] H
 unfold U0
 lk
 refine ⟨c, rfl, fun p n hp => ?_⟩
 have s1 := A7.new hp (.lst [.int n])
 have e1 : (upd H p (.lst [.int n])) p = some (.lst [.int n]) := A8
 generalize upd H p (.lst [.int n]) = H1 at *
 have nap : a ≠ p := S9 ha hp
 unfold qf9
 lk
 refine ⟨G1 (by decide), fun s hs => ?_⟩
 obtain ⟨H2, eH⟩ : ∃ H2, H2 = upd H1 s (.lst (B3 wc1)) := ⟨_, rfl⟩
 rw [show upd H1 s (HO.lst (B3 [("plain" : Str), ("anew" : Str), ("bare" : Str), ("frame" : Str), ("room" : Str), ("plain" : Str)])) = H2 from eH.symm]
 have z2 : A7 H1 H2 := by rw [eH]; exact A7.new hs _
 have e2 : H2 s = some (.lst (B3 wc1)) := by rw [eH]; exact A8
 have s2 := A7.tr s1 z2
 have nsp : s ≠ p := fun z => by rw [z, e1] at hs; cases hs
 have p2 := z2 _ _ e1
 lk
 refine ⟨p, 3, n, rfl, p2, by decide, by decide, fun r n' r0 r1 => ?_⟩
 have s3 : A7 H (upd H2 p (.lst [.int n'])) := A7.put s2 hp _
 have e3 : (upd H2 p (.lst [.int n'])) s = some (.lst (B3 wc1)) := by rw [C4 nsp]; exact e2
 have p3 : (upd H2 p (.lst [.int n'])) p = some (.lst [.int n']) := A8
 generalize upd H2 p (.lst [.int n']) = H3 at *
 lk
 by_cases hr : 0 < r
 ·rw [decide_eq_true hr]
  x_go
  lk
  refine ⟨p, 4, n', rfl, p3, by decide, by decide, fun r4 n4 r40 r41 => ?_⟩
  have s4 : A7 H (upd H3 p (.lst [.int n4])) := A7.put s3 hp _
  have e4 : (upd H3 p (.lst [.int n4])) s = some (.lst (B3 wc1)) := by rw [C4 nsp]; exact e3
  have p4 : (upd H3 p (.lst [.int n4])) p = some (.lst [.int n4]) := A8
  generalize upd H3 p (.lst [.int n4]) = H4 at *
  obtain ⟨x, hx, ex⟩ := wi1 (ns := ns) r40 (by rw [hn]; exact r41)
  refine M5 (SqL.of (s4 _ _ ha)) ex ?_
  lk
  refine ⟨p, 6, n4, rfl, p4, by decide, by decide, fun r5 n5 r50 r51 => ?_⟩
  have s5 : A7 H (upd H4 p (.lst [.int n5])) := A7.put s4 hp _
  have e5 : (upd H4 p (.lst [.int n5])) s = some (.lst (B3 wc1)) := by rw [C4 nsp]; exact e4
  have p5 : (upd H4 p (.lst [.int n5])) p = some (.lst [.int n5]) := A8
  generalize upd H4 p (.lst [.int n5]) = H5 at *
  obtain ⟨y, hy, ey⟩ := wi1 (ns := wc1) r50 r51
  refine M5 (SqL.of e5) ey ?_
  lk
  refine ⟨G1 (by z_go), fun f hf => ?_⟩
  have nfp : p ≠ f := fun z => by rw [z] at p5; rw [p5] at hf; cases hf
  let B : Hp := fun c => if c = p then none else H5 c
  have Bne : ∀ c, c ≠ p -> B c = H5 c := fun c h => if_neg h
  have sB : A7 H B := fun c u g => by rw [Bne c (S9 g hp)]; exact s5 c u g
  have W : Ww B p f n5 [x, y] 2 (upd H5 f (.lst [.str x, .str y])) := by
   refine ⟨fun c u g => ?_, if_pos rfl, by rw [Bne f (Ne.symm nfp)]; exact hf, nfp, by rw [C4 nfp]; exact p5, A8, by simp, Nat.le_refl _, fun w hw' => ?_⟩
   ·have h1 : c ≠ p := fun z => by rw [z] at g; cases (show (none : Option HO) = some u from (if_pos rfl).symm.trans g)
    rw [Bne c h1] at g
    rw [C4 (S9 g hf)]; exact g
   ·rcases List.mem_cons.mp hw' with rfl | h
    ·exact hw _ hx
    ·rw [List.mem_singleton.mp h]; exact zi6 y hy
  generalize upd H5 f (.lst [.str x, .str y]) = H6 at *
  have haB : SqL K B a (B3 ns) := SqL.of (sB _ _ ha)
  have fin : ∀ n' ws' H', Ww B p f n' ws' 11 H' -> Q (.ref f) H' := fun n' ws' H' W => q f ws' H' (A7.tr sB W.s) W.ef W.l0 (by have := W.l1; omega) W.w
  unfold qf8
  lk
  refine M5 (SqL.of W.ef) (v := .str y) (C5 (j := 1) rfl) ?_
  lk
  by_cases hf : y = ("frame" : Str)
  ·rw [decide_eq_true hf]
   x_go
   refine wo0 haB hn hw W (by omega) fun n2 ws2 H2 W2 => ?_
   exact wo3 haB hn hw W2 fin
  ·rw [decide_eq_false hf]
   k_go
   lk
   exact wo3 haB hn hw (W.more (by omega)) fin
 ·rw [decide_eq_false hr]
  k_go
  lk
  refine xf9 (s3 _ _ ha) e3 (G1 (by rw [C2, C2, hn]; decide)) fun q4 hq4 => ?_
  rw [Q5]
  have z4 := A7.new hq4 (.lst (B3 (ns ++ wc1)))
  have e4 : (upd H3 q4 (.lst (B3 (ns ++ wc1)))) q4 = some (.lst (B3 (ns ++ wc1))) := A8
  generalize upd H3 q4 (.lst (B3 (ns ++ wc1))) = H4 at *
  lk
  refine ⟨G1 (by decide), fun q5 hq5 => ?_⟩
  obtain ⟨H5, eH5⟩ : ∃ H5, H5 = upd H4 q5 (.lst (B3 ys9)) := ⟨_, rfl⟩
  rw [show upd H4 q5 (HO.lst (B3 [("shuts" : Str), ("bars" : Str), ("shuts" : Str), ("bars" : Str), ("abcdefghi" : Str), ("a1" : Str), ("" : Str), ("Plain" : Str)])) = H5 from eH5.symm]
  have z5 : A7 H4 H5 := by rw [eH5]; exact A7.new hq5 _
  have e5 : H5 q5 = some (.lst (B3 ys9)) := by rw [eH5]; exact A8
  have l8 : (ns ++ wc1).length = 10 := by rw [List.length_append, hn]; rfl
  refine xf9 (z5 _ _ e4) e5 (G1 (by rw [C2, C2, l8]; decide)) fun t ht => ?_
  rw [Q5]
  obtain ⟨L, eL⟩ : ∃ L, L = ns ++ wc1 ++ ys9 := ⟨_, rfl⟩
  rw [<- eL]
  have lL : L.length = 18 := by rw [eL, List.length_append, l8]; rfl
  have wL : ∀ x ∈ L, Wrd 21 x := fun x hx => by
   rw [eL] at hx
   rcases List.mem_append.mp hx with hx | hx
   ·rcases List.mem_append.mp hx with hx | hx
    ·exact hw x hx
    ·exact zi6 x hx
   ·exact zk6 x hx
  have z6 := A7.new ht (.lst (B3 L))
  have e6 : (upd H5 t (.lst (B3 L))) t = some (.lst (B3 L)) := A8
  have p6 := z6 _ _ (z5 _ _ (z4 _ _ p3))
  have s6 := A7.tr s3 (A7.tr z4 (A7.tr z5 z6))
  generalize upd H5 t (.lst (B3 L)) = H6 at *
  have ntp : t ≠ p := fun z => by rw [z, z5 _ _ (z4 _ _ p3)] at ht; cases ht
  lk
  refine ⟨p, 9, n', rfl, p6, by decide, by decide, fun r7 n7 r70 r71 => ?_⟩
  have s7 : A7 H (upd H6 p (.lst [.int n7])) := A7.put s6 hp _
  have e7 : (upd H6 p (.lst [.int n7])) t = some (.lst (B3 L)) := by rw [C4 ntp]; exact e6
  have p7 : (upd H6 p (.lst [.int n7])) p = some (.lst [.int n7]) := A8
  generalize upd H6 p (.lst [.int n7]) = H7 at *
  lk
  refine qo8 (n := 1 + r7) (by omega) (by omega) (fun i ys H' => A7 H H' /\ H' t = some (.lst (B3 L)) /\ (∃ m, H' p = some (.lst [.int m])) /\ ∃ ws : List Str, ys = B3 ws /\ ws.length = i /\ ∀ x ∈ ws, Wrd 21 x) ⟨s7, e7, ⟨n7, p7⟩, [], rfl, rfl, fun x hx => nomatch hx⟩ ?_ ?_ ?_
  ·rintro i ys H' hi ⟨_, _, _, ws, rfl, hl, _⟩
   rw [C2]
   exact G1 (by omega)
  ·rintro i ys H' hi ⟨s8, e8, ⟨m, p8⟩, ws, rfl, hl, hww⟩
   lk
   refine R5 (.inl (SqL.of e8)) ?_
   rw [C2, lL]
   lk
   refine ⟨p, 18, m, rfl, p8, by decide, by decide, fun r9 n9 r90 r91 => ?_⟩
   obtain ⟨x, hx, ex⟩ := wi1 (ns := L) r90 (by rw [lL]; exact r91)
   have e9 : (upd H' p (.lst [.int n9])) t = some (.lst (B3 L)) := by rw [C4 ntp]; exact e8
   refine M5 (SqL.of e9) ex ?_
   refine ⟨A7.put s8 hp _, e9, ⟨n9, A8⟩, ws ++ [x], Q5 ws [x], by rw [List.length_append, hl]; rfl, fun y hy => ?_⟩
   rcases List.mem_append.mp hy with hy | hy
   ·exact hww y hy
   ·rw [List.mem_singleton.mp hy]; exact wL x hx
  ·rintro ys H' ⟨s8, _, _, ws, rfl, hl, hww⟩ t2 ht2
   exact q t2 ws _ (A7.tr s8 (A7.new ht2 _)) A8 (fun z => by rw [z] at hl; simp at hl; omega) (by omega) hww
structure Ers (K : Fg) (k_NoBook : Addr) (k_NoText : Addr) (k_TagError : Addr) : Prop where
 ga_NoBook : PySem.W.findIn K (.ref k_NoBook) "__getattribute__" = some (some (.builtin "BaseException.__getattribute__"))
 gn_NoBook : PySem.W.findIn K (.ref k_NoBook) "__getattr__" = some none
 cl_NoBook : PySem.W.findIn K (.ref k_NoBook) "__class__" = some (some (.builtin "object.__class__"))
 bx_NoBook : PySem.W.subIn K (.ref k_NoBook) (.type "BaseException") = some true
 ob_NoBook : PySem.W.subIn K (.ref k_NoBook) (.type "object") = some true
 ve_NoBook : PySem.W.subIn K (.ref k_NoBook) (.type "ValueError") = some true
 s_NoBook_NoBook : PySem.W.subIn K (.ref k_NoBook) (.ref k_NoBook) = some true
 s_NoBook_NoText : PySem.W.subIn K (.ref k_NoBook) (.ref k_NoText) = some false
 ga_NoText : PySem.W.findIn K (.ref k_NoText) "__getattribute__" = some (some (.builtin "BaseException.__getattribute__"))
 gn_NoText : PySem.W.findIn K (.ref k_NoText) "__getattr__" = some none
 cl_NoText : PySem.W.findIn K (.ref k_NoText) "__class__" = some (some (.builtin "object.__class__"))
 bx_NoText : PySem.W.subIn K (.ref k_NoText) (.type "BaseException") = some true
 ob_NoText : PySem.W.subIn K (.ref k_NoText) (.type "object") = some true
 ve_NoText : PySem.W.subIn K (.ref k_NoText) (.type "ValueError") = some true
 s_NoText_NoBook : PySem.W.subIn K (.ref k_NoText) (.ref k_NoBook) = some false
 s_NoText_NoText : PySem.W.subIn K (.ref k_NoText) (.ref k_NoText) = some true
 ic_NoBook : PySem.W.isClsIn K k_NoBook = true
 it_NoBook : PySem.W.typeIn K (.ref k_NoBook) = some (.type "type")
 ic_NoText : PySem.W.isClsIn K k_NoText = true
 it_NoText : PySem.W.typeIn K (.ref k_NoText) = some (.type "type")
variable {k_NoBook k_NoText k_TagError : Addr}
theorem Ers.l_NoBook (e : Ers K k_NoBook k_NoText k_TagError) : wq9 K k_NoBook := ⟨e.ic_NoBook, e.it_NoBook⟩
theorem Ers.l_NoText (e : Ers K k_NoBook k_NoText k_TagError) : wq9 K k_NoText := ⟨e.ic_NoText, e.it_NoText⟩
theorem Ers.e_NoBook (e : Ers K k_NoBook k_NoText k_TagError) : yq9 K k_NoBook := ⟨⟨e.ga_NoBook, e.gn_NoBook, e.cl_NoBook, e.bx_NoBook, e.ob_NoBook⟩, e.l_NoBook, e.s_NoBook_NoBook⟩
theorem Ers.e_NoText (e : Ers K k_NoBook k_NoText k_TagError) : yq9 K k_NoText := ⟨⟨e.ga_NoText, e.gn_NoText, e.cl_NoText, e.bx_NoText, e.ob_NoText⟩, e.l_NoText, e.s_NoText_NoText⟩
inductive xq4 (ls : List Str) : PyData -> Prop
 | none (h : ls = [("" : Str)]) : xq4 ls (.list [.str ("read" : Str), .tuple []])
 | read {rs : List Row} (h : ls ≠ [("" : Str)]) (e : ls.map rdL = rs.map some) (m : wf7 rs) : xq4 ls (.list [.str ("read" : Str), .tuple (rs.map Row.da)])
 | book {rs : List Row} {m : Nat} (h : ls ≠ [("" : Str)]) (e : ls.map rdL = rs.map some) (f : wf9 rs m) : xq4 ls (.list [.str ("book" : Str), .int m])
 | text {m : Nat} (h : ls ≠ [("" : Str)]) (f : wg3 ls m) : xq4 ls (.list [.str ("text" : Str), .int m])
abbrev wt8 (K : Fg) (k_NoText : Addr) : TS :=
 (I0 (O9 (A9 (tOp (G5 K) (O9 (A9 (tC (.str ("book" : Str))) (A9 (tC (.str ("text" : Str))) B7))) (tCB xs0 (A9 (tCB (xh1 K) (A9 (B1 1) (A9 (tC (.ref k_NoText)) B7))) B7))) (A9 (za9 K (B1 1) "row") B7))))
abbrev wt9 (K : Fg) (k_NoText : Addr) (k_NoBook : Addr) : TS :=
 (D8 (M9 (D5 (tOp (R1 K) (tCB (xh1 K) (A9 (B1 1) (A9 (tC (.ref k_NoText)) B7))) (tCB (xh1 K) (A9 (B1 1) (A9 (tC (.ref k_NoBook)) B7)))))
 (I0 (O9 (A9 (tC (.str ("other" : Str))) (A9 (tC (.int 0)) B7)))) G8)
 (wt8 K k_NoText))
abbrev qh0 (K : Fg) (k_NoText : Addr) (k_NoBook : Addr) : TS :=
 (D8 (M9 (D5 (tOp wq7 (B1 1) (tC .non)))
 (I0 (O9 (A9 (tC (.str ("read" : Str))) (A9 (B1 2) B7)))) G8)
 (wt9 K k_NoText k_NoBook))
abbrev wu0 (K : Fg) (k_NoText : Addr) (k_NoBook : Addr) : TS :=
 (D8 (xt6 [k_NoText, k_NoBook] 3 2 (fun E => D9 (Y7 K k_NoText k_NoBook) [] E (A9 (B1 0) B7)) (J0 (B1 3) (C3 1)))
 (qh0 K k_NoText k_NoBook))
def qc3 (K : Fg) : Sp := fun vs H Q _ => ∃ (z : Str) (ls : List Str), vs = [.str z] /\ ls ≠ [] /\ ls.length <= 12 /\ (∀ l ∈ ls, ws7 l) /\ z = Str.join ("\n" : Str) ls /\ (∀ l ∈ ls, ∀ r, rdL l = some r -> Sml r) /\ ∀ (d : PyData) (t : Addr) H', A7 H H' -> xq4 ls d -> Dv K H' d (.ref t) -> Q (.ref t) H'
theorem wu1 (K : Fg) : ∀ vs H Q E, qc3 K vs H Q E -> vs.length = ["_law_text"].length := by rintro vs H Q E ⟨z, ls, rfl, _⟩; rfl
def qg0 (K : Fg) (k_NoText : Addr) (k_NoBook : Addr) : TS :=
 (D8 (J0 (tC .non) (C3 1))
 (D8 (J0 (tC .non) (C3 2))
 (wu0 K k_NoText k_NoBook)))
theorem xd3 (ei_NoBook : ExI K k_NoBook "row") (ei_NoText : ExI K k_NoText "row") (er : Ers K k_NoBook k_NoText k_TagError) (h : qc3 K vs H Q E) : qg0 K k_NoText k_NoBook { nx := fun _ H' => Q .non H', rt := Q } (I9 ["_law_text", "_law_error", "_law_found", "e"] vs) H := by
 obtain ⟨z, ls, rfl, h0, hz, hL, ez, hS, q⟩ := h
 show qg0 K _ _ _ [some (.str z), none, none, none] H
 unfold qg0
 lk
 show xt6 [k_NoText, k_NoBook] 3 2 _ _ _ _ _
 unfold xt6
 lk
 have fin : ∀ {u : Addr} {us : List V} {ds : List PyData} {H1 : Hp}, A7 H H1 -> H1 u = some (.tup us) -> Dvs K H1 ds us -> xq4 ls (.list [.str ("read" : Str), .tuple ds]) ->
  qh0 K k_NoText k_NoBook { nx := fun _ H' => Q .non H', rt := Q } [some (.str z), some .non, some (.ref u), none] H1 := by
  intro u us ds H1 s1 hu hd ht
  unfold qh0
  lk
  rw [decide_eq_true rfl]
  x_go
  lk
  refine ⟨G1 (by z_go), fun t htt => ?_⟩
  have s2 := A7.new htt (.lst [.str ("read" : Str), .ref u])
  exact q _ t _ (A7.tr s1 s2) ht (M8.mpr ⟨t, _, rfl, SqL.of A8, E6 (N2.mpr rfl) (E6 (L7.mpr ⟨u, us, rfl, SqT.of (s2 _ _ hu), Dvs.same s2 _ _ hd⟩) G7)⟩)
 refine ⟨z, ls, rfl, h0, hz, hL, ez, hS, fun h1 t H1 s1 h2 => fin s1 h2 G7 (.none h1), fun rs h1 e m t us H1 s1 h2 h3 => fin s1 h2 h3 (.read h1 e m), fun rs m hn e f dx H1 s1 h1 => ⟨k_NoBook, by simp, rfl, fun a ha => ?_⟩, fun m hn f dx H1 s1 h1 => ⟨k_NoText, by simp, rfl, fun a ha => ?_⟩⟩
 ·have e1 : (upd H1 a (qn4 a k_NoBook (some dx))) a = some (qn4 a k_NoBook (some dx)) := A8
  have e2 : (upd H1 a (qn4 a k_NoBook (some dx))) dx = some (.xd [("row", .int m)]) := by rw [C4 (fun z => by rw [z, ha] at h1; cases h1)]; exact h1
  have s2 : A7 H (upd H1 a (qn4 a k_NoBook (some dx))) := A7.tr s1 (A7.new ha _)
  generalize upd H1 a (qn4 a k_NoBook (some dx)) = H2 at *
  lk
  have en : ¬ (V.ref a = V.non) := fun z => by cases z
  rw [decide_eq_false en]
  k_go
  lk
  refine wa5 e1 er.e_NoBook er.l_NoText er.s_NoBook_NoText ?_
  lk
  refine wa5 e1 er.e_NoBook er.l_NoBook er.s_NoBook_NoBook ?_
  refine wq8 rfl ?_
  refine ⟨_, rfl, ?_⟩
  k_go
  lk
  refine ⟨G1 (by z_go), fun b hb => ?_⟩
  have s3 := A7.tr s2 (A7.new hb (.lst [.str ("book" : Str), .str ("text" : Str)]))
  have e3 : (upd H2 b (.lst [.str ("book" : Str), .str ("text" : Str)])) b = some (.lst [.str ("book" : Str), .str ("text" : Str)]) := A8
  have e1 := A7.new hb (.lst [.str ("book" : Str), .str ("text" : Str)]) _ _ e1
  have e2 := A7.new hb (.lst [.str ("book" : Str), .str ("text" : Str)]) _ _ e2
  generalize upd H2 b (.lst [.str ("book" : Str), .str ("text" : Str)]) = H3 at *
  lk
  refine wa5 e1 er.e_NoBook er.l_NoText er.s_NoBook_NoText ?_
  refine .inr ⟨_, rfl, ?_⟩
  refine M5 (SqL.of e3) (v := .str ("book" : Str)) (C5 (j := 0) rfl) ?_
  lk
  refine yi5 ?_
  lk
  refine ⟨a, k_NoBook, dx, _, _, rfl, e1, e2, ei_NoBook, rfl, ?_⟩
  lk
  refine ⟨G1 (by z_go), fun t ht => ?_⟩
  exact q _ t _ (A7.tr s3 (A7.new ht _)) (.book hn e f) (M8.mpr ⟨t, _, rfl, SqL.of A8, E6 (N2.mpr rfl) (E6 (qg5.mpr rfl) G7)⟩)
 ·have e1 : (upd H1 a (qn4 a k_NoText (some dx))) a = some (qn4 a k_NoText (some dx)) := A8
  have e2 : (upd H1 a (qn4 a k_NoText (some dx))) dx = some (.xd [("row", .int m)]) := by rw [C4 (fun z => by rw [z, ha] at h1; cases h1)]; exact h1
  have s2 : A7 H (upd H1 a (qn4 a k_NoText (some dx))) := A7.tr s1 (A7.new ha _)
  generalize upd H1 a (qn4 a k_NoText (some dx)) = H2 at *
  lk
  have en : ¬ (V.ref a = V.non) := fun z => by cases z
  rw [decide_eq_false en]
  k_go
  lk
  refine wa5 e1 er.e_NoText er.l_NoText er.s_NoText_NoText ?_
  lk
  refine wa5 e1 er.e_NoText er.l_NoBook er.s_NoText_NoBook ?_
  refine wq8 rfl ?_
  refine ⟨_, rfl, ?_⟩
  k_go
  lk
  refine ⟨G1 (by z_go), fun b hb => ?_⟩
  have s3 := A7.tr s2 (A7.new hb (.lst [.str ("book" : Str), .str ("text" : Str)]))
  have e3 : (upd H2 b (.lst [.str ("book" : Str), .str ("text" : Str)])) b = some (.lst [.str ("book" : Str), .str ("text" : Str)]) := A8
  have e1 := A7.new hb (.lst [.str ("book" : Str), .str ("text" : Str)]) _ _ e1
  have e2 := A7.new hb (.lst [.str ("book" : Str), .str ("text" : Str)]) _ _ e2
  generalize upd H2 b (.lst [.str ("book" : Str), .str ("text" : Str)]) = H3 at *
  lk
  refine wa5 e1 er.e_NoText er.l_NoText er.s_NoText_NoText ?_
  refine .inr ⟨_, rfl, ?_⟩
  refine M5 (SqL.of e3) (v := .str ("text" : Str)) (C5 (j := 1) rfl) ?_
  lk
  refine yi5 ?_
  lk
  refine ⟨a, k_NoText, dx, _, _, rfl, e1, e2, ei_NoText, rfl, ?_⟩
  lk
  refine ⟨G1 (by z_go), fun t ht => ?_⟩
  exact q _ t _ (A7.tr s3 (A7.new ht _)) (.text hn f) (M8.mpr ⟨t, _, rfl, SqL.of A8, E6 (N2.mpr rfl) (E6 (qg5.mpr rfl) G7)⟩)
structure qd7 (z : Nat) (r : Row) : Prop where
 n : nmX r.name = true
 s : r.sort ∈ R6
 f : r.sort = ("frame" : Str) -> nmX r.host = true
 e : r.sort ≠ ("frame" : Str) -> r.host = ("" : Str)
 a : ∀ x ∈ r.shuts, nmX x = true
 b : ∀ x ∈ r.bars, nmX x = true
 la : r.shuts.length <= z
 lb : r.bars.length <= z
theorem qd7.g (h : qd7 20 r) : qq3 (O0 r) :=
 ⟨h.n, h.s, h.f, h.e, fun x hx => h.a x ((O4 _).mem_iff.mp hx), fun x hx => h.b x ((O4 _).mem_iff.mp hx), Q9 _, Q9 _, by show (O3 r.shuts).length <= 20; rw [(O4 _).length_eq]; exact h.la, by show (O3 r.bars).length <= 20; rw [(O4 _).length_eq]; exact h.lb⟩
theorem qd7.sml (h : qd7 n r) (l : n <= 100) : Sml r := by
 have nl : ∀ {z : Str}, nmX z = true -> z.length <= 100 := fun h => by have := yk7 h; omega
 refine ⟨nl h.n, ?_, ⟨Nat.le_trans h.la l, fun x hx => nl (h.a x hx)⟩, ⟨Nat.le_trans h.lb l, fun x hx => nl (h.b x hx)⟩⟩
 by_cases hf : r.sort = ("frame" : Str)
 ·exact nl (h.f hf)
 ·rw [h.e hf]; decide +kernel
theorem qq3.sml (h : qq3 r) : Sml r := qd7.sml (n := 20) ⟨h.n, h.s, h.f, h.e, h.a, h.b, h.la, h.lb⟩ (by decide)
theorem xq5 : ∀ {xs : List Str}, wf6 xs = true -> xs.Nodup := by
 intro xs h
 have hp : xs.Pairwise fun a b => a.cps.toList < b.cps.toList := by
  induction xs with
  | nil => exact List.Pairwise.nil
  | cons a r ih =>
    cases r with
    | nil => simp
    | cons b r =>
      have h' : ltS a b = true /\ wf6 (b :: r) = true := by
       unfold wf6 at h ⊢
       simpa using h
      have hr := ih h'.2
      have hab : a.cps.toList < b.cps.toList := of_decide_eq_true h'.1
      rw [List.pairwise_cons]
      refine ⟨fun c hc => ?_, hr⟩
      rcases List.mem_cons.mp hc with rfl | hc
      ·exact hab
      ·exact List.lt_trans hab ((List.pairwise_cons.mp hr).1 c hc)
 exact hp.imp fun hlt e => by rw [e] at hlt; exact List.lt_irrefl _ hlt
theorem xv2 (xs : List Str) : wf6 (O3 xs) = true ↔ xs.Nodup :=
 ⟨fun h => (O4 xs).nodup_iff.mp (xq5 h), fun h => wn4 (Q9 xs) ((O4 xs).nodup_iff.mpr h)⟩
theorem wc3 : ∀ (l : List Row) (n : Option Str), O2 (l.map O0) n = (O2 l n).map O0 := by
 intro l n
 unfold O2
 induction l with
 | nil => rfl
 | cons r l ih =>
   rw [List.map_cons, List.find?_cons, List.find?_cons]
   have e : (O0 r).name = r.name := rfl
   rw [e]
   by_cases h : some r.name = n
   ·rw [decide_eq_true h]; rfl
   ·rw [decide_eq_false h]; exact ih
theorem ww6 (l : List Row) : B6 (l.map O0) = (B6 l).map O0 := by
 unfold B6
 have : ∀ (l acc : List Row), (l.map O0).foldl (fun l r => if O2 l (some r.name) = none then l ++ [r] else l) (acc.map O0) = (l.foldl (fun l r => if O2 l (some r.name) = none then l ++ [r] else l) acc).map O0 := by
  intro l
  induction l with
  | nil => intro acc; rfl
  | cons r l ih =>
    intro acc
    rw [List.map_cons, List.foldl_cons, List.foldl_cons, <- ih]
    congr 1
    rw [wc3]
    have e : (O0 r).name = r.name := rfl
    rw [e]
    cases h : O2 acc (some r.name) with
    | none => rw [Option.map_none, if_pos rfl, if_pos rfl, List.map_append]; rfl
    | some x => rw [Option.map_some, if_neg (by simp), if_neg (by simp)]
 exact this l []
theorem qd8 (l : List Row) (n : Option Str) : E8 (l.map O0) n = E8 l n := by unfold E8; rw [wc3, Option.map_map]; rfl
theorem wp3 (l : List Row) (n : Option Str) : E7 (l.map O0) n = E7 l n := by unfold E7; rw [wc3]; cases O2 l n <;> rfl
theorem xq6 (l : List Row) : G0 (l.map O0) = G0 l := by
 unfold G0
 rw [List.filter_map, List.map_map]; rfl
theorem xj8 (l : List Row) (n : Option Str) : frameOf (l.map O0) n = frameOf l n := by
 unfold frameOf
 rw [List.find?_map, Option.map_map]; rfl
theorem xd4 (l : List Row) : ∀ (k : Nat) (n : Option Str), itO (l.map O0) k n = itO l k n
 | 0, n => rfl
 | k + 1, n => by
   show itO (l.map O0) k (E7 (l.map O0) n) = itO l k (E7 l n)
   rw [wp3, xd4 l k]
theorem wd7 : ∀ (l : List Row), ((B6 l).map Row.name).Nodup /\ (∀ x, x ∈ (B6 l).map Row.name ↔ x ∈ l.map Row.name) /\ ∀ r ∈ B6 l, r ∈ l := by
 intro l
 induction h : l.length generalizing l with
 | zero => rw [List.eq_nil_of_length_eq_zero h]; exact ⟨List.nodup_nil, fun x => Iff.rfl, fun r hr => hr⟩
 | succ n ih =>
   rcases List.eq_nil_or_concat l with rfl | ⟨l', r, rfl⟩
   ·cases h
   ·rw [List.concat_eq_append] at *
    obtain ⟨i1, i2, i3⟩ := ih l' (by simpa using h)
    rw [N3]
    by_cases hr : O2 (B6 l') (some r.name) = none
    ·rw [if_pos hr]
     have hn := N7.mp hr
     refine ⟨?_, fun x => ?_, fun x hx => ?_⟩
     ·rw [List.map_append, List.nodup_append]
      refine ⟨i1, by simp, fun a ha b hb e => hn ?_⟩
      have : b = r.name := by simpa using hb
      rw [<- this, <- e]; exact ha
     ·rw [List.map_append, List.map_append, List.mem_append, List.mem_append, i2 x]
     ·rcases List.mem_append.mp hx with hx | hx
      ·exact List.mem_append.mpr (.inl (i3 x hx))
      ·exact List.mem_append.mpr (.inr hx)
    ·rw [if_neg hr]
     have hn : r.name ∈ l'.map Row.name := (i2 _).mp (Classical.byContradiction fun z => hr (N7.mpr z))
     refine ⟨i1, fun x => ?_, fun x hx => List.mem_append.mpr (.inl (i3 x hx))⟩
     rw [i2 x, List.map_append, List.mem_append]
     refine ⟨Or.inl, fun z => z.elim id fun z => ?_⟩
     have : x = r.name := by simpa using z
     rw [this]; exact hn
theorem yb5 {m : List Row} (h : (l.map Row.name).Nodup) : ∃ m', B6 (l ++ m) = l ++ m' /\ ∀ r ∈ m', r ∈ m := by
 induction e : m.length generalizing m with
 | zero =>
   rw [List.eq_nil_of_length_eq_zero e]
   refine ⟨[], ?_, fun r hr => (by cases hr)⟩
   rw [List.append_nil, xa9 h]
 | succ n ih =>
   rcases List.eq_nil_or_concat m with rfl | ⟨m1, r, rfl⟩
   ·cases e
   ·rw [List.concat_eq_append] at *
    obtain ⟨m', h1, h2⟩ := ih (m := m1) (by simpa using e)
    rw [<- List.append_assoc, N3, h1]
    split
    ·exact ⟨m' ++ [r], by rw [List.append_assoc], fun x hx => by
      rcases List.mem_append.mp hx with hx | hx
      ·exact List.mem_append.mpr (.inl (h2 x hx))
      ·exact List.mem_append.mpr (.inr hx)⟩
    ·exact ⟨m', rfl, fun x hx => List.mem_append.mpr (.inl (h2 x hx))⟩
def chn (rs : List Row) : Nat -> Str -> List Str
 | 0, x => [x]
 | n + 1, x => match E7 rs (some x) with
   | none => [x]
   | some y => x :: chn rs n y
theorem qn7 : ∀ (a b : Nat) (x : Option Str), itO rs (a + b) x = itO rs b (itO rs a x)
 | 0, b, x => by rw [Nat.zero_add]; rfl
 | a + 1, b, x => by
   have : a + 1 + b = (a + b) + 1 := by omega
   rw [this]
   exact qn7 a b (E7 rs x)
theorem xv3 : ∀ (n : Nat) (x z : Str), z ∈ chn rs n x ↔ ∃ j, j <= n /\ itO rs j (some x) = some z
 | 0, x, z => by
   constructor
   ·intro h
    have : z = x := by simpa [chn] using h
    exact ⟨0, Nat.le_refl _, by rw [this]; rfl⟩
   ·rintro ⟨j, hj, e⟩
    obtain rfl : j = 0 := by omega
    have : some x = some z := e
    cases this; simp [chn]
 | n + 1, x, z => by
   cases hh : E7 rs (some x) with
   | none =>
     have e1 : chn rs (n + 1) x = [x] := by rw [chn, hh]
     rw [e1]
     constructor
     ·intro h
      have : z = x := by simpa using h
      exact ⟨0, Nat.zero_le _, by rw [this]; rfl⟩
     ·rintro ⟨j, hj, e⟩
      cases j with
      | zero => have : some x = some z := e; cases this; simp
      | succ j =>
        have e : itO rs j (E7 rs (some x)) = some z := e
        rw [hh, qv9] at e; cases e
   | some y =>
     have e1 : chn rs (n + 1) x = x :: chn rs n y := by rw [chn, hh]
     rw [e1, List.mem_cons, xv3 n y z]
     constructor
     ·rintro (h | ⟨j, hj, e⟩)
      ·exact ⟨0, Nat.zero_le _, by rw [h]; rfl⟩
      ·refine ⟨j + 1, by omega, ?_⟩
       show itO rs j (E7 rs (some x)) = some z
       rw [hh]; exact e
     ·rintro ⟨j, hj, e⟩
      cases j with
      | zero => have : some x = some z := e; cases this; exact .inl rfl
      | succ j =>
        have e : itO rs j (E7 rs (some x)) = some z := e
        rw [hh] at e
        exact .inr ⟨j, by omega, e⟩
theorem ym0 (n : Nat) (x z : Str) : z ∈ (chn rs (n + 1) x).tail ↔ ∃ j, j < n + 1 /\ itO rs j (E7 rs (some x)) = some z := by
 cases hh : E7 rs (some x) with
 | none =>
   have e1 : chn rs (n + 1) x = [x] := by rw [chn, hh]
   rw [e1]
   refine ⟨fun h => by simp at h, ?_⟩
   rintro ⟨j, _, e⟩
   rw [qv9] at e; cases e
 | some y =>
   have e1 : chn rs (n + 1) x = x :: chn rs n y := by rw [chn, hh]
   rw [e1, List.tail_cons, xv3 n y z]
   exact ⟨fun ⟨j, hj, e⟩ => ⟨j, by omega, e⟩, fun ⟨j, hj, e⟩ => ⟨j, by omega, e⟩⟩
theorem yb6 (n : Str) : ∀ (j : Nat), itO rs j (E7 rs (some n)) = some n -> ∃ i, i < rs.length /\ itO rs i (E7 rs (some n)) = some n := by
 intro j
 induction j using Nat.strongRecOn with
 | ind j ih =>
   intro h
   by_cases hj : j < rs.length
   ·exact ⟨j, hj, h⟩
   have h : itO rs (j + 1) (some n) = some n := h
   have hs : ∀ i, i <= j + 1 -> ∃ x, itO rs i (some n) = some x := by
    intro i hi
    cases e : itO rs i (some n) with
    | some x => exact ⟨x, rfl⟩
    | none =>
      have : j + 1 = i + (j + 1 - i) := by omega
      rw [this, qn7, e, qv9] at h; cases h
   let x : Nat -> Str := fun i => (itO rs i (some n)).getD ("" : Str)
   have hx : ∀ i, i <= j + 1 -> itO rs i (some n) = some (x i) := by
    intro i hi
    obtain ⟨y, hy⟩ := hs i hi
    show _ = some ((itO rs i (some n)).getD _)
    rw [hy]; rfl
   by_cases hinj : ∀ a, a <= j -> ∀ b, b <= j -> x a = x b -> a = b
   ·exfalso
    have hnd : ((List.range (j + 1)).map x).Nodup := xu4 List.nodup_range fun a ha b hb e => hinj a (by have := List.mem_range.mp ha; omega) b (by have := List.mem_range.mp hb; omega) e
    have := xu3 (l := (List.range (j + 1)).map x) (m := rs.map Row.name) hnd (fun y hy => by
     obtain ⟨i, hi, rfl⟩ := List.mem_map.mp hy
     rw [List.mem_range] at hi
     have h1 := hx i (by omega)
     have h2 := hx (i + 1) (by omega)
     rw [qn7, h1] at h2
     obtain ⟨r, hr, e, _⟩ := xi7 (show E7 rs (some (x i)) = some (x (i + 1)) from h2)
     exact List.mem_map.mpr ⟨r, hr, e⟩)
    rw [List.length_map, List.length_range, List.length_map] at this
    omega
   ·have : ∃ a b, a < b /\ b <= j /\ x a = x b := by
     apply Classical.byContradiction
     intro hn
     apply hinj
     intro a ha b hb e
     rcases Nat.lt_trichotomy a b with h | h | h
     ·exact absurd ⟨a, b, h, hb, e⟩ hn
     ·exact h
     ·exact absurd ⟨b, a, h, ha, e.symm⟩ hn
    obtain ⟨a, b, hab, hb, e⟩ := this
    have h1 : itO rs (a + (j + 1 - b)) (some n) = some n := by
     rw [qn7, hx a (by omega), e, <- hx b (by omega), <- qn7]
     have : b + (j + 1 - b) = j + 1 := by omega
     rw [this]; exact h
    have e2 : a + (j + 1 - b) = (j - (b - a)) + 1 := by omega
    rw [e2] at h1
    exact ih (j - (b - a)) (by omega) h1
structure OkP (own rs : List Row) (k : Nat) (r : Row) : Prop where
 n : r.name ∉ (rs.take k).map Row.name
 a : r.shuts.Nodup
 b : r.bars.Nodup
 c : ∀ x ∈ r.shuts ++ r.bars, inO (E8 own (some x)) qa2 = true
 d : ∀ x ∈ r.shuts, x ∉ G0 own
 e : ¬ (r.shuts ≠ [] /\ r.name ∈ G0 own)
 f : r.sort = ("frame" : Str) -> inO (E8 own (some r.host)) qa9 = true /\ r.host ∉ (rs.take k).map Row.host /\ r.name ∉ (chn own 19 r.name).tail
theorem ym1 {k : Nat} (hk : k <= rs.length) (ok : ∀ j, j < k -> ws5 rs j) : ((rs.take k).map Row.name).Nodup := by
 have : ∀ i, i <= k -> ((rs.take i).map Row.name).Nodup := by
  intro i
  induction i with
  | zero => intro _; exact List.nodup_nil
  | succ i ih =>
    intro hi
    have hr : rs[i]? = some rs[i] := List.getElem?_eq_getElem (by omega)
    have := (ok i (by omega) _ hr).1
    rw [N7] at this
    rw [List.take_add_one, hr, List.map_append, List.nodup_append]
    refine ⟨ih (by omega), by simp, fun a ha b hb e => this ?_⟩
    have hb : b = rs[i].name := by simpa using hb
    rw [<- hb, <- e]; exact ha
 exact this k (Nat.le_refl _)
theorem xj9 (hU : ∀ r ∈ rs, qd7 20 r) (h12 : rs.length <= 12) {k : Nat} (hk : rs[k]? = some r) (ok : ∀ j, j < k -> ws5 (rs.map O0) j) : ws5 (rs.map O0) k ↔ OkP (B6 rs) rs k r := by
 have hlt : k < rs.length := (List.getElem?_eq_some_iff.mp hk).1
 have hr : r ∈ rs := List.mem_of_getElem? hk
 have nm : ∀ l : List Row, (l.map O0).map Row.name = l.map Row.name := fun l => by rw [List.map_map]; rfl
 have hnd : ((rs.take k).map Row.name).Nodup := by
  have := ym1 (rs := rs.map O0) (k := k) (by rw [List.length_map]; omega) ok
  rwa [<- List.map_take, nm] at this
 have h0 : ws5 (rs.map O0) k ↔ r.name ∉ (rs.take k).map Row.name /\ wr7 ((B6 rs).map O0) (O0 r) = true := by
  have e : (rs.map O0)[k]? = some (O0 r) := by rw [List.getElem?_map, hk]; rfl
  unfold ws5
  rw [e]
  constructor
  ·intro h
   have := h _ rfl
   rw [N7, <- List.map_take, nm, ww6] at this
   exact this
  ·rintro h r' er
   cases er
   rw [N7, <- List.map_take, nm, ww6]
   exact h
 rw [h0]
 have hle : (B6 rs).length <= 12 := Nat.le_trans (T7 rs) h12
 generalize hown : B6 rs = own at *
 have hhost : r.name ∉ (rs.take k).map Row.name -> r.sort = ("frame" : Str) -> (frameOf own (some r.host) = some r.name ↔ r.host ∉ (rs.take k).map Row.host) := by
  intro hn hf
  have et : rs.take (k + 1) = rs.take k ++ [r] := by rw [List.take_add_one, hk]; rfl
  obtain ⟨m', hm, _⟩ := yb5 (l := rs.take (k + 1)) (m := rs.drop (k + 1)) (by
   rw [et, List.map_append, List.nodup_append]
   refine ⟨hnd, by simp, fun a ha b hb e => hn ?_⟩
   have hb : b = r.name := by simpa using hb
   rw [<- hb, <- e]; exact ha)
  rw [List.take_append_drop, hown, et] at hm
  have hne : r.host ≠ ("" : Str) := fun z => by
   have := (hU r hr).f hf
   rw [z] at this; revert this; decide +kernel
  rw [hm]
  unfold frameOf
  rw [List.find?_append, List.find?_append]
  cases e : (rs.take k).find? (fun q => decide (q.sort = ("frame" : Str)) && decide (some q.host = some r.host)) with
  | some q =>
    rw [Option.some_or, Option.some_or, Option.map_some]
    have h1 := List.mem_of_find?_eq_some e
    have h2 := List.find?_some e
    have h2 : q.sort = ("frame" : Str) /\ q.host = r.host := by simpa using h2
    constructor
    ·intro z
     have := Option.some.inj z
     exact absurd (this ▸ List.mem_map_of_mem h1) hn
    ·intro z
     exact absurd (h2.2 ▸ List.mem_map_of_mem h1) z
  | none =>
    rw [Option.none_or]
    have : List.find? (fun q => decide (q.sort = ("frame" : Str)) && decide (some q.host = some r.host)) [r] = some r := by
     rw [List.find?_cons, decide_eq_true hf, decide_eq_true rfl]; rfl
    rw [this, Option.some_or, Option.map_some]
    refine ⟨fun _ hm => ?_, fun _ => rfl⟩
    obtain ⟨q, hq, eq⟩ := List.mem_map.mp hm
    have hqf : q.sort = ("frame" : Str) := Classical.byContradiction fun z => hne (by rw [<- eq]; exact (hU q (List.mem_of_mem_take hq)).e z)
    have := List.find?_eq_none.mp e q hq
    simp [hqf, eq] at this
 have hback : (qa8 own r.name own.length (E7 own (some r.name)) = false) ↔ r.name ∉ (chn own 19 r.name).tail := by
  rw [Bool.eq_false_iff, ne_eq, qw0, ym0]
  constructor
  ·rintro h ⟨j, _, e⟩
   exact h (yb6 _ j e)
  ·rintro h ⟨j, hj, e⟩
   exact h ⟨j, by omega, e⟩
 have eb : ∀ (n : Str) (m : Nat) (h : Option Str), qa8 (own.map O0) n m h = qa8 own n m h := by
  intro n m h
  apply Bool.eq_iff_iff.mpr
  rw [qw0, qw0]
  constructor
  ·rintro ⟨j, hj, e⟩; rw [xd4] at e; exact ⟨j, hj, e⟩
  ·rintro ⟨j, hj, e⟩; refine ⟨j, hj, ?_⟩; rw [xd4]; exact e
 have es : (O0 r).shuts = [] ↔ r.shuts = [] := by
  show O3 r.shuts = [] ↔ _
  rw [<- List.length_eq_zero_iff, <- List.length_eq_zero_iff, (O4 _).length_eq]
 have ms : ∀ x, x ∈ (O0 r).shuts ↔ x ∈ r.shuts := fun x => (O4 _).mem_iff
 have mb : ∀ x, x ∈ (O0 r).bars ↔ x ∈ r.bars := fun x => (O4 _).mem_iff
 rw [ys4, yk3, yk2, xu5, xu5, xq6]
 have er1 : wf6 (O0 r).shuts = true ↔ r.shuts.Nodup := xv2 _
 have er2 : wf6 (O0 r).bars = true ↔ r.bars.Nodup := xv2 _
 rw [er1, er2]
 have e1 : (O0 r).sort = r.sort := rfl
 have e2 : (O0 r).host = r.host := rfl
 have e3 : (O0 r).name = r.name := rfl
 rw [e1, e2, e3, List.length_map, eb, wp3, qd8, xj8]
 constructor
 ·rintro ⟨hn, hh, ⟨s1, s2, s3, s4⟩, b1, b2⟩
  refine ⟨hn, s3, b1, fun x hx => ?_, fun x hx => s2 x ((ms x).mpr hx), fun z => s1 ⟨fun q => z.1 (es.mp q), z.2⟩, fun hf => ?_⟩
  ·rcases List.mem_append.mp hx with hx | hx
   ·have := s4 x ((ms x).mpr hx); rwa [qd8] at this
   ·have := b2 x ((mb x).mpr hx); rwa [qd8] at this
  ·obtain ⟨h1, h2, h3⟩ := hh hf
   exact ⟨h1, (hhost hn hf).mp h3, hback.mp h2⟩
 ·rintro ⟨hn, a, b, c, d, e, f⟩
  refine ⟨hn, fun hf => ?_, ⟨fun z => e ⟨fun q => z.1 (es.mpr q), z.2⟩, fun x hx => d x ((ms x).mp hx), a, fun x hx => ?_⟩, b, fun x hx => ?_⟩
  ·obtain ⟨h1, h2, h3⟩ := f hf
   exact ⟨h1, hback.mpr h3, (hhost hn hf).mpr h2⟩
  ·rw [qd8]; exact c x (List.mem_append.mpr (.inl ((ms x).mp hx)))
  ·rw [qd8]; exact c x (List.mem_append.mpr (.inr ((mb x).mp hx)))
def T2 (K : Fg) : Sp := fun vs H Q _ => ∃ (a : Addr) (k : Nat) (us : List V) (rs : List Row), vs = [.ref a, .int k] /\ SqL K H a us /\ Dvs K H (rs.map Row.da) us /\ k < rs.length /\ rs.length <= 100 /\ (∀ r ∈ rs, qd7 20 r) /\ ∀ (c : Bool) H' r, A7 H H' -> rs[k]? = some r -> (c = true ↔ ¬ OkP (B6 rs) rs k r) -> Q (.bl c) H'
structure AI (fr : Prop) (k : Nat) (s : As) : Prop where
 a : ∀ x ∈ s.a, nmX x = true
 b : ∀ x ∈ s.b, nmX x = true
 la : s.a.length <= k
 lb : s.b.length <= k
 h : (s.st = 1 /\ fr /\ s.h = ("" : Str)) \/ (s.st ≠ 1 /\ (fr -> nmX s.h = true) /\ (¬ fr -> s.h = ("" : Str)))
theorem xk0 (h : ∀ x ∈ xs, nmX x = true) (hw : nmX w = true) : ∀ x ∈ xs ++ [w], nmX x = true := fun x hx => (List.mem_append.mp hx).elim (h x) fun z => by rw [List.mem_singleton.mp z]; exact hw
theorem AI.step {fr : Prop} {k : Nat} {s s' : As} (A : AI fr k s) (e : stp s w = some s') : AI fr (k + 1) s' := by
 unfold stp at e
 split at e
 ·rename_i h
  cases e
  refine ⟨A.a, A.b, Nat.le_succ_of_le A.la, Nat.le_succ_of_le A.lb, .inr ⟨by simp, fun _ => h.2, fun z => ?_⟩⟩
  rcases A.h with q | q
  ·exact absurd q.2.1 z
  ·exact absurd h.1 q.1
 have nq : ∀ {n : Nat}, s.st = n -> n ≠ 1 -> (s.st ≠ 1 /\ (fr -> nmX s.h = true) /\ (¬ fr -> s.h = ("" : Str))) := fun h1 h2 => by
  rcases A.h with q | q
  ·exact absurd (h1.symm.trans q.1) h2
  ·exact q
 split at e
 ·rename_i h
  cases e
  exact ⟨A.a, A.b, Nat.le_succ_of_le A.la, Nat.le_succ_of_le A.lb, .inr ⟨by simp, (nq h.1 (by decide)).2⟩⟩
 split at e
 ·rename_i h
  cases e
  exact ⟨A.a, A.b, Nat.le_succ_of_le A.la, Nat.le_succ_of_le A.lb, .inr ⟨by simp, (h.1.elim (fun z => nq z (by decide)) fun z => nq z (by decide)).2⟩⟩
 split at e
 ·rename_i h
  cases e
  exact ⟨xk0 A.a h.2, A.b, by rw [List.length_append]; exact Nat.succ_le_succ A.la, Nat.le_succ_of_le A.lb, .inr ⟨by simp, (h.1.elim (fun z => nq z (by decide)) fun z => nq z (by decide)).2⟩⟩
 split at e
 ·rename_i h
  cases e
  exact ⟨A.a, xk0 A.b h.2, Nat.le_succ_of_le A.la, by rw [List.length_append]; exact Nat.succ_le_succ A.lb, .inr ⟨by simp, (h.1.elim (fun z => nq z (by decide)) fun z => nq z (by decide)).2⟩⟩
 ·cases e
theorem AI.run {fr : Prop} : ∀ {ws : List Str} {k : Nat} {s s' : As}, AI fr k s -> qh7 s ws = some s' -> AI fr (k + ws.length) s'
 | [], k, s, s', A, e => by cases e; exact A
 | w :: ws, k, s, s', A, e => by
   have e : (stp s w).bind (fun s' => qh7 s' ws) = some s' := e
   cases h : stp s w with
   | none => rw [h] at e; cases e
   | some s2 =>
     rw [h] at e
     have := AI.run (A.step h) e
     rw [List.length_cons]
     exact (by omega : k + 1 + ws.length = k + (ws.length + 1)) ▸ this
theorem xd5 (e : lrw ws = some r) (hz : ws.length <= 20) : qd7 20 r := by
 unfold lrw at e
 split at e
 ·cases e
 split at e
 ·cases e
 split at e
 ·cases e
 rename_i h2 h0 h1
 cases hr : qh7 ⟨if gd ws 1 = ("frame" : Str) then 1 else 0, ("" : Str), [], []⟩ (ws.drop 2) with
 | none => rw [hr] at e; cases e
 | some s =>
   rw [hr, Option.bind_some] at e
   unfold qq4 at e
   split at e
   ·cases e
   rename_i hc
   injection e with e
   have A0 : AI (gd ws 1 = ("frame" : Str)) 0 (⟨if gd ws 1 = ("frame" : Str) then 1 else 0, ("" : Str), [], []⟩ : As) := by
    refine ⟨fun x hx => (nomatch hx), fun x hx => (nomatch hx), Nat.le_refl _, Nat.le_refl _, ?_⟩
    by_cases hf : gd ws 1 = ("frame" : Str)
    ·exact .inl ⟨if_pos hf, hf, rfl⟩
    ·exact .inr ⟨by show (if _ then 1 else 0) ≠ 1; rw [if_neg hf]; decide, fun z => absurd z hf, fun _ => rfl⟩
   have A := A0.run hr
   rw [List.length_drop] at A
   have hh := A.h.resolve_left fun z => hc (.inl z.1)
   subst e
   exact ⟨by simpa using h0, Classical.byContradiction h1, hh.2.1, hh.2.2, A.a, A.b, by have := A.la; show s.a.length <= 20; omega, by have := A.lb; show s.b.length <= 20; omega⟩
abbrev xd6 (K : Fg) : TS :=
 (I0 (O9 (A9 (tC (.str ("text" : Str))) (A9 (tBM K "list" (xt9 K) (B1 1) (A9 (tC .non) B7)) B7))))
abbrev qc4 (K : Fg) : TS :=
 (I0 (O9 (A9 (tC (.str ("read" : Str))) (A9 (tCB (Y3 K) (A9 (T3 [none] (qg7 K (B1 1)) (C3 0) tTT (tOp (xt0 K) (tSl (wz2 K) (B1 0) P8 (qa6 (tC (.int 3)))) (xm5 (A9 (tCB (Y3 K) (A9 (tCB (qv1 K) (A9 (tOp (G5 K) (B1 0) (tC (.int 3))) B7)) B7)) (A9 (tCB (Y3 K) (A9 (tCB (qv1 K) (A9 (tOp (G5 K) (B1 0) (tC (.int 4))) B7)) B7)) B7))))) B7)) B7))))
abbrev qx6 (K : Fg) : TS :=
 (D8 (M9 (D5 (tOp (qm7 K) (B1 2) (O9 B7)))
 (I0 (O9 (A9 (tC (.str ("book" : Str))) (A9 (tOp (G5 K) (B1 2) (tC (.int 0))) B7)))) G8)
 (qc4 K))
abbrev qc5 (K : Fg) : TS :=
 (D8 (J0 (T3 [some 1, none] (qq5 (A9 (tCB (R8 K) (A9 (B1 1) B7)) B7)) (C3 1) (tB (D9 (T2 K) [] E0 (A9 (B1 0) (A9 (B1 1) B7)))) (B1 1)) (C3 2))
 (qx6 K))
inductive Due (wss : List (List Str)) : PyData -> Prop
 | text {m : Nat} (lt : m < wss.length) (bad : ∀ ws, wss[m]? = some ws -> lrw ws = none) (ok : ∀ j ws, j < m -> wss[j]? = some ws -> lrw ws ≠ none) : Due wss (.list [.str ("text" : Str), .int m])
 | book {rs : List Row} {m : Nat} (e : wss.map lrw = rs.map some) (lt : m < rs.length) (bad : ∀ r, rs[m]? = some r -> ¬ OkP (B6 rs) rs m r) (ok : ∀ j r, j < m -> rs[j]? = some r -> OkP (B6 rs) rs j r) : Due wss (.list [.str ("book" : Str), .int m])
 | read {rs : List Row} (e : wss.map lrw = rs.map some) (ok : ∀ j r, rs[j]? = some r -> OkP (B6 rs) rs j r) : Due wss (.list [.str ("read" : Str), .tuple ((rs.map O0).map Row.da)])
def OD (K : Fg) (H : Hp) (o : Option Row) (y : V) : Prop := match o with
 | none => y = .non
 | some r => Dv K H r.da y
theorem OD.same {o : Option Row} {y : V} (s : A7 H H') (h : OD K H o y) : OD K H' o y := by
 cases o with
 | none => exact h
 | some r => exact Dv.same s _ _ h
def ODs (K : Fg) (H : Hp) (wss : List (List Str)) (ys : List V) : Prop := ys.length = wss.length /\ ∀ (j : Nat) (ws : List Str) (y : V), wss[j]? = some ws -> ys[j]? = some y -> OD K H (lrw ws) y
variable {wss : List (List Str)}
theorem ODs.same (s : A7 H H') (h : ODs K H wss ys) : ODs K H' wss ys := ⟨h.1, fun j ws y e1 e2 => (h.2 j ws y e1 e2).same s⟩
theorem ODs.snoc {y : V} (h : ODs K H wss ys) (o : OD K H (lrw ws) y) : ODs K H (wss ++ [ws]) (ys ++ [y]) := by
 refine ⟨by rw [List.length_append, List.length_append, h.1]; rfl, fun j ws' y' e1 e2 => ?_⟩
 rcases Nat.lt_or_ge j wss.length with hj | hj
 ·rw [List.getElem?_append_left hj] at e1
  rw [List.getElem?_append_left (by rw [h.1]; exact hj)] at e2
  exact h.2 j ws' y' e1 e2
 ·rw [List.getElem?_append_right hj] at e1
  rw [List.getElem?_append_right (by rw [h.1]; exact hj), h.1] at e2
  have hj0 : j - wss.length = 0 := by
   have := (List.getElem?_eq_some_iff.mp e1).1
   simp at this; exact this
  rw [hj0] at e1 e2
  cases e1; cases e2
  exact o
theorem ODs.at (h : ODs K H wss ys) {y : V} (e : ys[j]? = some y) : ∃ ws, wss[j]? = some ws /\ OD K H (lrw ws) y := by
 have hj := (List.getElem?_eq_some_iff.mp e).1
 rw [h.1] at hj
 exact ⟨wss[j], List.getElem?_eq_getElem hj, h.2 j _ y (List.getElem?_eq_getElem hj) e⟩
theorem ODs.nts (h : ODs K H wss ys) : NTs K H ys := fun v hv => by
 obtain ⟨j, e⟩ := List.mem_iff_getElem?.mp hv
 obtain ⟨ws, _, o⟩ := h.at e
 cases hl : lrw ws with
 | none => rw [hl] at o; exact .inl o
 | some r =>
   rw [hl] at o
   obtain ⟨b, s, t, rfl, hb, _⟩ := qn5 (show Dv K H r.da v from o)
   exact .inr ⟨b, _, rfl, hb⟩
theorem OD.non (o : OD K H (lrw ws) .non) : lrw ws = none := by
 cases hl : lrw ws with
 | none => rfl
 | some r =>
   rw [hl] at o
   obtain ⟨b, s, t, e, _⟩ := qn5 (show Dv K H r.da .non from o)
   cases e
theorem ww7 : ∀ {ys : List V}, ys.any xh2 = true -> ∃ m : Nat, ys[m]? = some V.non /\ ∀ j : Nat, j < m -> ys[j]? ≠ some V.non
 | [], h => by cases h
 | y :: ys, h => by
   by_cases hy : y = .non
   ·exact ⟨0, by rw [hy]; rfl, fun j hj => absurd hj (Nat.not_lt_zero _)⟩
   ·rw [List.any_cons, show xh2 y = false from decide_eq_false hy, Bool.false_or] at h
    obtain ⟨m, h1, h2⟩ := ww7 h
    refine ⟨m + 1, h1, fun j hj => ?_⟩
    cases j with
    | zero => intro z; exact hy (Option.some.inj z)
    | succ j => exact h2 j (by omega)
theorem ODs.rows (h : ODs K H wss ys) (hn : ys.any xh2 = false) : ∃ rs : List Row, wss.map lrw = rs.map some /\ Dvs K H (rs.map Row.da) ys := by
 have key : ∀ (ys : List V) (wss : List (List Str)), ODs K H wss ys -> ys.any xh2 = false -> ∃ rs : List Row, wss.map lrw = rs.map some /\ Dvs K H (rs.map Row.da) ys := by
  intro ys
  induction ys with
  | nil =>
    intro wss h _
    have : wss = [] := List.length_eq_zero_iff.mp h.1.symm
    subst this
    exact ⟨[], rfl, G7⟩
  | cons y ys ih =>
    intro wss h hn
    cases wss with
    | nil => have := h.1; cases this
    | cons ws wss =>
      rw [List.any_cons, Bool.or_eq_false_iff] at hn
      have h' : ODs K H wss ys := ⟨by have := h.1; simpa using this, fun j ws' y' e1 e2 => h.2 (j + 1) ws' y' e1 e2⟩
      obtain ⟨rs, e, d⟩ := ih wss h' hn.2
      have o := h.2 0 ws y rfl rfl
      cases hl : lrw ws with
      | none => rw [hl] at o; rw [show y = .non from o] at hn; cases hn.1
      | some r =>
        rw [hl] at o
        exact ⟨r :: rs, by rw [List.map_cons, List.map_cons, hl, e], E6 o d⟩
 exact key ys wss h hn
theorem zc6 {w : Addr} {n : Str} (e : SqT K H w [.str n, .str so, .str h, .ref s, .ref t]) (hs : SqT K H s (B3 sh)) (ht : SqT K H t (B3 ba)) : Dv K H (Row.da ⟨n, so, h, sh, ba⟩) (.ref w) :=
 L7.mpr ⟨w, _, rfl, e, E6 (N2.mpr rfl) (E6 (N2.mpr rfl) (E6 (N2.mpr rfl) (E6 (L7.mpr ⟨s, _, rfl, hs, T9.mpr rfl⟩) (E6 (L7.mpr ⟨t, _, rfl, ht, T9.mpr rfl⟩) G7))))⟩
variable {o0 o2 : Option V}
theorem du1 (hp : H p = some (.lst ys)) (hd : Dvs K H (rs.map Row.da) ys) (hz : rs.length <= 12) (hU : ∀ r ∈ rs, qd7 20 r) (q : ∀ (t : Addr) H', A7 H H' -> Dv K H' (.list [.str ("read" : Str), .tuple ((rs.map O0).map Row.da)]) (.ref t) -> D.rt (.ref t) H') :
 qc4 K D [o0, some (.ref p), o2] H := by
 have lys : ys.length = rs.length := by have := hd.length; simpa using this
 unfold qc4
 lk
 refine P0 (.inl (SqL.of hp)) A7.refl' (fun i zs H' => A7 H H' /\ Dvs K H' (((rs.take i).map O0).map Row.da) zs) ⟨A7.refl', G7⟩ ?_ (fun i ys H' p => p.1) ?_ ?_
 ·rintro i zs H' hi ⟨_, d⟩
  have := d.length
  rw [List.length_map, List.length_map, List.length_take] at this
  exact G1 (by omega)
 ·rintro i x zs H' hx ⟨s2, dz⟩
  obtain ⟨d, hd1, hd2⟩ := (Dvs.same s2 _ _ hd).get' hx
  rw [List.getElem?_map] at hd1
  obtain ⟨r, hr, rfl⟩ := Option.map_eq_some_iff.mp hd1
  have G := hU r (List.mem_of_getElem? hr)
  obtain ⟨b, s, t, rfl, hb, hs, ht⟩ := qn5 hd2
  lk
  refine yg4 hb fun p1 H1 z1 e1 => ?_
  have e1 : SqT K H1 p1 [.str r.name, .str r.sort, .str r.host] := e1
  lk
  refine M0 (z1.sqT hb) (v := .ref s) (C5 (j := 3) rfl) ?_
  refine ⟨s, r.shuts, rfl, z1.sqT hs, by have := G.la; omega, fun l ys1 p1' s1' hl => ?_⟩
  have ey : ys1 = O3 r.shuts := Y1 s1' (Q9 _) (p1'.trans (O4 _).symm)
  subst ey
  have z2 := A7.new hl (.lst (B3 (O3 r.shuts)))
  have e2 : (upd H1 l (.lst (B3 (O3 r.shuts)))) l = some (.lst (B3 (O3 r.shuts))) := A8
  generalize upd H1 l (.lst (B3 (O3 r.shuts))) = H2 at *
  refine ⟨l, _, rfl, .inl ⟨SqL.of e2, fun t1 ht1 => ?_⟩⟩
  have z3 := A7.new ht1 (.tup (B3 (O3 r.shuts)))
  have e3 : (upd H2 t1 (.tup (B3 (O3 r.shuts)))) t1 = some (.tup (B3 (O3 r.shuts))) := A8
  generalize upd H2 t1 (.tup (B3 (O3 r.shuts))) = H3 at *
  have z13 := A7.tr z1 (A7.tr z2 z3)
  lk
  refine M0 (z13.sqT hb) (v := .ref t) (C5 (j := 4) rfl) ?_
  refine ⟨t, r.bars, rfl, z13.sqT ht, by have := G.lb; omega, fun l2 ys2 p2' s2' hl2 => ?_⟩
  have ey : ys2 = O3 r.bars := Y1 s2' (Q9 _) (p2'.trans (O4 _).symm)
  subst ey
  have z4 := A7.new hl2 (.lst (B3 (O3 r.bars)))
  have e4 : (upd H3 l2 (.lst (B3 (O3 r.bars)))) l2 = some (.lst (B3 (O3 r.bars))) := A8
  generalize upd H3 l2 (.lst (B3 (O3 r.bars))) = H4 at *
  refine ⟨l2, _, rfl, .inl ⟨SqL.of e4, fun t2 ht2 => ?_⟩⟩
  have z5 := A7.new ht2 (.tup (B3 (O3 r.bars)))
  have e5 : (upd H4 t2 (.tup (B3 (O3 r.bars)))) t2 = some (.tup (B3 (O3 r.bars))) := A8
  generalize upd H4 t2 (.tup (B3 (O3 r.bars))) = H5 at *
  have z35 := A7.tr z4 z5
  lk
  refine ⟨G1 (by z_go), fun t3 ht3 => ?_⟩
  have z6 := A7.new ht3 (.tup [.ref t1, .ref t2])
  have e6 : (upd H5 t3 (.tup [.ref t1, .ref t2])) t3 = some (.tup [.ref t1, .ref t2]) := A8
  generalize upd H5 t3 (.tup [.ref t1, .ref t2]) = H6 at *
  have z36 := A7.tr z35 z6
  have z16 := A7.tr (A7.tr z2 z3) z36
  refine yg3 (z16.sqT e1) (SqT.of e6) (G1 (by z_go)) fun p7 H7 z7 e7 => ?_
  have z67 := A7.tr z36 z7
  have s7 := A7.tr s2 (A7.tr z1 (A7.tr z16 z7))
  refine ⟨s7, ?_⟩
  rw [List.take_add_one, hr, List.map_append, List.map_append]
  exact qv7 (Dvs.same (A7.tr z1 (A7.tr z16 z7)) _ _ dz) (E6 (zc6 e7 (SqT.of (z67 _ _ e3)) (SqT.of (z7 _ _ (z6 _ _ e5)))) G7)
 ·rintro zs H' ⟨s2, dz⟩ c hc
  rw [lys, List.take_length] at dz
  have z1 := A7.new hc (.lst zs)
  have e1 : (upd H' c (.lst zs)) c = some (.lst zs) := A8
  generalize upd H' c (.lst zs) = H1 at *
  refine ⟨c, _, rfl, .inl ⟨SqL.of e1, fun t ht => ?_⟩⟩
  have z2 := A7.new ht (.tup zs)
  have e2 : (upd H1 t (.tup zs)) t = some (.tup zs) := A8
  generalize upd H1 t (.tup zs) = H2 at *
  lk
  refine ⟨G1 (by z_go), fun u hu => ?_⟩
  have z3 := A7.new hu (.lst [.str ("read" : Str), .ref t])
  exact q u _ (A7.tr s2 (A7.tr z1 (A7.tr z2 z3))) (M8.mpr ⟨u, _, rfl, SqL.of A8, E6 (N2.mpr rfl) (E6 (L7.mpr ⟨t, zs, rfl, SqT.of (z3 _ _ e2), Dvs.same (A7.tr z1 (A7.tr z2 z3)) _ _ dz⟩) G7)⟩)
theorem ym2 (ds : List PyData) : PyData.eqv (.list ds) (.list []) = ds.isEmpty := by cases ds <;> rfl
theorem ym3 (js : List Nat) : Dvs K H (js.map fun j : Nat => PyData.int (j : Int)) (js.map fun j : Nat => V.int (j : Int)) := by
 induction js with
 | nil => exact G7
 | cons j js ih => exact E6 (qg5.mpr rfl) ih
theorem du3 (hp : H p = some (.lst ys)) (hd : Dvs K H (rs.map Row.da) ys) (hz : rs.length <= 12) (hU : ∀ r ∈ rs, qd7 20 r) (q1 : (∀ (j : Nat) r, rs[j]? = some r -> OkP (B6 rs) rs j r) -> ∀ (t : Addr) H', A7 H H' -> Dv K H' (.list [.str ("read" : Str), .tuple ((rs.map O0).map Row.da)]) (.ref t) -> D.rt (.ref t) H') (q2 : ∀ m : Nat, m < rs.length -> (∀ r, rs[m]? = some r -> ¬ OkP (B6 rs) rs m r) -> (∀ (j : Nat) r, j < m -> rs[j]? = some r -> OkP (B6 rs) rs j r) -> ∀ (t : Addr) H', A7 H H' -> Dv K H' (.list [.str ("book" : Str), .int m]) (.ref t) -> D.rt (.ref t) H') :
 qc5 K D [o0, some (.ref p), o2] H := by
 have lys : ys.length = rs.length := by have := hd.length; simpa using this
 obtain ⟨bad, hbad⟩ : ∃ bad : Nat -> Bool, ∀ j, bad j = true ↔ ∃ r, rs[j]? = some r /\ ¬ OkP (B6 rs) rs j r := ⟨fun j => @decide (∃ r, rs[j]? = some r /\ ¬ OkP (B6 rs) rs j r) (Classical.propDecidable _), fun j => @decide_eq_true_iff _ (Classical.propDecidable _)⟩
 unfold qc5
 lk
 refine R5 (.inl (SqL.of hp)) ?_
 rw [lys]
 refine qo8 (n := (rs.length : Int)) (by omega) (by omega) (fun i zs H' => A7 H H' /\ zs = ((List.range i).filter bad).map fun j : Nat => V.int (j : Int)) ⟨A7.refl', rfl⟩ ?_ ?_ ?_
 ·rintro i zs H' hi ⟨_, rfl⟩
  rw [List.length_map]
  have := List.length_filter_le bad (List.range i)
  rw [List.length_range] at this
  exact G1 (by omega)
 ·rintro i zs H' hi ⟨s2, rfl⟩
  have hi' : i < rs.length := by omega
  lk
  refine ⟨p, i, ys, rs, rfl, SqL.of (s2 _ _ hp), Dvs.same s2 _ _ hd, hi', by omega, hU, fun c H3 r s3 hr hc => ?_⟩
  refine ⟨_, rfl, ?_⟩
  have eb : bad i = c := by
   cases hcc : c with
   | true => exact (hbad i).mpr ⟨r, hr, hc.mp hcc⟩
   | false =>
     cases hb : bad i with
     | false => rfl
     | true =>
       obtain ⟨r', hr', h⟩ := (hbad i).mp hb
       rw [hr] at hr'; cases hr'
       rw [hc.mpr h] at hcc; cases hcc
  have er : (List.range (i + 1)).filter bad = (List.range i).filter bad ++ (if c = true then [i] else []) := by
   rw [List.range_succ, List.filter_append, <- eb]
   congr 1
   cases hb : bad i <;> simp [List.filter, hb]
  cases c with
  | true =>
    x_go
    lk
    refine ⟨A7.tr s2 s3, ?_⟩
    rw [er, if_pos rfl, List.map_append]; rfl
  | false =>
    k_go
    refine ⟨A7.tr s2 s3, ?_⟩
    rw [er, if_neg Bool.false_ne_true, List.append_nil]
 ·rintro zs H' ⟨s2, rfl⟩ c hc
  rw [show ((rs.length : Int)).toNat = rs.length from rfl]
  obtain ⟨js, ejs⟩ : ∃ js, js = (List.range rs.length).filter bad := ⟨_, rfl⟩
  rw [<- ejs]
  have z1 := A7.new hc (.lst (js.map fun j : Nat => V.int (j : Int)))
  have e1 : (upd H' c (.lst (js.map fun j : Nat => V.int (j : Int)))) c = some (.lst (js.map fun j : Nat => V.int (j : Int))) := A8
  generalize upd H' c (.lst (js.map fun j : Nat => V.int (j : Int))) = H1 at *
  have s1 := A7.tr s2 z1
  unfold qx6
  lk
  refine ⟨G1 (by z_go), fun e he => ?_⟩
  have z2 := A7.new he (.lst [])
  have e2 : (upd H1 e (.lst [])) e = some (.lst []) := A8
  generalize upd H1 e (.lst []) = H2 at *
  have s3 := A7.tr s1 z2
  refine xg0 (M8.mpr ⟨c, _, rfl, SqL.of (z2 _ _ e1), ym3 js⟩) (M8.mpr ⟨e, [], rfl, SqL.of e2, G7⟩) (Nat.le_trans (Nat.min_le_right _ _) (by decide)) ?_
  rw [ym2]
  refine ⟨_, rfl, ?_⟩
  cases js with
  | nil =>
    k_go
    show qc4 K D [o0, some (.ref p), some (.ref c)] H2
    refine du1 (s3 _ _ hp) (Dvs.same s3 _ _ hd) hz hU fun t H' s' d => q1 (fun j r hr => ?_) t H' (A7.tr s3 s') d
    apply Classical.byContradiction
    intro h
    have : j ∈ (List.range rs.length).filter bad := List.mem_filter.mpr ⟨List.mem_range.mpr (List.getElem?_eq_some_iff.mp hr).1, (hbad j).mpr ⟨r, hr, h⟩⟩
    rw [<- ejs] at this; cases this
  | cons m js =>
    x_go
    lk
    refine M5 (SqL.of (z2 _ _ e1)) (v := .int (m : Int)) (C5 (j := 0) rfl) ?_
    lk
    refine ⟨G1 (by z_go), fun t ht => ?_⟩
    have hm : m ∈ (List.range rs.length).filter bad := by rw [<- ejs]; exact List.mem_cons_self
    obtain ⟨hm1, hm2⟩ := List.mem_filter.mp hm
    obtain ⟨r0, hr0, hb0⟩ := (hbad m).mp hm2
    refine q2 m (List.mem_range.mp hm1) (fun r hr => by rw [hr0] at hr; cases hr; exact hb0) (fun j r hj hr => ?_) t _ (A7.tr s3 (A7.new ht _)) (M8.mpr ⟨t, _, rfl, SqL.of A8, E6 (N2.mpr rfl) (E6 (qg5.mpr rfl) G7)⟩)
    apply Classical.byContradiction
    intro h
    have hj' : j ∈ (List.range rs.length).filter bad := List.mem_filter.mpr ⟨List.mem_range.mpr (List.getElem?_eq_some_iff.mp hr).1, (hbad j).mpr ⟨r, hr, h⟩⟩
    have srt : ((List.range rs.length).filter bad).Pairwise (· < ·) := List.pairwise_lt_range.filter _
    rw [<- ejs] at hj' srt
    rcases List.mem_cons.mp hj' with z | z
    ·omega
    ·have := (List.pairwise_cons.mp srt).1 j z
     omega
def qg1 (K : Fg) : Sp := fun vs H Q _ => ∃ (a : Addr) (as : List Addr) (wss : List (List Str)), vs = [.ref a] /\ H a = some (.lst (as.map V.ref)) /\ (∀ (i : Nat) ad ws, as[i]? = some ad -> wss[i]? = some ws -> H ad = some (.lst (B3 ws))) /\ as.length = wss.length /\ wss.length <= 12 /\ (∀ ws ∈ wss, ws.length <= 20 /\ ∀ w ∈ ws, Wrd 21 w) /\ ∀ (d : PyData) (t : Addr) H', A7 H H' -> Due wss d -> Dv K H' d (.ref t) -> Q (.ref t) H'
theorem xd7 (K : Fg) : ∀ vs H Q E, qg1 K vs H Q E -> vs.length = ["_law_lines"].length := by rintro vs H Q E ⟨a, as, wss, rfl, _⟩; rfl
def qk4 (K : Fg) : TS :=
 (D8 (J0 (T3 [none] (qg7 K (B1 0)) (C3 0) tTT (D9 (qf7 K) [] E0 (A9 (B1 0) B7))) (C3 1))
 (D8 (M9 (D5 (tOp (zh9 K) (tC .non) (B1 1)))
 (xd6 K) G8)
 (qc5 K)))
theorem xk1 (h : qg1 K vs H Q E) : qk4 K { nx := fun _ H' => Q .non H', rt := Q } (I9 ["_law_lines", "_law_rows", "_law_wrong"] vs) H := by
 obtain ⟨a, as, wss, rfl, ha, hw, hl, hz, hW, q⟩ := h
 show qk4 K _ [some (.ref a), none, none] H
 unfold qk4
 lk
 refine P0 (.inl (SqL.of ha)) A7.refl' (fun i ys H' => A7 H H' /\ ODs K H' (wss.take i) ys) ⟨A7.refl', rfl, fun j ws y e => (by simp at e)⟩ ?_ (fun i ys H' p => p.1) ?_ ?_
 ·rintro i ys H' hi ⟨_, d⟩
  have := d.1
  rw [List.length_take] at this
  exact G1 (by omega)
 ·rintro i x ys H' hx ⟨s2, d⟩
  rw [List.getElem?_map] at hx
  obtain ⟨ad, hx2, rfl⟩ := Option.map_eq_some_iff.mp hx
  have hx := hx2
  have hi : i < wss.length := by rw [<- hl]; exact (List.getElem?_eq_some_iff.mp hx).1
  have hws : wss[i]? = some wss[i] := List.getElem?_eq_getElem hi
  generalize wss[i] = ws at hws
  obtain ⟨w1, w2⟩ := hW ws (List.mem_of_getElem? hws)
  have et : wss.take (i + 1) = wss.take i ++ [ws] := by rw [List.take_add_one, hws]; rfl
  lk
  refine ⟨ad, ws, rfl, SqL.of (s2 _ _ (hw i ad ws hx hws)), by omega, fun w hw' => by have := (w2 w hw').z; omega, fun e H3 s3 => ?_, fun r e t H3 s3 hd => ?_⟩
  ·refine ⟨A7.tr s2 s3, ?_⟩
   rw [et]
   exact (d.same s3).snoc (by rw [e]; rfl)
  ·refine ⟨A7.tr s2 s3, ?_⟩
   rw [et]
   exact (d.same s3).snoc (by rw [e]; exact hd)
 ·rintro ys H' ⟨s2, d⟩ p hp
  rw [List.length_map, hl, List.take_length] at d
  have z1 := A7.new hp (.lst ys)
  have e1 : (upd H' p (.lst ys)) p = some (.lst ys) := A8
  generalize upd H' p (.lst ys) = H1 at *
  have s1 := A7.tr s2 z1
  have d := d.same z1
  lk
  refine ⟨p, ys, rfl, rfl, SqL.of e1, d.nts, ?_⟩
  refine ⟨_, rfl, ?_⟩
  cases hn : ys.any xh2 with
  | true =>
    x_go
    obtain ⟨m, hm1, hm2⟩ := ww7 hn
    lk
    refine ⟨.inl ⟨rfl, _, SqL.of e1⟩, ?_⟩
    lk
    refine ⟨p, ys, m, rfl, rfl, e1, d.nts, hm1, hm2, ?_⟩
    lk
    refine ⟨G1 (by z_go), fun t ht => ?_⟩
    refine q _ t _ (A7.tr s1 (A7.new ht _)) (.text (m := m) ?_ (fun ws hws => ?_) fun j ws hj hws hno => ?_) (M8.mpr ⟨t, _, rfl, SqL.of A8, E6 (N2.mpr rfl) (E6 (qg5.mpr rfl) G7)⟩)
    ·rw [<- d.1]; exact (List.getElem?_eq_some_iff.mp hm1).1
    ·exact OD.non (d.2 m ws .non hws hm1)
    ·have hj2 : j < ys.length := by rw [d.1]; exact (List.getElem?_eq_some_iff.mp hws).1
     have o := d.2 j ws _ hws (List.getElem?_eq_getElem hj2)
     rw [hno] at o
     have o : ys[j] = .non := o
     exact hm2 j hj (by rw [List.getElem?_eq_getElem hj2, o])
  | false =>
    k_go
    obtain ⟨rs, e, dr⟩ := d.rows hn
    have lr : rs.length = wss.length := by have := congrArg List.length e; rw [List.length_map, List.length_map] at this; exact this.symm
    have hU : ∀ r ∈ rs, qd7 20 r := fun r hr => by
     have : some r ∈ wss.map lrw := by rw [e]; exact List.mem_map_of_mem hr
     obtain ⟨ws, hws, ew⟩ := List.mem_map.mp this
     exact xd5 ew (hW ws hws).1
    show qc5 K _ [some (.ref a), some (.ref p), none] H1
    exact du3 e1 dr (by omega) hU (fun ok t H2 s' dd => q _ t H2 (A7.tr s1 s') (.read e ok) dd) fun m lt bad ok t H2 s' dd => q _ t H2 (A7.tr s1 s') (.book e lt bad ok) dd
structure zi7 (x : Str) : Prop where
 l : x.length <= 10
 n : 10 ∉ x.cps.toList
 s : 32 ∉ x.cps.toList
theorem zi8 (h0 : ws ≠ []) (hl : ws.length <= 60) (hx : ∀ x ∈ ws, zi7 x) : ws7 (Str.join (" " : Str) ws) /\ rdL (Str.join (" " : Str) ws) = rdF ws := by
 have e : PySem.Txt.split (Str.join (" " : Str) ws) (" " : Str) = ws := qs2 (c := 32) h0 fun x h => (hx x h).s
 refine ⟨⟨?_, ?_, by rw [e]; exact hl, by rw [e]; exact fun y hy => by have := (hx y hy).l; omega⟩, by unfold rdL; rw [e]⟩
 ·show 10 ∉ (Str.join ⟨#[32]⟩ ws).cps.toList
  rw [qj3]
  exact xc1 (by decide) fun x h => (hx x h).n
 ·have h1 := qw4 (c := 32) (m := 10) (xs := ws) fun x h => (hx x h).l
  have h2 : ws.length * (10 + 1) <= 60 * 11 := Nat.mul_le_mul_right _ hl
  show (Str.join ⟨#[32]⟩ ws).length <= _
  omega
theorem ym4 (G : qq3 r) : ∀ x ∈ M3 r r.shuts r.bars, zi7 x := fun x hx => ⟨(qh6 G (List.Perm.refl _) (List.Perm.refl _)).2 x hx, (wn6 G (List.Perm.refl _) (List.Perm.refl _) x hx).1, (wn6 G (List.Perm.refl _) (List.Perm.refl _) x hx).2⟩
theorem yt0 (G : qq3 r) : rdF (M3 r r.shuts r.bars) = some r := by
 have hs1 : O3 r.shuts = r.shuts := Y1 (Q9 _) G.sa (O4 _)
 have hs2 : O3 r.bars = r.bars := Y1 (Q9 _) G.sb (O4 _)
 have key : ∀ (hd : List Str) (h : Str), gd (hd ++ (kwL ("shuts" : Str) r.shuts ++ kwL ("bars" : Str) r.bars)) 0 = r.name -> gd (hd ++ (kwL ("shuts" : Str) r.shuts ++ kwL ("bars" : Str) r.bars)) 1 = r.sort -> h = r.host -> rdT (hd ++ (kwL ("shuts" : Str) r.shuts ++ kwL ("bars" : Str) r.bars)) hd.length h = some r := by
  intro hd h e0 e1 e2
  unfold rdT
  rw [List.drop_left, <- List.drop_drop, List.drop_left, yk6 G.a, <- wh7 ("shuts" : Str) r.shuts, List.drop_left, ys5 G.b, if_pos, e0, e1, hs1, hs2, e2]
  rw [List.length_append, List.length_append, wh7 ("bars" : Str)]; omega
 have n0 : nmX r.name = true := G.n
 unfold rdF
 have g0 : gd (M3 r r.shuts r.bars) 0 = r.name := rfl
 have g1 : gd (M3 r r.shuts r.bars) 1 = r.sort := rfl
 have hl : ¬ (M3 r r.shuts r.bars).length < 2 := by unfold M3; rw [List.length_append]; show ¬ 2 + _ < 2; omega
 rw [if_neg hl, g0, g1, if_neg (by rw [n0]; exact Bool.noConfusion), if_neg (fun z => z G.s)]
 by_cases hf : r.sort = ("frame" : Str)
 ·rw [if_pos hf]
  have e : M3 r r.shuts r.bars = [r.name, r.sort, r.host] ++ (kwL ("shuts" : Str) r.shuts ++ kwL ("bars" : Str) r.bars) := by unfold M3 qb0; rw [if_pos hf]; rfl
  rw [e]
  have g2 : gd ([r.name, r.sort, r.host] ++ (kwL ("shuts" : Str) r.shuts ++ kwL ("bars" : Str) r.bars)) 2 = r.host := rfl
  rw [if_neg (by rw [List.length_append]; show ¬ 3 + _ < 3; omega), g2, if_neg (by rw [G.f hf]; exact Bool.noConfusion)]
  exact key [r.name, r.sort, r.host] r.host rfl rfl rfl
 ·rw [if_neg hf]
  have e : M3 r r.shuts r.bars = [r.name, r.sort] ++ (kwL ("shuts" : Str) r.shuts ++ kwL ("bars" : Str) r.bars) := by unfold M3 qb0; rw [if_neg hf]; rfl
  rw [e]
  exact key [r.name, r.sort] ("" : Str) rfl rfl (G.e hf).symm
theorem wc4 (G : qq3 r) : ws7 (qq8 r) /\ rdL (qq8 r) = some r := by
 obtain ⟨a, e⟩ := zi8 (ws := M3 r r.shuts r.bars) (by unfold M3; simp) (by have := (qh6 G (List.Perm.refl r.shuts) (List.Perm.refl r.bars)).1; omega) (ym4 G)
 exact ⟨a, by show rdL (Str.join _ _) = _; rw [e, yt0 G]⟩
def Bad (rs : List Row) (j : Nat) : Prop := ∃ r, rs[j]? = some r /\ ¬ OkP (B6 rs) rs j r
theorem ym5 (hU : ∀ r ∈ rs, qd7 20 r) (h12 : rs.length <= 12) (h : ∀ j, j < n -> ¬ Bad rs j) : ∀ j, j < n -> ws5 (rs.map O0) j := by
 intro j
 induction j using Nat.strongRecOn with
 | ind j ih =>
   intro hj
   cases e : rs[j]? with
   | none =>
     intro r hr
     rw [List.getElem?_map, e] at hr; cases hr
   | some r =>
     refine (xj9 hU h12 e fun i hi => ih i hi (by omega)).mpr ?_
     exact Classical.byContradiction fun z => h j hj ⟨r, e, z⟩
theorem yt1 (hU : ∀ r ∈ rs, qd7 20 r) (h12 : rs.length <= 12) (hb : Bad rs j) (h : ∀ i, i < j -> ¬ Bad rs i) : wf9 (rs.map O0) j := by
 obtain ⟨r, hr, hn⟩ := hb
 have ok := ym5 hU h12 h
 refine ⟨by rw [List.length_map]; exact (List.getElem?_eq_some_iff.mp hr).1, fun z => hn ((xj9 hU h12 hr ok).mp z), ok⟩
theorem ym6 (hU : ∀ r ∈ rs, qd7 20 r) (h12 : rs.length <= 12) (h : ∀ j, j < rs.length -> ¬ Bad rs j) : wf7 (rs.map O0) := by
 refine xu2.mpr fun j => ?_
 by_cases hj : j < rs.length
 ·exact ym5 hU h12 h j hj
 ·intro r hr
  rw [List.getElem?_map, List.getElem?_eq_none (by omega)] at hr; cases hr
theorem xq7 (h0 : ws ≠ []) (hl : ws.length <= 20) (hx : ∀ x ∈ ws, Wrd 21 x) : ws7 (Str.join (" " : Str) ws) /\ rdL (Str.join (" " : Str) ws) = rdF ws := by
 have e : PySem.Txt.split (Str.join (" " : Str) ws) (" " : Str) = ws := qs2 (c := 32) h0 fun x h z => ((hx x h).c _ z).2 rfl
 refine ⟨⟨?_, ?_, by rw [e]; omega, by rw [e]; exact fun y hy => by have := (hx y hy).z; omega⟩, by unfold rdL; rw [e]⟩
 ·show 10 ∉ (Str.join ⟨#[32]⟩ ws).cps.toList
  rw [qj3]
  exact xc1 (by decide) fun x h z => ((hx x h).c _ z).1 rfl
 ·have h1 := qw4 (c := 32) (m := 21) (xs := ws) fun x h => (hx x h).z
  have h2 : ws.length * (21 + 1) <= 20 * 22 := Nat.mul_le_mul_right _ hl
  show (Str.join ⟨#[32]⟩ ws).length <= _
  omega
def lnJ (ws : List Str) : Str := Str.join (" " : Str) ws
structure Wss (wss : List (List Str)) : Prop where
 z : wss.length <= 12
 w : ∀ ws ∈ wss, ws ≠ [] /\ ws.length <= 20 /\ ∀ x ∈ ws, Wrd 21 x
theorem xv4 (W : Wss wss) : ∀ ws ∈ wss, rdL (lnJ ws) = (lrw ws).map O0 := fun ws h => by
 obtain ⟨a, b, c⟩ := W.w ws h
 rw [zc1]; exact (xq7 a b c).2
theorem ym7 (W : Wss wss) (e : wss.map lrw = rs.map some) : (wss.map lnJ).map rdL = (rs.map O0).map some := by
 have h1 : (wss.map lnJ).map rdL = (wss.map lrw).map (Option.map O0) := by
  rw [List.map_map, List.map_map]
  exact List.map_congr_left fun ws h => xv4 W ws h
 rw [h1, e, List.map_map, List.map_map]; rfl
theorem yt2 (e : ls.map rdL = rs.map some) {m : Nat} {l : Str} (hl : ls[m]? = some l) (h : rdL l = none) : False := by
 have : (none : Option Row) ∈ rs.map some := by rw [<- e, <- h]; exact List.mem_map_of_mem (List.mem_of_getElem? hl)
 obtain ⟨_, _, z⟩ := List.mem_map.mp this
 cases z
theorem wi2 {m : Nat} (hz : ls.length <= 12) (e : ls.map rdL = rs.map some) (f : wg3 ls m) : False := by
 have hm := f.lt
 have hl : ls[m]? = some ls[m] := List.getElem?_eq_getElem hm
 rcases f.bad _ hl with h | h
 ·exact yt2 e hl h
 ·omega
theorem wg3.uniq {m : Nat} (hz : ls.length <= 12) (f : wg3 ls m) (g : wg3 ls n) : m = n := by
 have key : ∀ {m n : Nat}, wg3 ls m -> wg3 ls n -> ¬ m < n := fun {m n} f g h => by
  have hm := f.lt
  have hl : ls[m]? = some ls[m] := List.getElem?_eq_getElem hm
  rcases f.bad _ hl with z | z
  ·exact (g.ok m _ h hl).1 z
  ·omega
 have h1 := key f g
 have h2 := key g f
 omega
theorem ym8 (W : Wss wss) (hn : wss.map lnJ ≠ [("" : Str)]) {d d' : PyData} (T : xq4 (wss.map lnJ) d') (D : Due wss d) : d' = d := by
 have hz : (wss.map lnJ).length <= 12 := by rw [List.length_map]; exact W.z
 have rU : ∀ {rs : List Row}, wss.map lrw = rs.map some -> (∀ r ∈ rs, qd7 20 r) /\ rs.length <= 12 := fun {rs} e => by
  refine ⟨fun r hr => ?_, ?_⟩
  ·have : some r ∈ wss.map lrw := by rw [e]; exact List.mem_map_of_mem hr
   obtain ⟨ws, hws, ew⟩ := List.mem_map.mp this
   exact xd5 ew (W.w ws hws).2.1
  ·have := congrArg List.length e; rw [List.length_map, List.length_map] at this; have := W.z; omega
 cases D with
 | text lt bad ok =>
   rename_i m
   have hf : wg3 (wss.map lnJ) m := by
    refine ⟨by rw [List.length_map]; exact lt, fun l hl => .inl ?_, fun j l hj hl => ⟨fun z => ?_, by have := W.z; omega⟩⟩
    ·rw [List.getElem?_map] at hl
     obtain ⟨ws, hws, rfl⟩ := Option.map_eq_some_iff.mp hl
     rw [xv4 W ws (List.mem_of_getElem? hws), bad ws hws]; rfl
    ·rw [List.getElem?_map] at hl
     obtain ⟨ws, hws, rfl⟩ := Option.map_eq_some_iff.mp hl
     rw [xv4 W ws (List.mem_of_getElem? hws)] at z
     exact ok j ws hj hws (Option.map_eq_none_iff.mp z)
   cases T with
   | none h => exact absurd h hn
   | read h e _ => exact (wi2 hz e hf).elim
   | book h e _ => exact (wi2 hz e hf).elim
   | text h f => rw [wg3.uniq hz f hf]
 | book e lt bad ok =>
   rename_i rs m
   obtain ⟨hU, h12⟩ := rU e
   have eR := ym7 W e
   have hr : rs[m]? = some rs[m] := List.getElem?_eq_getElem lt
   have hf : wf9 (rs.map O0) m := yt1 hU h12 ⟨_, hr, bad _ hr⟩ fun i hi ⟨r, h1, h2⟩ => h2 (ok i r hi h1)
   cases T with
   | none h => exact absurd h hn
   | read h e' mm => rw [qw5 e' eR] at mm; exact absurd mm hf.not
   | book h e' f => rw [qw5 e' eR] at f; rw [wf9.uniq f hf]
   | text h f => exact (wi2 hz eR f).elim
 | read e ok =>
   rename_i rs
   obtain ⟨hU, h12⟩ := rU e
   have eR := ym7 W e
   have hM : wf7 (rs.map O0) := ym6 hU h12 fun j hj ⟨r, h1, h2⟩ => h2 (ok j r h1)
   cases T with
   | none h => exact absurd h hn
   | read h e' mm => rw [qw5 e' eR]
   | book h e' f => rw [qw5 e' eR] at f; exact absurd hM f.not
   | text h f => exact (wi2 hz eR f).elim
theorem wp4 : ∀ xs : List Str, PyData.depthAll (sDa xs) = 0
 | [] => by show PyData.depthAll [] = 0; rw [PyData.depthAll]
 | j :: js => by
   show PyData.depthAll (.str j :: sDa js) = 0
   rw [PyData.depthAll, wp4 js, PyData.depth]; rfl
theorem qs3 : ∀ rs : List Row, PyData.depthAll (rs.map Row.da) <= 2
 | [] => by show PyData.depthAll [] <= 2; rw [PyData.depthAll]; omega
 | r :: rs => by
   show PyData.depthAll (r.da :: rs.map Row.da) <= 2
   have := qs3 rs
   rw [PyData.depthAll]
   have : PyData.depth r.da <= 2 := by
    unfold Row.da
    simp [PyData.depth, PyData.depthAll, wp4]
   omega
theorem ym9 (rs : List Row) : min (PyData.tuple (rs.map Row.da)).depth (PyData.tuple (rs.map Row.da)).depth <= 190 := by
 refine Nat.le_trans (Nat.min_le_left _ _) ?_
 rw [PyData.depth]; have := qs3 rs; omega
abbrev xv5 (K : Fg) : TS :=
 (M9 (tOr (D5 (tOp xt4 (D9 (qj8 K) [] E0 (A9 (tOp (G5 K) (B1 5) (tC (.int 1))) B7)) (tC (.bl true)))) (D5 (tOp (qm7 K) (D9 (qb8 K) [] E0 (A9 (D9 (qc0 K) [] E0 (A9 (tOp (G5 K) (B1 5) (tC (.int 1))) B7)) B7)) (tOp (G5 K) (B1 5) (tC (.int 1))))))
 (I0 (tC (.bl false))) G8)
abbrev wi3 (K : Fg) : TS :=
 (M9 (D5 (tOp (R1 K) (tOp (G5 K) (B1 5) (tC (.int 0))) (tC (.str ("read" : Str)))))
 (xv5 K) G8)
abbrev qx7 (K : Fg) : TS :=
 (D8 (M9 (D5 (tOp (qm7 K) (D9 (qc3 K) [] E0 (A9 (B1 6) B7)) (B1 5)))
 (I0 (tC (.bl false))) G8)
 (wi3 K))
abbrev wi4 (K : Fg) : TS :=
 (D8 (M9 (D5 (tOp (R1 K) (B1 6) (tC (.str ("" : Str)))))
 (J0 (O9 (A9 (tC (.str ("read" : Str))) (A9 (xm5 B7) B7))) (C3 5)) G8)
 (qx7 K))
abbrev yt3 (K : Fg) : TS :=
 (D8 (J0 (tBM K "str" (xf8 K) (tC (.str ("\n" : Str))) (A9 (T3 [none] (qg7 K (B1 4)) (C3 0) tTT (tBM K "str" (xf8 K) (tC (.str (" " : Str))) (A9 (B1 0) B7))) B7)) (C3 6))
 (wi4 K))
abbrev wi5 (K : Fg) : TS :=
 (D8 (J0 (T3 [some 1, some 0, some 3, none] (qq5 (A9 (B1 2) B7)) (C3 3) tTT (D9 (T1 K) [] E0 (A9 (B1 0) (A9 (D9 (N6 K) [] E0 (A9 (B1 1) (A9 (tOp (P4 K) (B1 2) (B1 3)) B7))) B7)))) (C3 4))
 (D8 (J0 (D9 (qg1 K) [] E0 (A9 (B1 4) B7)) (C3 5))
 (yt3 K)))
abbrev yt4 (K : Fg) : TS :=
 (D8 (ql8 (yj1 (A9 (tC (.int 3)) (A9 (tCB (yg2 K) (A9 (tC (.int 4)) (A9 (tCB (yg1 K) (A9 (tCB (R8 K) (A9 (B1 0) B7)) (A9 (tC (.int 63)) B7))) B7))) (A9 (B1 2) B7)))) (C3 3)
 (wi5 K))
 (I0 (tC (.bl true))))
abbrev yt5 (K : Fg) : TS :=
 (D8 (J0 (tOp (P4 K) (tC (.int 1)) (tOp (rI (fun _ j => 0 < j) fun i j => .int (i % j)) (D9 (N6 K) [] E0 (A9 (B1 0) (A9 (tC (.int 2)) B7))) (tC (.int 6)))) (C3 2))
 (yt4 K))
abbrev yt6 (K : Fg) : TS :=
 (D8 (J0 (T3 [none] (qg7 K (B1 1)) (C3 0) tTT (tOp (G5 K) (O9 (A9 (B1 0) (A9 (tOp (P4 K) (B1 0) (tC (.str ("x" : Str)))) B7))) (tCB xs0 (A9 (tOp (X5 K false) (B1 0) (O9 (A9 (tC (.str ("shuts" : Str))) (A9 (tC (.str ("bars" : Str))) B7)))) B7)))) (C3 1))
 (yt5 K))
inductive yb7 : PyData -> Prop
 | oth {k : Str} {m : Nat} (h : k ≠ ("read" : Str)) : yb7 (.list [.str k, .int m])
 | read {rs : List Row} (z : rs.length <= 12) (g : ∀ r ∈ rs, qq3 r) (m : wf7 rs) : yb7 (.list [.str ("read" : Str), .tuple (rs.map Row.da)])
theorem zi9 (G : qq3 r) : xi3 r = true := by
 unfold xi3
 rw [G.n, decide_eq_true G.s, Bool.true_and, Bool.true_and]
 by_cases hf : r.sort = ("frame" : Str)
 ·rw [if_pos hf]; exact G.f hf
 ·rw [if_neg hf]; exact decide_eq_true (G.e hf)
theorem yn0 : rdL ("" : Str) = none := by decide +kernel
theorem xv6 {d e : PyData} (h : Dvs K H [d, e] vs) : ∃ x y, vs = [x, y] /\ Dv K H d x /\ Dv K H e y := by
 have hl : vs.length = 2 := by have := h.length; simpa using this
 match vs, hl, h with
 | [x, y], _, h =>
   obtain ⟨d1, e1, h1⟩ := h.get' (i := 0) (v := x) rfl
   obtain ⟨d2, e2, h2⟩ := h.get' (i := 1) (v := y) rfl
   cases e1; cases e2
   exact ⟨x, y, rfl, h1, h2⟩
variable {u : Addr}
section
variable {o4 : Option V} {d : PyData}
theorem lw1 (F : yb7 d) (hd : Dv K H d (.ref u)) (q : ∀ H', A7 H H' -> D.nx [o0, o1, o2, o3, o4, some (.ref u), o6] H') : wi3 K D [o0, o1, o2, o3, o4, some (.ref u), o6] H := by
 unfold wi3
 cases F with
 | oth h =>
   rename_i k m
   obtain ⟨_, vs, e, hq, hv⟩ := M8.mp hd
   cases e
   obtain ⟨x, y, rfl, hx, hy⟩ := xv6 hv
   rw [N2] at hx
   subst hx
   lk
   refine M5 hq (v := .str k) (C5 (j := 0) rfl) ?_
   lk
   rw [decide_eq_false h]
   k_go
   lk
   exact q _ A7.refl'
 | read z g m =>
   rename_i rs
   obtain ⟨_, vs, e, hq, hv⟩ := M8.mp hd
   cases e
   obtain ⟨x, y, rfl, hx, hy⟩ := xv6 hv
   rw [N2] at hx
   subst hx
   obtain ⟨t, us, rfl, ht, hus⟩ := L7.mp hy
   lk
   refine M5 hq (v := .str ("read" : Str)) (C5 (j := 0) rfl) ?_
   lk
   rw [decide_eq_true rfl]
   x_go
   unfold xv5
   lk
   refine M5 hq (v := .ref t) (C5 (j := 1) rfl) ?_
   refine ⟨t, us, rs, rfl, ht, hus, z, fun r hr => (g r hr).sml, fun r hr => zi9 (g r hr), m, fun H1 s1 => ?_⟩
   lk
   refine ⟨true, true, rfl, rfl, ?_⟩
   refine ⟨_, rfl, ?_⟩
   k_go
   lk
   refine M5 (s1.sqL hq) (v := .ref t) (C5 (j := 1) rfl) ?_
   refine ⟨t, us, rs, rfl, s1.sqT ht, Dvs.same s1 _ _ hus, z, g, fun H2 s2 => ?_⟩
   have s02 := A7.tr s1 s2
   refine ⟨_, rs.map qq8, rs, rfl, ?_, fun r hr => (g r hr).sml, m, fun t2 us2 H3 s3 h3 d3 => ?_⟩
   ·by_cases hr : rs = []
    ·subst hr; exact .inl ⟨rfl, rfl⟩
    ·refine .inr ⟨by simpa using hr, fun e => ?_, by rw [List.length_map]; exact z, fun l hl => ?_, rfl, ?_⟩
     ·have : ("" : Str) ∈ rs.map qq8 := by rw [e]; exact List.mem_cons_self
      obtain ⟨r, hr, e2⟩ := List.mem_map.mp this
      have := (wc4 (g r hr)).2
      rw [e2, yn0] at this; cases this
     ·obtain ⟨r, hr, rfl⟩ := List.mem_map.mp hl
      exact (wc4 (g r hr)).1
     ·rw [List.map_map]; exact List.map_congr_left fun r hr => (wc4 (g r hr)).2
   ·have s03 := A7.tr s02 s3
    lk
    refine M5 (s03.sqL hq) (v := .ref t) (C5 (j := 1) rfl) ?_
    have d1 : Dv K H3 (.tuple (rs.map Row.da)) (.ref t2) := L7.mpr ⟨t2, us2, rfl, SqT.of h3, d3⟩
    refine xg0 d1 (Dv.same s03 _ _ hy) (ym9 rs) ?_
    rw [qm6 _ (Dv.nd _ _ d1)]
    refine ⟨_, rfl, ?_⟩
    k_go
    lk
    exact q _ s03
theorem yb8 (F : yb7 d) : min d.depth d.depth <= 190 := by
 refine Nat.le_trans (Nat.min_le_left _ _) ?_
 cases F with
 | oth h => simp [PyData.depth, PyData.depthAll]
 | read z g m =>
   rename_i rs
   have := qs3 rs
   simp only [PyData.depth, PyData.depthAll]
   omega
theorem lw2 (W : Wss wss) (h0 : wss ≠ []) (ez : z = Str.join ("
" : Str) (wss.map lnJ)) (F : yb7 d) (hd : Dv K H d (.ref u)) (e1 : wss.map lnJ = [("" : Str)] -> d = .list [.str ("read" : Str), .tuple []]) (e2 : wss.map lnJ ≠ [("" : Str)] -> Due wss d) (q : ∀ H', A7 H H' -> D.nx [o0, o1, o2, o3, o4, some (.ref u), some (.str z)] H') :
 qx7 K D [o0, o1, o2, o3, o4, some (.ref u), some (.str z)] H := by
 unfold qx7
 lk
 refine ⟨z, wss.map lnJ, rfl, by simpa using h0, by rw [List.length_map]; exact W.z, fun l hl => ?_, ez, fun l hl r e => ?_, fun d' t H1 s1 T hd' => ?_⟩
 ·obtain ⟨ws, hws, rfl⟩ := List.mem_map.mp hl
  obtain ⟨a, b, c⟩ := W.w ws hws
  exact (xq7 a b c).1
 ·obtain ⟨ws, hws, rfl⟩ := List.mem_map.mp hl
  obtain ⟨a, b, c⟩ := W.w ws hws
  rw [xv4 W ws hws] at e
  obtain ⟨r', hr', rfl⟩ := Option.map_eq_some_iff.mp e
  exact (xd5 hr' b).g.sml
 ·have ed : d' = d := by
   by_cases hn : wss.map lnJ = [("" : Str)]
   ·rw [e1 hn]
    cases T with
    | none _ => rfl
    | read h _ _ => exact absurd hn h
    | book h _ _ => exact absurd hn h
    | text h _ => exact absurd hn h
   ·exact ym8 W hn T (e2 hn)
  subst ed
  lk
  refine xg0 hd' (Dv.same s1 _ _ hd) (yb8 F) ?_
  rw [qm6 _ (Dv.nd _ _ hd')]
  refine ⟨_, rfl, ?_⟩
  k_go
  show wi3 K D [o0, o1, o2, o3, o4, some (.ref u), some (.str z)] H1
  exact lw1 F (Dv.same s1 _ _ hd) fun H2 s2 => q H2 (A7.tr s1 s2)
theorem yn1 (W : Wss wss) (D : Due wss d) : yb7 d := by
 cases D with
 | text _ _ _ => exact .oth (by decide +kernel)
 | book _ _ _ _ => exact .oth (by decide +kernel)
 | read e ok =>
   rename_i rs
   have hU : ∀ r ∈ rs, qd7 20 r := fun r hr => by
    have : some r ∈ wss.map lrw := by rw [e]; exact List.mem_map_of_mem hr
    obtain ⟨ws, hws, ew⟩ := List.mem_map.mp this
    exact xd5 ew (W.w ws hws).2.1
   have h12 : rs.length <= 12 := by have := congrArg List.length e; rw [List.length_map, List.length_map] at this; have := W.z; omega
   refine .read (by rw [List.length_map]; exact h12) (fun r hr => ?_) (ym6 hU h12 fun j hj ⟨r, h1, h2⟩ => h2 (ok j r h1))
   obtain ⟨r', hr', rfl⟩ := List.mem_map.mp hr
   exact (hU r' hr').g
theorem yn2 : Str.join ("
" : Str) [("" : Str)] = ("" : Str) := rfl
theorem lw3 (W : Wss wss) (h0 : wss ≠ []) (ez : z = Str.join ("
" : Str) (wss.map lnJ)) (hD : Due wss d) (hd : Dv K H d (.ref u)) (q : ∀ u' H', A7 H H' -> D.nx [o0, o1, o2, o3, o4, some (.ref u'), some (.str z)] H') :
 wi4 K D [o0, o1, o2, o3, o4, some (.ref u), some (.str z)] H := by
 unfold wi4
 lk
 by_cases hz : z = ("" : Str)
 ·rw [decide_eq_true hz]
  have hn : wss.map lnJ = [("" : Str)] := Classical.byContradiction fun h => xc5 (by simpa using h0) h (ez ▸ hz)
  x_go
  lk
  refine ⟨G1 (by z_go), fun t ht => ?_⟩
  have s1 := A7.new ht (.tup [])
  have g1 : (upd H t (.tup [])) t = some (.tup []) := A8
  generalize upd H t (.tup []) = H1 at *
  lk
  refine ⟨G1 (by z_go), fun v hv => ?_⟩
  have s2 := A7.new hv (.lst [.str ("read" : Str), .ref t])
  have g2 : (upd H1 v (.lst [.str ("read" : Str), .ref t])) v = some (.lst [.str ("read" : Str), .ref t]) := A8
  generalize upd H1 v (.lst [.str ("read" : Str), .ref t]) = H2 at *
  have s3 := A7.tr s1 s2
  show qx7 K D [o0, o1, o2, o3, o4, some (.ref v), some (.str z)] H2
  exact lw2 (d := .list [.str ("read" : Str), .tuple (([] : List Row).map Row.da)]) W h0 ez (.read (by simp) (fun r hr => nomatch hr) fun r hr => by simp) (M8.mpr ⟨v, _, rfl, SqL.of g2, E6 (N2.mpr rfl) (E6 (L7.mpr ⟨t, [], rfl, SqT.of (s2 _ _ g1), G7⟩) G7)⟩) (fun _ => rfl) (fun h => absurd hn h) fun H' s' => q v H' (A7.tr s3 s')
 ·rw [decide_eq_false hz]
  have hn : wss.map lnJ ≠ [("" : Str)] := fun h => hz (by rw [ez, h]; exact yn2)
  k_go
  show qx7 K D [o0, o1, o2, o3, o4, some (.ref u), some (.str z)] H
  exact lw2 W h0 ez (yn1 W hD) hd (fun h => absurd h hn) (fun _ => hD) fun H' s' => q u H' s'
theorem yt7 (h0 : ws ≠ []) (hl : ws.length <= 20) (hx : ∀ x ∈ ws, Wrd 21 x) : (lnJ ws).length <= 1000 := (xq7 h0 hl hx).1.z
theorem zc7 {a b : Nat} (h : a <= b * 1000) (hb : b <= 12) : a + b * ("
" : Str).length <= 16777216 := by
 show a + b * 1 <= _
 omega
theorem lw5 {sc nm : Addr} {ns : List Int} {names : List Str} {x : Int} (hsc : SqL K H sc (ns.map V.int)) (hN : H nm = some (.lst (B3 names))) (hn4 : names.length = 4) (hw : ∀ x ∈ names, Wrd 21 x) (hc0 : 1 <= c) (hc : c <= 6) (hx : 0 <= x) (q : ∀ o4 o5 o6 H', A7 H H' -> D.nx [some (.ref sc), some (.ref nm), some (.int c), some (.int x), o4, o5, o6] H') : wi5 K D [some (.ref sc), some (.ref nm), some (.int c), some (.int x), o4, o5, o6] H := by
 unfold wi5
 lk
 refine qo8 (n := (c : Int)) (by omega) (by omega) (fun i ys H' => A7 H H' /\ ∃ (as : List Addr) (wss : List (List Str)), ys = as.map V.ref /\ as.length = i /\ wss.length = i /\ (∀ (j : Nat) ad ws, as[j]? = some ad -> wss[j]? = some ws -> H' ad = some (.lst (B3 ws))) /\ ∀ ws ∈ wss, ws ≠ [] /\ ws.length <= 20 /\ ∀ x ∈ ws, Wrd 21 x) ⟨A7.refl', [], [], rfl, rfl, rfl, fun j ad ws e => (by simp at e), fun ws h => nomatch h⟩ ?_ ?_ ?_
 ·rintro i ys H' hi ⟨_, as, wss, rfl, h1, _⟩
  rw [List.length_map]
  exact G1 (by omega)
 ·rintro i ys H' hi ⟨s2, as, wss, rfl, h1, h2, h3, h4⟩
  lk
  refine ⟨sc, ns, _, rfl, s2.sqL hsc, by omega, fun n => ?_⟩
  lk
  refine ⟨nm, names, n, rfl, s2 _ _ hN, hn4, hw, fun t ws H3 s3 e3 w0 w1 w2 => ?_⟩
  refine ⟨A7.tr s2 s3, as ++ [t], wss ++ [ws], by rw [List.map_append]; rfl, by rw [List.length_append, h1]; rfl, by rw [List.length_append, h2]; rfl, fun j ad ws' e1 e2 => ?_, fun ws' h => ?_⟩
  ·rcases Nat.lt_or_ge j i with hj | hj
   ·rw [List.getElem?_append_left (by omega)] at e1 e2
    exact s3 _ _ (h3 j ad ws' e1 e2)
   ·rw [List.getElem?_append_right (by omega)] at e1 e2
    have hj0 : j - as.length = 0 := by
     have := (List.getElem?_eq_some_iff.mp e1).1
     simp at this; omega
    have hj1 : j - wss.length = 0 := by omega
    rw [hj0] at e1
    rw [hj1] at e2
    cases e1; cases e2
    exact e3
  ·rcases List.mem_append.mp h with h | h
   ·exact h4 ws' h
   ·rw [List.mem_singleton.mp h]; exact ⟨w0, w1, w2⟩
 ·rintro ys H' ⟨s2, as, wss, rfl, h1, h2, h3, h4⟩ l hl
  have h1 : as.length = c := h1
  have h2 : wss.length = c := h2
  have W : Wss wss := ⟨by omega, h4⟩
  have h0 : wss ≠ [] := fun z => by rw [z] at h2; simp at h2; omega
  have z1 := A7.new hl (.lst (as.map V.ref))
  have g1 : (upd H' l (.lst (as.map V.ref))) l = some (.lst (as.map V.ref)) := A8
  generalize upd H' l (.lst (as.map V.ref)) = H1 at *
  have s1 := A7.tr s2 z1
  lk
  refine ⟨l, as, wss, rfl, g1, fun j ad ws e1 e2 => z1 _ _ (h3 j ad ws e1 e2), by omega, by omega, fun ws hws => (h4 ws hws).2, fun d u H2 z2 hD hd => ?_⟩
  have s3 := A7.tr s1 z2
  lk
  refine ⟨rfl, ?_⟩
  lk
  refine P0 (.inl (SqL.of (z2 _ _ g1))) A7.refl' (fun i ys H' => A7 H2 H' /\ ys = B3 ((wss.take i).map lnJ)) ⟨A7.refl', rfl⟩ ?_ (fun i ys H' p => p.1) ?_ ?_
  ·rintro i ys H' hi ⟨_, rfl⟩
   rw [C2, List.length_map, List.length_take]
   exact G1 (by omega)
  ·rintro i y ys H' hy ⟨s4, rfl⟩
   rw [List.getElem?_map] at hy
   obtain ⟨ad, hy2, rfl⟩ := Option.map_eq_some_iff.mp hy
   have hi : i < wss.length := by have := (List.getElem?_eq_some_iff.mp hy2).1; omega
   have hws : wss[i]? = some wss[i] := List.getElem?_eq_getElem hi
   generalize wss[i] = ws at hws
   obtain ⟨w0, w1, w2⟩ := h4 ws (List.mem_of_getElem? hws)
   have g4 : H' ad = some (.lst (B3 ws)) := s4 _ _ (z2 _ _ (z1 _ _ (h3 i ad ws hy2 hws)))
   lk
   refine ⟨rfl, ?_⟩
   lk
   refine ⟨_, ad, ws, rfl, rfl, .inl (SqL.of g4), ?_, ?_⟩
   ·have h5 := wo7 (m := 21) (xs := ws) fun x hx => (w2 x hx).z
    have h6 : ws.length * 21 <= 20 * 21 := Nat.mul_le_mul_right _ w1
    show _ + _ * 1 <= _
    omega
   ·refine ⟨s4, ?_⟩
    rw [List.take_add_one, hws, List.map_append, <- Q5, qw3]; rfl
  ·rintro ys H' ⟨s4, rfl⟩ p hp
   rw [List.length_map, show as.length = wss.length from h1.trans h2.symm, List.take_length]
   have z5 := A7.new hp (.lst (B3 (wss.map lnJ)))
   have g5 : (upd H' p (.lst (B3 (wss.map lnJ)))) p = some (.lst (B3 (wss.map lnJ))) := A8
   generalize upd H' p (.lst (B3 (wss.map lnJ))) = H5 at *
   lk
   refine ⟨_, p, wss.map lnJ, rfl, rfl, .inl (SqL.of g5), ?_, ?_⟩
   ·have h5 := wo7 (m := 1000) (xs := wss.map lnJ) fun x hx => by
     obtain ⟨ws, hws, rfl⟩ := List.mem_map.mp hx
     obtain ⟨a, b, c⟩ := h4 ws hws
     exact yt7 a b c
    rw [List.length_map] at h5 ⊢
    have h6 := W.z
    exact zc7 h5 h6
   ·rw [qw3]
    have s5 := A7.tr s4 z5
    generalize hzz : Str.join ("\n" : Str) (wss.map lnJ) = z
    refine J9 ?_
    show wi4 K D [some (.ref sc), some (.ref nm), some (.int c), some (.int x), some (.ref l), some (.ref u), some (.str z)] H5
    exact lw3 W h0 hzz.symm hD (Dv.same s5 _ _ hd) fun u' H' s' => q _ _ _ H' (A7.tr s3 (A7.tr s5 s'))
end
theorem yn3 {m : Nat} (h : Wrd n x) (l : n <= m) : Wrd m x := ⟨Nat.le_trans h.z l, h.c⟩
theorem zj0 (h : Wrd 20 x) : Wrd 21 (x ++ ("x" : Str)) := ⟨by rw [wi0]; have := h.z; show x.length + 1 <= 21; omega, fun c hc => (xu9 hc).elim (h.c c) fun z => by
 have : c = 120 := by
  have z : c ∈ [120] := z
  simpa using z
 omega⟩
def wc5 (K : Fg) : Sp := fun vs H Q _ => ∃ (a : Addr) (ns : List Int), vs = [.ref a] /\ SqL K H a (ns.map V.int) /\ ns.length <= 63 /\ ∀ H', Q (.bl true) H'
theorem yt8 (K : Fg) : ∀ vs H Q E, wc5 K vs H Q E -> vs.length = ["_law_script"].length := by rintro vs H Q E ⟨a, ns, rfl, _⟩; rfl
def xv7 (K : Fg) : TS :=
 (D8 (J0 (D9 (W8 K) [] E0 (A9 (D9 (N6 K) [] E0 (A9 (B1 0) (A9 (tC (.int 0)) B7))) (A9 (D9 (N6 K) [] E0 (A9 (B1 0) (A9 (tC (.int 1)) B7))) B7))) (C3 1))
 (yt6 K))
theorem zc8 (h : wc5 K vs H Q E) : xv7 K { nx := fun _ H' => Q .non H', rt := Q } (I9 ["_law_script", "_law_names", "_law_count", "_law_start", "_law_lines", "_law_due_here", "_law_text"] vs) H := by
 obtain ⟨a, ns, rfl, ha, hz, q⟩ := h
 show xv7 K _ [some (.ref a), none, none, none, none, none, none] H
 unfold xv7
 lk
 refine ⟨a, ns, 0, rfl, ha, by decide, fun c0 => ?_⟩
 lk
 refine ⟨a, ns, 1, rfl, ha, by decide, fun c1 => ?_⟩
 lk
 refine ⟨c0, c1, rfl, fun t nms H1 s1 e1 l1 w1 => ?_⟩
 lk
 refine P0 (.inl (SqL.of e1)) A7.refl' (fun i ys H' => A7 H1 H' /\ ∃ xs : List Str, ys = B3 xs /\ xs.length = i /\ ∀ x ∈ xs, Wrd 21 x) ⟨A7.refl', [], rfl, rfl, fun x h => nomatch h⟩ ?_ (fun i ys H' p => p.1) ?_ ?_
 ·rintro i ys H' hi ⟨_, xs, rfl, h, _⟩
  rw [C2] at hi ⊢
  exact G1 (by omega)
 ·rintro i x ys H' hx ⟨s2, xs, rfl, h, hw⟩
  obtain ⟨y, hy, rfl⟩ := Q4 hx
  have W := w1 y (List.mem_of_getElem? hy)
  have hyl := W.z
  lk
  refine wz1 (G1 (by show y.length + 1 <= _; omega)) ?_
  lk
  refine ⟨G1 (by z_go), fun p hp => ?_⟩
  have z1 := A7.new hp (.lst [.str y, .str (y ++ ("x" : Str))])
  have g1 : (upd H' p (.lst [.str y, .str (y ++ ("x" : Str))])) p = some (.lst [.str y, .str (y ++ ("x" : Str))]) := A8
  generalize upd H' p (.lst [.str y, .str (y ++ ("x" : Str))]) = H2 at *
  lk
  refine ⟨G1 (by z_go), fun p2 hp2 => ?_⟩
  have z2 := A7.new hp2 (.lst [.str ("shuts" : Str), .str ("bars" : Str)])
  refine .inl (wa2 (.inl (SqL.of A8)) rfl rfl ?_)
  generalize upd H2 p2 (.lst [.str ("shuts" : Str), .str ("bars" : Str)]) = H3 at *
  lk
  refine .inr ⟨_, rfl, ?_⟩
  have fin : ∀ v : Str, Wrd 21 v -> A7 H1 H3 /\ ∃ xs' : List Str, B3 xs ++ [.str v] = B3 xs' /\ xs'.length = i + 1 /\ ∀ x ∈ xs', Wrd 21 x := fun v hv => ⟨A7.tr s2 (A7.tr z1 z2), xs ++ [v], Q5 xs [v], by rw [List.length_append, h]; rfl, fun x hx => (List.mem_append.mp hx).elim (hw x) fun z => by rw [List.mem_singleton.mp z]; exact hv⟩
  cases inV (.str y) [.str ("shuts" : Str), .str ("bars" : Str)] with
  | true => exact M5 (SqL.of (z2 _ _ g1)) (v := .str (y ++ ("x" : Str))) (C5 (j := 1) rfl) (fin _ (zj0 W))
  | false => exact M5 (SqL.of (z2 _ _ g1)) (v := .str y) (C5 (j := 0) rfl) (fin _ (yn3 W (by decide)))
 ·rintro ys H' ⟨s2, xs, rfl, h, hw⟩ p hp
  rw [C2, l1] at h
  have z1 := A7.new hp (.lst (B3 xs))
  have g1 : (upd H' p (.lst (B3 xs))) p = some (.lst (B3 xs)) := A8
  generalize upd H' p (.lst (B3 xs)) = H2 at *
  have s3 := A7.tr s1 (A7.tr s2 z1)
  lk
  refine ⟨a, ns, 2, rfl, s3.sqL ha, by decide, fun c2 => ?_⟩
  lk
  have m0 : 0 <= c2 % 6 := Int.emod_nonneg _ (by decide)
  have m1 : c2 % 6 < 6 := Int.emod_lt_of_pos _ (by decide)
  obtain ⟨c, ec⟩ : ∃ c : Nat, 1 + c2 % 6 = (c : Int) := ⟨(1 + c2 % 6).toNat, by omega⟩
  rw [ec]
  refine yr7 ?_
  lk
  refine R5 (.inl (s3.sqL ha)) ?_
  rw [List.length_map]
  lk
  refine yj3 (by decide) (by decide) (by omega) (by omega) (by omega) (by omega) (fun σ H' => ∃ o3 o4 o5 o6, A7 H2 H' /\ σ = [some (.ref a), some (.ref p), some (.int c), o3, o4, o5, o6]) ⟨_, _, _, _, A7.refl', rfl⟩ ?_ ?_
  ·rintro x σ H' hx1 hx2 ⟨o3, o4, o5, o6, s4, rfl⟩
   refine J9 ?_
   show wi5 K _ [some (.ref a), some (.ref p), some (.int c), some (.int x), o4, o5, o6] H'
   refine lw5 ((A7.tr s3 s4).sqL ha) (s4 _ _ g1) h hw (by omega) (by omega) (by omega) fun o4 o5 o6 H3 s5 => ?_
   exact ⟨_, _, _, _, A7.tr s4 s5, rfl⟩
  ·rintro σ H' ⟨o3, o4, o5, o6, s4, rfl⟩
   lk
   exact q _
theorem yb9 {c : TT} (Pv : St -> Hp -> Prop) (μ : St -> Hp -> Nat) (h0 : Pv σ H) (hs : ∀ σ H, Pv σ H -> c σ H fun b H1 => if b = true then (∃ N : St -> Hp -> Prop, (∀ σ' H', N σ' H' -> ∃ m', m' < μ σ H /\ m' = μ σ' H' /\ Pv σ' H') /\ tb { D with nx := N, ct := N, bk := D.nx } σ H1) else D.nx σ H1) : xl9 c tb D σ H := by
 refine ⟨fun m σ H => m = μ σ H /\ Pv σ H, ⟨_, rfl, h0⟩, ?_⟩
 rintro m σ H ⟨rfl, p⟩
 exact hs σ H p
def oS (o : Option Str) : Str := o.getD ("" : Str)
theorem zc9 (o : Option Str) : (o.map V.str).getD (.str ("" : Str)) = .str (oS o) := by cases o <;> rfl
variable {L : List Str}
theorem zj1 {o : Option Str} (h : ("" : Str) ∉ L) : decide (oS o ∈ L) = inO o L := by
 cases o with
 | none => exact decide_eq_false h
 | some x => rfl
theorem zd0 : ("" : Str) ∉ qa2 := by decide +kernel
theorem zd1 : ("" : Str) ∉ qa9 := by decide +kernel
variable {R : VK} {kvs : List (Key × V)}
theorem xv8 {neg : Bool} {xs : List V} (hx : xs = B3 L) (h0 : ("" : Str) ∉ L) (hp : H p = some (.lst xs)) (hk : T4 kvs (.inr x) = (E8 rs (some x)).map V.str) (q : R (.bl (if neg then !inO (E8 rs (some x)) L else inO (E8 rs (some x)) L)) H) :
 X5 K neg ((T4 kvs (.inr x)).getD (.str ("" : Str))) (.ref p) H R := by
 subst hx
 rw [hk, zc9]
 rw [<- zj1 h0] at q
 cases neg with
 | true => refine .inl (qo9 (xs := B3 L) (.inl (SqL.of hp)) rfl (N4 _) ?_); rw [P6]; exact q
 | false => refine .inl (wa2 (xs := B3 L) (.inl (SqL.of hp)) rfl (N4 _) ?_); rw [P6]; exact q
theorem yt9 (xs : List Str) : PyData.eqv (.tuple (sDa xs)) (.tuple []) = xs.isEmpty := by cases xs <;> rfl
structure Wg (K : Fg) (H : Hp) (a s t d g : Addr) (us : List V) (own rs : List Row) (r : Row) (kvs kvg : List (Key × V)) : Prop where
 a : SqL K H a us
 dv : Dvs K H (rs.map Row.da) us
 s : SqT K H s (B3 r.shuts)
 t : SqT K H t (B3 r.bars)
 d : H d = some (.dK kvs)
 g : H g = some (.dK kvg)
 k : ∀ x, T4 kvs (.inr x) = (E8 own (some x)).map V.str
 kg : ∀ x, T4 kvg (.inr x) = (E7 own (some x)).map V.str
 vg : (kvg.map fun y => y.2) = B3 (G0 own)
variable {own : List Row}
theorem Wg.same {g : Addr} {kvg : List (Key × V)} (h : Wg K H a s t d g us own rs r kvs kvg) (q : A7 H H') : Wg K H' a s t d g us own rs r kvs kvg :=
 ⟨q.sqL h.a, Dvs.same q _ _ h.dv, q.sqT h.s, q.sqT h.t, q _ _ h.d, q _ _ h.g, h.k, h.kg, h.vg⟩
abbrev qx8 (K : Fg) : TS :=
 (qc8 (tBM K "list" S7 (B1 11) (A9 (yd9 (B1 8) (tOp (G5 K) (B1 11) (tUn (rU fun i => .int (-i)) (tC (.int 1))))) B7)))
abbrev qx9 (K : Fg) : TS :=
 (D8 (xl9 (wi7 (D5 (tOp (X5 K false) (tOp (G5 K) (B1 11) (tUn (rU fun i => .int (-i)) (tC (.int 1)))) (B1 8))) (D5 (tOp wk2 (tCB (R8 K) (A9 (B1 11) B7)) (tC (.int 20)))))
 (qx8 K))
 (I0 (tOp (X5 K false) (B1 2) (tSl (wz2 K) (B1 11) (qa6 (tC (.int 1))) P8))))
def iwI (K : Fg) : TS :=
 (D8 (J0 (O9 (A9 (B1 2) B7)) (C3 11))
 (qx9 K))
theorem yn4 (e : E7 own (some x) = none) : ∀ n, chn own n x = [x]
 | 0 => rfl
 | n + 1 => by rw [chn, e]
inductive Wy (H0 : Hp) (own : List Row) (r : Row) (p : Addr) (σ0 : Option V -> St) : St -> Hp -> Prop
 | mk {H' : Hp} {pre : List Str} {x : Str} (s : A7 H0 H') (h : H' p = some (.lst (B3 (pre ++ [x])))) (l : pre.length <= 19) (e : chn own 19 r.name = pre ++ chn own (19 - pre.length) x) : Wy H0 own r p σ0 (σ0 (some (.ref p))) H'
def xk2 (p : Addr) (H : Hp) : Nat := match H p with | some (.lst xs) => 20 - xs.length | _ => 0
theorem xk3 {xs : List V} (h : H p = some (.lst xs)) : xk2 p H = 20 - xs.length := by unfold xk2; rw [h]
variable {m : Addr} {w11 : Option V}
theorem zk7 {g : Addr} {k : Nat} {kvg : List (Key × V)} (W : Wg K H a s t d g us own rs r kvs kvg) (U : qd7 20 r) (hz : rs.length <= 100) (hk : k < rs.length) (q : ∀ (c : Bool) H', A7 H H' -> (c = true ↔ r.name ∈ (chn own 19 r.name).tail) -> D.rt (.bl c) H') : iwI K D [some (.ref a), some (.int k), some (.str r.name), some (.str r.sort), some (.str r.host), some (.ref s), some (.ref t), some (.ref d), some (.ref g), w11, some (.ref m), none] H := by
 unfold iwI
 lk
 refine ⟨G1 (by z_go), fun p hp => ?_⟩
 have s1 := A7.new hp (.lst [.str r.name])
 have e1 : (upd H p (.lst [.str r.name])) p = some (.lst (B3 ([] ++ [r.name]))) := A8
 have done : ∀ {H' : Hp} {ws : List Str}, A7 H H' -> H' p = some (.lst (B3 ws)) -> ws = chn own 19 r.name -> (I0 (tOp (X5 K false) (B1 2) (tSl (wz2 K) (B1 11) (qa6 (tC (.int 1))) P8))) D [some (.ref a), some (.int k), some (.str r.name), some (.str r.sort), some (.str r.host), some (.ref s), some (.ref t), some (.ref d), some (.ref g), w11, some (.ref m), some (.ref p)] H' := by
  intro H' ws s' h' ew
  lk
  refine .inl (qu9 (SqL.of h') fun p1 hp1 => ?_)
  rw [wn1]
  have s2 := A7.new hp1 (.lst (B3 (ws.drop 1)))
  refine .inl (wa2 (xs := B3 (ws.drop 1)) (.inl (SqL.of A8)) rfl (N4 _) ?_)
  rw [P6]
  refine q _ _ (A7.tr s' s2) ?_
  rw [decide_eq_true_eq, ew, List.drop_one]
 lk
 refine yb9 (Wy H own r p fun z => [some (.ref a), some (.int k), some (.str r.name), some (.str r.sort), some (.str r.host), some (.ref s), some (.ref t), some (.ref d), some (.ref g), w11, some (.ref m), z]) (fun _ H' => xk2 p H') (.mk s1 e1 (Nat.zero_le _) rfl) ?_
 rintro σ H' ⟨s', h', hl, ec⟩
 rename_i pre x
 have W' := W.same s'
 have ela := xk3 h'
 rw [C2, List.length_append, List.length_singleton] at ela
 have hat : atI (B3 (pre ++ [x])) (-1) = some (.str x) := yr9 (by rw [C2, List.length_append, List.length_singleton]; omega) (by
  rw [C2, List.length_append, List.length_singleton, Nat.add_sub_cancel]
  unfold B3
  rw [List.getElem?_map, List.getElem?_append_right (Nat.le_refl _), Nat.sub_self]; rfl)
 lk
 refine ⟨1, rfl, ?_⟩
 refine M5 (SqL.of h') (v := .str x) hat ?_
 lk
 refine .inr ⟨g, _, rfl, qq1.k (k := .inr x) W'.g, ?_⟩
 rw [W'.kg x]
 cases hh : E7 own (some x) with
 | none =>
   lk
   exact done s' h' (by rw [ec, yn4 hh])
 | some y =>
   refine ⟨_, rfl, ?_⟩
   x_go
   lk
   refine R5 (.inl (SqL.of h')) ?_
   lk
   rw [C2, List.length_append, List.length_singleton]
   by_cases h19 : pre.length = 19
   ·rw [decide_eq_false (show ¬ ((pre.length + 1 : Nat) : Int) < 20 by omega)]
    k_go
    refine done s' h' ?_
    rw [ec, h19]; rfl
   ·rw [decide_eq_true (show ((pre.length + 1 : Nat) : Int) < 20 by omega)]
    x_go
    refine ⟨fun σ' H2 => Wy H own r p (fun z => [some (.ref a), some (.int k), some (.str r.name), some (.str r.sort), some (.str r.host), some (.ref s), some (.ref t), some (.ref d), some (.ref g), w11, some (.ref m), z]) σ' H2 /\ xk2 p H2 < xk2 p H', fun σ' H2 ⟨u, l⟩ => ⟨_, l, rfl, u⟩, ?_⟩
    lk
    refine ⟨.inl ⟨rfl, _, SqL.of h'⟩, ?_⟩
    lk
    refine ⟨1, rfl, ?_⟩
    refine M5 (SqL.of h') (v := .str x) hat ?_
    refine ⟨g, .str y, rfl, ?_, ?_⟩
    ·have := qq1.k (k := .inr x) W'.g
     rw [W'.kg x, hh] at this; exact this
    lk
    refine S2 h' (by rw [C2, List.length_append, List.length_singleton, sizeLine_eq]; omega) ?_
    rw [yj6]
    lk
    refine ⟨.mk (A7.put s' hp _) A8 (by rw [List.length_append, List.length_singleton]; omega) ?_, ?_⟩
    ·have e19 : 19 - pre.length = (19 - (pre ++ [x]).length) + 1 := by rw [List.length_append, List.length_singleton]; omega
     rw [ec, e19, chn, hh, List.append_assoc]; rfl
    ·rw [xk3 (A8 (H := H')), ela, C2, List.length_append, List.length_append]
     show 20 - (_ + 1 + 1) < 20 - (_ + 1)
     omega
def iwH (K : Fg) : TS :=
 (D8 (M9 (tOr (D5 (tOp (X5 K true) (wj7 (B1 7) (B1 4) (tC (.str ("" : Str)))) (O9 (A9 (tC (.str ("plain" : Str))) (A9 (tC (.str ("frame" : Str))) B7))))) (D5 (tOp (X5 K false) (B1 4) (T3 [none] (qg7 K (tSl (wz2 K) (B1 0) P8 (qa6 (B1 1)))) (C3 0) tTT (tOp (G5 K) (B1 0) (tC (.int 2)))))))
 (I0 (tC (.bl true))) G8)
 (iwI K))
theorem zk8 {g : Addr} {k : Nat} {kvg : List (Key × V)} (W : Wg K H a s t d g us own rs r kvs kvg) (U : qd7 20 r) (hz : rs.length <= 100) (hk : k < rs.length) (q : ∀ (c : Bool) H', A7 H H' -> (c = true ↔ ¬ (inO (E8 own (some r.host)) qa9 = true /\ r.host ∉ (rs.take k).map Row.host /\ r.name ∉ (chn own 19 r.name).tail)) -> D.rt (.bl c) H') : iwH K D [some (.ref a), some (.int k), some (.str r.name), some (.str r.sort), some (.str r.host), some (.ref s), some (.ref t), some (.ref d), some (.ref g), w11, some (.ref m), none] H := by
 have lus : us.length = rs.length := by have := W.dv.length; simpa using this
 unfold iwH
 lk
 unfold wj7
 lk
 refine ⟨d, rfl, .inl ⟨kvs, .inl W.d⟩, ?_⟩
 lk
 refine ⟨_, qq1.k (k := .inr r.host) W.d, ?_⟩
 lk
 refine ⟨G1 (by z_go), fun p hp => ?_⟩
 have s1 := A7.new hp (.lst [.str ("plain" : Str), .str ("frame" : Str)])
 refine xv8 (rs := own) (L := qa9) rfl zd1 A8 (W.k r.host) ?_
 generalize upd H p (.lst [.str ("plain" : Str), .str ("frame" : Str)]) = H1 at *
 have W1 := W.same s1
 lk
 cases e : inO (E8 own (some r.host)) qa9 with
 | false =>
   x_go
   lk
   exact q true _ s1 ⟨fun _ z => (by rw [e] at z; cases z.1), fun _ => rfl⟩
 | true =>
   k_go
   lk
   refine .inl (qu9 W1.a fun p2 hp2 => ?_)
   rw [xa8 (by omega)]
   have s2 := A7.new hp2 (.lst (us.take k))
   have e2 : (upd H1 p2 (.lst (us.take k))) p2 = some (.lst (us.take k)) := A8
   generalize upd H1 p2 (.lst (us.take k)) = H2 at *
   have W2 := W1.same s2
   have hd2 := qv8 W2.dv k
   rw [<- List.map_take] at hd2
   have ltk : (us.take k).length = (rs.take k).length := by have := hd2.length; simpa using this
   refine P0 (.inl (SqL.of e2)) A7.refl' (fun i ys H' => A7 H2 H' /\ ys = B3 (((rs.take k).take i).map Row.host)) ⟨A7.refl', rfl⟩ ?_ (fun i ys H' p => p.1) ?_ ?_
   ·rintro i ys H' hi ⟨_, rfl⟩
    rw [C2, List.length_map, List.length_take, List.length_take]
    exact G1 (by omega)
   ·rintro i x ys H' hx ⟨s3, rfl⟩
    obtain ⟨dd, hd3, hd4⟩ := (Dvs.same s3 _ _ hd2).get' hx
    rw [List.getElem?_map] at hd3
    obtain ⟨r2, hr2, rfl⟩ := Option.map_eq_some_iff.mp hd3
    obtain ⟨b2, s2', t2', rfl, hb2, _, _⟩ := qn5 hd4
    lk
    refine M0 hb2 (v := .str r2.host) (C5 (j := 2) rfl) ?_
    refine ⟨s3, ?_⟩
    rw [List.take_add_one (l := rs.take k), hr2, List.map_append]
    unfold B3
    rw [List.map_append]; rfl
   ·rintro ys H' ⟨s3, rfl⟩ c hc
    rw [ltk, List.take_length]
    have s4 := A7.tr (A7.tr s1 s2) (A7.tr s3 (A7.new hc (.lst (B3 ((rs.take k).map Row.host)))))
    refine .inl (wa2 (xs := B3 ((rs.take k).map Row.host)) (.inl (SqL.of A8)) rfl (N4 _) ?_)
    rw [P6]
    generalize upd H' c (.lst (B3 ((rs.take k).map Row.host))) = H4 at *
    lk
    by_cases hm : r.host ∈ (rs.take k).map Row.host
    ·rw [decide_eq_true hm]
     x_go
     lk
     exact q true _ s4 ⟨fun _ z => z.2.1 hm, fun _ => rfl⟩
    ·rw [decide_eq_false hm]
     k_go
     lk
     exact zk7 (W.same s4) U hz hk fun c H5 s5 hc => q c H5 (A7.tr s4 s5) (hc.trans ⟨fun z w => w.2.2 z, fun z => Classical.byContradiction fun w => z ⟨e, hm, w⟩⟩)
def iwG (K : Fg) : TS :=
 (D8 (M9 (D5 (tOp (qm7 K) (B1 3) (tC (.str ("frame" : Str)))))
 (I0 (tC (.bl false))) G8)
 (iwH K))
theorem zk9 {g : Addr} {k : Nat} {kvg : List (Key × V)} (W : Wg K H a s t d g us own rs r kvs kvg) (U : qd7 20 r) (hz : rs.length <= 100) (hk : k < rs.length) (q : ∀ (c : Bool) H', A7 H H' -> (c = true ↔ ¬ (r.sort = ("frame" : Str) -> inO (E8 own (some r.host)) qa9 = true /\ r.host ∉ (rs.take k).map Row.host /\ r.name ∉ (chn own 19 r.name).tail)) -> D.rt (.bl c) H') : iwG K D [some (.ref a), some (.int k), some (.str r.name), some (.str r.sort), some (.str r.host), some (.ref s), some (.ref t), some (.ref d), some (.ref g), w11, some (.ref m), none] H := by
 unfold iwG
 lk
 by_cases hf : r.sort = ("frame" : Str)
 ·rw [decide_eq_true hf]
  k_go
  lk
  exact zk8 W U hz hk fun c H5 s5 hc => q c H5 s5 (hc.trans ⟨fun z w => z (w hf), fun z w => z fun _ => w⟩)
 ·rw [decide_eq_false hf]
  x_go
  lk
  exact q false _ A7.refl' ⟨fun z => (by cases z), fun z => absurd (fun w => absurd w hf) z⟩
def iwF (K : Fg) : TS :=
 (D8 (M9 (tOr (D5 (tOp (qm7 K) (T3 [some 10, none] (qg7 K (B1 5)) (C3 1) (D5 (tOp (X5 K false) (B1 1) (B1 0))) (B1 1)) (O9 B7))) (wi7 (D5 (tOp (qm7 K) (B1 5) (xm5 B7))) (D5 (tOp (X5 K false) (B1 2) (B1 10)))))
 (I0 (tC (.bl true))) G8)
 (iwG K))
theorem zl0 {g : Addr} {k : Nat} {kvg : List (Key × V)} (W : Wg K H a s t d g us own rs r kvs kvg) (U : qd7 20 r) (hz : rs.length <= 100) (hk : k < rs.length) (hm : H m = some (.lst (B3 (G0 own)))) (q : ∀ (c : Bool) H', A7 H H' -> (c = true ↔ ¬ ((∀ x ∈ r.shuts, x ∉ G0 own) /\ ¬ (r.shuts ≠ [] /\ r.name ∈ G0 own) /\ ((r.sort = ("frame" : Str) -> inO (E8 own (some r.host)) qa9 = true /\ r.host ∉ (rs.take k).map Row.host /\ r.name ∉ (chn own 19 r.name).tail)))) -> D.rt (.bl c) H') : iwF K D [some (.ref a), some (.int k), some (.str r.name), some (.str r.sort), some (.str r.host), some (.ref s), some (.ref t), some (.ref d), some (.ref g), w11, some (.ref m), none] H := by
 have hla := U.la
 unfold iwF
 lk
 refine P0 (.inr W.s) A7.refl' (fun i ys H' => A7 H H' /\ ys = B3 ((r.shuts.take i).filter fun x => decide (x ∈ G0 own))) ⟨A7.refl', rfl⟩ ?_ (fun i ys H' p => p.1) ?_ ?_
 ·rintro i ys H' hi ⟨_, rfl⟩
  have := List.length_filter_le (fun x => decide (x ∈ G0 own)) (r.shuts.take i)
  rw [List.length_take] at this
  rw [C2]
  exact G1 (by omega)
 ·rintro i x ys H' hx ⟨s2, rfl⟩
  obtain ⟨x, hx', rfl⟩ := Q4 hx
  have et : r.shuts.take (i + 1) = r.shuts.take i ++ [x] := by rw [List.take_add_one, hx']; rfl
  lk
  refine .inl (wa2 (xs := B3 (G0 own)) (.inl (SqL.of (s2 _ _ hm))) rfl (N4 _) ?_)
  rw [P6]
  lk
  by_cases e : x ∈ G0 own
  ·rw [decide_eq_true e]
   x_go
   lk
   refine ⟨s2, ?_⟩
   rw [et, List.filter_append]
   simp [e, B3]
  ·rw [decide_eq_false e]
   k_go
   refine ⟨s2, ?_⟩
   rw [et, List.filter_append]
   simp [e]
 ·rintro ys H2 ⟨s2, rfl⟩ c hc
  rw [C2, List.take_length]
  have s3 := A7.tr s2 (A7.new hc (.lst (B3 (r.shuts.filter fun x => decide (x ∈ G0 own)))))
  have e3 : (upd H2 c (.lst (B3 (r.shuts.filter fun x => decide (x ∈ G0 own))))) c = some (.lst (B3 (r.shuts.filter fun x => decide (x ∈ G0 own)))) := A8
  generalize upd H2 c (.lst (B3 (r.shuts.filter fun x => decide (x ∈ G0 own)))) = H3 at *
  lk
  refine ⟨G1 (by z_go), fun p hp => ?_⟩
  have s4 := A7.new hp (.lst [])
  refine yv8 (ds := sDa (r.shuts.filter fun x => decide (x ∈ G0 own))) (M8.mpr ⟨c, _, rfl, SqL.of (s4 _ _ e3), T9.mpr rfl⟩) A8 ?_
  generalize upd H3 p (.lst []) = H4 at *
  have s04 := A7.tr s3 s4
  have W4 := W.same s04
  lk
  cases e : (sDa (r.shuts.filter fun x => decide (x ∈ G0 own))).isEmpty with
  | false =>
    x_go
    lk
    refine q true _ s04 ⟨fun _ z => ?_, fun _ => rfl⟩
    have : (r.shuts.filter fun x => decide (x ∈ G0 own)) = [] := List.filter_eq_nil_iff.mpr fun x hx => by simp [z.1 x hx]
    rw [this] at e; cases e
  | true =>
    k_go
    have h1 : ∀ x ∈ r.shuts, x ∉ G0 own := by
     unfold sDa at e
     rw [List.isEmpty_iff, List.map_eq_nil_iff, List.filter_eq_nil_iff] at e
     intro x hx hm; exact e x hx (decide_eq_true hm)
    lk
    refine ⟨G1 (by z_go), fun p5 hp5 => ?_⟩
    have s5 := A7.tr s04 (A7.new hp5 (.tup []))
    refine xg0 (d := .tuple (sDa r.shuts)) (e := .tuple []) (L7.mpr ⟨s, _, rfl, (A7.new hp5 (.tup [])).sqT W4.s, T9.mpr rfl⟩) (L7.mpr ⟨p5, [], rfl, SqT.of A8, G7⟩) (Nat.le_trans (Nat.min_le_right _ _) (by decide)) ?_
    rw [yt9]
    generalize upd H4 p5 (.tup []) = H5 at *
    have W5 := W.same s5
    have fin : ∀ {H6 : Hp}, A7 H H6 -> ¬ (r.shuts ≠ [] /\ r.name ∈ G0 own) -> iwG K D [some (.ref a), some (.int k), some (.str r.name), some (.str r.sort), some (.str r.host), some (.ref s), some (.ref t), some (.ref d), some (.ref g), w11, some (.ref m), none] H6 := fun s6 h2 => zk9 (W.same s6) U hz hk fun c H7 s7 hc => q c H7 (A7.tr s6 s7) (hc.trans ⟨fun z w => z w.2.2, fun z w => z ⟨h1, h2, w⟩⟩)
    lk
    cases e5 : r.shuts.isEmpty with
    | true =>
      k_go
      lk
      exact fin s5 fun z => z.1 (List.isEmpty_iff.mp e5)
    | false =>
      x_go
      have hne : r.shuts ≠ [] := fun z => by rw [z] at e5; cases e5
      lk
      refine .inl (wa2 (xs := B3 (G0 own)) (.inl (SqL.of (s5 _ _ hm))) rfl (N4 _) ?_)
      rw [P6]
      lk
      by_cases hmm : r.name ∈ G0 own
      ·rw [decide_eq_true hmm]
       x_go
       lk
       exact q true _ s5 ⟨fun _ z => z.2.1 ⟨hne, hmm⟩, fun _ => rfl⟩
      ·rw [decide_eq_false hmm]
       k_go
       lk
       exact fin s5 fun z => hmm z.2
def iwD (K : Fg) : TS :=
 (D8 (M9 (D5 (tOp (qm7 K) (T3 [some 7, none] (qg7 K (tOp (xt0 K) (B1 5) (B1 6))) (C3 1) (D5 (tOp (X5 K true) (wj7 (B1 0) (B1 1) (tC (.str ("" : Str)))) (O9 (A9 (tC (.str ("plain" : Str))) (A9 (tC (.str ("anew" : Str))) B7))))) (B1 1)) (O9 B7)))
 (I0 (tC (.bl true))) G8)
 (iwF K))
theorem zl1 {g : Addr} {k : Nat} {kvg : List (Key × V)} (W : Wg K H a s t d g us own rs r kvs kvg) (U : qd7 20 r) (hz : rs.length <= 100) (hk : k < rs.length) (hm : H m = some (.lst (B3 (G0 own)))) (q : ∀ (c : Bool) H', A7 H H' -> (c = true ↔ ¬ ((∀ x ∈ r.shuts ++ r.bars, inO (E8 own (some x)) qa2 = true) /\ ((∀ x ∈ r.shuts, x ∉ G0 own) /\ ¬ (r.shuts ≠ [] /\ r.name ∈ G0 own) /\ ((r.sort = ("frame" : Str) -> inO (E8 own (some r.host)) qa9 = true /\ r.host ∉ (rs.take k).map Row.host /\ r.name ∉ (chn own 19 r.name).tail))))) -> D.rt (.bl c) H') : iwD K D [some (.ref a), some (.int k), some (.str r.name), some (.str r.sort), some (.str r.host), some (.ref s), some (.ref t), some (.ref d), some (.ref g), w11, some (.ref m), none] H := by
 have hla := U.la
 have hlb := U.lb
 unfold iwD
 lk
 refine yg3 W.s W.t (G1 (by rw [C2, C2]; omega)) fun p H1 s1 e1 => ?_
 rw [Q5] at e1
 obtain ⟨L, eL⟩ : ∃ L, L = r.shuts ++ r.bars := ⟨_, rfl⟩
 rw [<- eL] at e1
 have lL : L.length <= 40 := by rw [eL, List.length_append]; omega
 refine P0 (.inr e1) A7.refl' (fun i ys H' => A7 H1 H' /\ ys = B3 ((L.take i).filter fun x => !inO (E8 own (some x)) qa2)) ⟨A7.refl', rfl⟩ ?_ (fun i ys H' p => p.1) ?_ ?_
 ·rintro i ys H' hi ⟨_, rfl⟩
  have := List.length_filter_le (fun x => !inO (E8 own (some x)) qa2) (L.take i)
  rw [List.length_take] at this
  rw [C2]
  exact G1 (by omega)
 ·rintro i x ys H' hx ⟨s2, rfl⟩
  obtain ⟨x, hx', rfl⟩ := Q4 hx
  have W2 := W.same (A7.tr s1 s2)
  have et : L.take (i + 1) = L.take i ++ [x] := by rw [List.take_add_one, hx']; rfl
  lk
  unfold wj7
  lk
  refine ⟨d, rfl, .inl ⟨kvs, .inl W2.d⟩, ?_⟩
  lk
  refine ⟨_, qq1.k (k := .inr x) W2.d, ?_⟩
  lk
  refine ⟨G1 (by z_go), fun p3 hp3 => ?_⟩
  have s3 := A7.new hp3 (.lst [.str ("plain" : Str), .str ("anew" : Str)])
  refine xv8 (rs := own) (L := qa2) rfl zd0 A8 (W2.k x) ?_
  generalize upd H' p3 (.lst [.str ("plain" : Str), .str ("anew" : Str)]) = H3 at *
  lk
  cases e : inO (E8 own (some x)) qa2 with
  | false =>
    x_go
    lk
    refine ⟨A7.tr s2 s3, ?_⟩
    rw [et, List.filter_append]
    simp [e, B3]
  | true =>
    k_go
    refine ⟨A7.tr s2 s3, ?_⟩
    rw [et, List.filter_append]
    simp [e]
 ·rintro ys H2 ⟨s2, rfl⟩ c hc
  rw [C2, List.take_length]
  obtain ⟨B, eB⟩ : ∃ B, B = L.filter fun x => !inO (E8 own (some x)) qa2 := ⟨_, rfl⟩
  rw [<- eB]
  have s3 := A7.tr s1 (A7.tr s2 (A7.new hc (.lst (B3 B))))
  have e3 : (upd H2 c (.lst (B3 B))) c = some (.lst (B3 B)) := A8
  generalize upd H2 c (.lst (B3 B)) = H3 at *
  lk
  refine ⟨G1 (by z_go), fun p hp => ?_⟩
  have s4 := A7.new hp (.lst [])
  refine yv8 (ds := sDa B) (M8.mpr ⟨c, _, rfl, SqL.of (s4 _ _ e3), T9.mpr rfl⟩) A8 ?_
  generalize upd H3 p (.lst []) = H4 at *
  have s04 := A7.tr s3 s4
  have hm4 := s04 _ _ hm
  lk
  cases hB : B with
  | nil =>
    k_go
    have all : ∀ x ∈ r.shuts ++ r.bars, inO (E8 own (some x)) qa2 = true := fun x hx => by
     rw [<- eL] at hx
     cases e : inO (E8 own (some x)) qa2 with
     | true => rfl
     | false =>
       have : x ∈ B := by rw [eB]; exact List.mem_filter.mpr ⟨hx, by rw [e]; rfl⟩
       rw [hB] at this; cases this
    show iwF K D [some (.ref a), some (.int k), some (.str r.name), some (.str r.sort), some (.str r.host), some (.ref s), some (.ref t), some (.ref d), some (.ref g), w11, some (.ref m), none] H4
    exact zl0 (W.same s04) U hz hk hm4 fun c H7 s7 hc => q c H7 (A7.tr s04 s7) (hc.trans ⟨fun z w => z w.2, fun z w => z ⟨all, w⟩⟩)
  | cons y B' =>
    x_go
    lk
    refine q true _ s04 ⟨fun _ z => ?_, fun _ => rfl⟩
    have hy : y ∈ B := by rw [hB]; exact List.mem_cons_self
    rw [eB] at hy
    obtain ⟨h1, h2⟩ := List.mem_filter.mp hy
    rw [eL] at h1
    rw [z.1 y h1] at h2; cases h2
def iwB (K : Fg) : TS :=
 (D8 (M9 (tOr (D5 (tOp (X5 K false) (B1 2) (T3 [none] (qg7 K (tSl (wz2 K) (B1 0) P8 (qa6 (B1 1)))) (C3 0) tTT (tOp (G5 K) (B1 0) (tC (.int 0)))))) (tOr (D5 (tOp wk2 (tCB yh8 (A9 (tCB (xp1 K) (A9 (B1 5) B7)) B7)) (tCB (R8 K) (A9 (B1 5) B7)))) (D5 (tOp wk2 (tCB yh8 (A9 (tCB (xp1 K) (A9 (B1 6) B7)) B7)) (tCB (R8 K) (A9 (B1 6) B7))))))
 (I0 (tC (.bl true))) G8)
 (iwD K))
theorem zl2 {g : Addr} {k : Nat} {kvg : List (Key × V)} (W : Wg K H a s t d g us own rs r kvs kvg) (U : qd7 20 r) (hz : rs.length <= 100) (hk : k < rs.length) (hm : H m = some (.lst (B3 (G0 own)))) (q : ∀ (c : Bool) H', A7 H H' -> (c = true ↔ ¬ (r.name ∉ (rs.take k).map Row.name /\ r.shuts.Nodup /\ r.bars.Nodup /\ ((∀ x ∈ r.shuts ++ r.bars, inO (E8 own (some x)) qa2 = true) /\ ((∀ x ∈ r.shuts, x ∉ G0 own) /\ ¬ (r.shuts ≠ [] /\ r.name ∈ G0 own) /\ ((r.sort = ("frame" : Str) -> inO (E8 own (some r.host)) qa9 = true /\ r.host ∉ (rs.take k).map Row.host /\ r.name ∉ (chn own 19 r.name).tail)))))) -> D.rt (.bl c) H') : iwB K D [some (.ref a), some (.int k), some (.str r.name), some (.str r.sort), some (.str r.host), some (.ref s), some (.ref t), some (.ref d), some (.ref g), w11, some (.ref m), none] H := by
 have lus : us.length = rs.length := by have := W.dv.length; simpa using this
 have hla := U.la
 have hlb := U.lb
 have h1 := wh4 r.shuts
 have h2 := wh4 r.bars
 have big : ∀ {xs : List Str}, ¬ xs.Nodup -> (((dis xs).length : Nat) : Int) < (xs.length : Nat) := fun {xs} hn => by
  have h := wh4 xs
  rcases Nat.lt_or_eq_of_le h.1 with g | g
  ·omega
  ·exact absurd (h.2.mp g) hn
 unfold iwB
 lk
 refine .inl (qu9 W.a fun p2 hp2 => ?_)
 rw [xa8 (by omega)]
 have s2 := A7.new hp2 (.lst (us.take k))
 have e2 : (upd H p2 (.lst (us.take k))) p2 = some (.lst (us.take k)) := A8
 generalize upd H p2 (.lst (us.take k)) = H2 at *
 have W2 := W.same s2
 have hd2 := qv8 W2.dv k
 rw [<- List.map_take] at hd2
 have ltk : (us.take k).length = (rs.take k).length := by have := hd2.length; simpa using this
 refine P0 (.inl (SqL.of e2)) A7.refl' (fun i ys H' => A7 H2 H' /\ ys = B3 (((rs.take k).take i).map Row.name)) ⟨A7.refl', rfl⟩ ?_ (fun i ys H' p => p.1) ?_ ?_
 ·rintro i ys H' hi ⟨_, rfl⟩
  rw [C2, List.length_map, List.length_take, List.length_take]
  exact G1 (by omega)
 ·rintro i x ys H' hx ⟨s3, rfl⟩
  obtain ⟨dd, hd3, hd4⟩ := (Dvs.same s3 _ _ hd2).get' hx
  rw [List.getElem?_map] at hd3
  obtain ⟨r2, hr2, rfl⟩ := Option.map_eq_some_iff.mp hd3
  obtain ⟨b2, s2', t2', rfl, hb2, _, _⟩ := qn5 hd4
  lk
  refine M0 hb2 (v := .str r2.name) (C5 (j := 0) rfl) ?_
  refine ⟨s3, ?_⟩
  rw [List.take_add_one (l := rs.take k), hr2, List.map_append]
  unfold B3
  rw [List.map_append]; rfl
 ·rintro ys H' ⟨s3, rfl⟩ c hc
  rw [ltk, List.take_length]
  have s4 := A7.tr s2 (A7.tr s3 (A7.new hc (.lst (B3 ((rs.take k).map Row.name)))))
  refine .inl (wa2 (xs := B3 ((rs.take k).map Row.name)) (.inl (SqL.of A8)) rfl (N4 _) ?_)
  rw [P6]
  generalize upd H' c (.lst (B3 ((rs.take k).map Row.name))) = H4 at *
  lk
  by_cases hmm : r.name ∈ (rs.take k).map Row.name
  ·rw [decide_eq_true hmm]
   x_go
   lk
   exact q true _ s4 ⟨fun _ z => z.1 hmm, fun _ => rfl⟩
  ·rw [decide_eq_false hmm]
   k_go
   have W4 := W.same s4
   lk
   refine ⟨s, r.shuts, rfl, W4.s, by omega, fun p hp => ?_⟩
   have z1 := A7.new hp (SzO p (dis r.shuts).length)
   lk
   refine ⟨p, _, rfl, A8, by omega, ?_⟩
   generalize upd H4 p (SzO p (dis r.shuts).length) = H5 at *
   have s5 := A7.tr s4 z1
   have W5 := W.same s5
   lk
   refine R5 (.inr W5.s) ?_
   rw [C2]
   lk
   by_cases hn : r.shuts.Nodup
   ·rw [decide_eq_false (show ¬ (((dis r.shuts).length : Nat) : Int) < (r.shuts.length : Nat) by have := h1.2.mpr hn; omega)]
    k_go
    lk
    refine ⟨t, r.bars, rfl, W5.t, by omega, fun p2 hp2 => ?_⟩
    have z2 := A7.new hp2 (SzO p2 (dis r.bars).length)
    lk
    refine ⟨p2, _, rfl, A8, by omega, ?_⟩
    generalize upd H5 p2 (SzO p2 (dis r.bars).length) = H6 at *
    have s6 := A7.tr s5 z2
    have W6 := W.same s6
    lk
    refine R5 (.inr W6.t) ?_
    rw [C2]
    lk
    by_cases hb : r.bars.Nodup
    ·rw [decide_eq_false (show ¬ (((dis r.bars).length : Nat) : Int) < (r.bars.length : Nat) by have := h2.2.mpr hb; omega)]
     k_go
     show iwD K D [some (.ref a), some (.int k), some (.str r.name), some (.str r.sort), some (.str r.host), some (.ref s), some (.ref t), some (.ref d), some (.ref g), w11, some (.ref m), none] H6
     exact zl1 W6 U hz hk (s6 _ _ hm) fun c H7 s7 hc => q c H7 (A7.tr s6 s7) (hc.trans ⟨fun z w => z w.2.2.2, fun z w => z ⟨hmm, hn, hb, w⟩⟩)
    ·rw [decide_eq_true (big hb)]
     x_go
     lk
     exact q true _ s6 ⟨fun _ z => hb z.2.2.1, fun _ => rfl⟩
   ·rw [decide_eq_true (big hn)]
    x_go
    lk
    exact q true _ s5 ⟨fun _ z => hn z.2.1, fun _ => rfl⟩
theorem xd8 (h : x ∉ rs.map (·.name)) : rs.find? (fun r => decide (some r.name = some x)) = none := by
 rw [List.find?_eq_none]
 intro r hr
 have : r.name ≠ x := fun e => h (e ▸ List.mem_map_of_mem hr)
 simp [this]
theorem wp5 (h : r.name ∉ l.map (·.name)) (x : Str) : O2 (l ++ [r]) (some x) = if x = r.name then some r else O2 l (some x) := by
 unfold O2
 rw [List.find?_append]
 by_cases e : x = r.name
 ·subst e
  rw [xd8 h, if_pos rfl]
  simp
 ·rw [if_neg e]
  have : [r].find? (fun r => decide (some r.name = some x)) = none := by simp [Ne.symm e]
  rw [this, Option.or_none]
theorem xk4 (h : r.name ∉ l.map (·.name)) (x : Str) : E8 (l ++ [r]) (some x) = if x = r.name then some r.sort else E8 l (some x) := by
 unfold E8
 rw [wp5 h]
 split <;> rfl
theorem xk5 (h : r.name ∉ l.map (·.name)) (x : Str) : E7 (l ++ [r]) (some x) = if x = r.name then (if r.sort = ("frame" : Str) then some r.host else none) else E7 l (some x) := by
 unfold E7
 rw [wp5 h]
 split <;> rfl
theorem yu0 {k : Nat} : OkP own rs k r ↔ (r.name ∉ (rs.take k).map Row.name /\ r.shuts.Nodup /\ r.bars.Nodup /\ ((∀ x ∈ r.shuts ++ r.bars, inO (E8 own (some x)) qa2 = true) /\ ((∀ x ∈ r.shuts, x ∉ G0 own) /\ ¬ (r.shuts ≠ [] /\ r.name ∈ G0 own) /\ ((r.sort = ("frame" : Str) -> inO (E8 own (some r.host)) qa9 = true /\ r.host ∉ (rs.take k).map Row.host /\ r.name ∉ (chn own 19 r.name).tail))))) := by
 constructor
 ·intro h; exact ⟨h.n, h.a, h.b, h.c, h.d, h.e, h.f⟩
 ·rintro ⟨n, a, b, c, d, e, f⟩; exact ⟨n, a, b, c, d, e, f⟩
theorem qu0 {l : List (Key × V)} {k : Key} (h : k ∉ l.map (·.1)) : qm2 l k v = l ++ [(k, v)] := by
 unfold qm2
 rw [if_neg]
 rw [List.any_eq_true]
 rintro ⟨p, hp, e⟩
 exact h (by rw [<- of_decide_eq_true e]; exact List.mem_map_of_mem hp)
theorem xk6 {l : List (Key × V)} {k : Key} (h : k ∉ l.map (·.1)) (j : Key) : T4 (l ++ [(k, v)]) j = if j = k then some v else T4 l j := by
 rw [<- qu0 h, yd7]
theorem ww8 (h : (own.map Row.name).Nodup) (x : Str) : T4 (own.map fun r => ((Sum.inr r.name : Key), V.str r.sort)) (.inr x) = (E8 own (some x)).map V.str := by
 induction e : own.length generalizing own with
 | zero => rw [List.eq_nil_of_length_eq_zero e]; rfl
 | succ n ih =>
   rcases List.eq_nil_or_concat own with rfl | ⟨l', r, rfl⟩
   ·rfl
   ·rw [List.concat_eq_append] at *
    rw [List.map_append, List.nodup_append] at h
    have hn : r.name ∉ l'.map Row.name := fun hm => h.2.2 _ hm _ (by simp) rfl
    have hn2 : (Sum.inr r.name : Key) ∉ (l'.map fun r => ((Sum.inr r.name : Key), V.str r.sort)).map (·.1) := fun hm => by
     rw [List.map_map] at hm
     obtain ⟨r2, h2, e2⟩ := List.mem_map.mp hm
     have e2 : (Sum.inr r2.name : Key) = Sum.inr r.name := e2
     have := Sum.inr.inj e2
     exact hn (by rw [<- this]; exact List.mem_map_of_mem h2)
    rw [List.map_append, xk4 hn]
    show T4 (_ ++ [(Sum.inr r.name, V.str r.sort)]) _ = _
    rw [xk6 hn2, ih h.1 (by simpa using e)]
    by_cases ex : x = r.name
    ·rw [if_pos (by rw [ex]), if_pos ex]; rfl
    ·rw [if_neg (fun z => ex (Sum.inr.inj z)), if_neg ex]
theorem yc0 (h : (own.map Row.name).Nodup) (x : Str) : T4 ((own.filter fun r => decide (r.sort = ("frame" : Str))).map fun r => ((Sum.inr r.name : Key), V.str r.host)) (.inr x) = (E7 own (some x)).map V.str := by
 induction e : own.length generalizing own with
 | zero => rw [List.eq_nil_of_length_eq_zero e]; rfl
 | succ n ih =>
   rcases List.eq_nil_or_concat own with rfl | ⟨l', r, rfl⟩
   ·rfl
   ·rw [List.concat_eq_append] at *
    rw [List.map_append, List.nodup_append] at h
    have hn : r.name ∉ l'.map Row.name := fun hm => h.2.2 _ hm _ (by simp) rfl
    have i := ih h.1 (by simpa using e)
    rw [xk5 hn, List.filter_append]
    by_cases hf : r.sort = ("frame" : Str)
    ·have hn2 : (Sum.inr r.name : Key) ∉ ((l'.filter fun r => decide (r.sort = ("frame" : Str))).map fun r => ((Sum.inr r.name : Key), V.str r.host)).map (·.1) := fun hm => by
      rw [List.map_map] at hm
      obtain ⟨r2, h2, e2⟩ := List.mem_map.mp hm
      have e2 : (Sum.inr r2.name : Key) = Sum.inr r.name := e2
      have := Sum.inr.inj e2
      exact hn (by rw [<- this]; exact List.mem_map_of_mem (List.mem_filter.mp h2).1)
     have ef : [r].filter (fun r => decide (r.sort = ("frame" : Str))) = [r] := by rw [List.filter_cons, if_pos (decide_eq_true hf)]; rfl
     rw [ef, List.map_append]
     show T4 (_ ++ [(Sum.inr r.name, V.str r.host)]) _ = _
     rw [xk6 hn2, i, if_pos hf]
     by_cases ex : x = r.name
     ·rw [if_pos (by rw [ex]), if_pos ex]; rfl
     ·rw [if_neg (fun z => ex (Sum.inr.inj z)), if_neg ex]
    ·have ef : [r].filter (fun r => decide (r.sort = ("frame" : Str))) = [] := by rw [List.filter_cons, if_neg (by rw [decide_eq_false hf]; exact Bool.false_ne_true)]; rfl
     rw [ef, List.append_nil, i, if_neg hf]
     by_cases ex : x = r.name
     ·rw [if_pos ex]
      have : E7 l' (some x) = none := by
       unfold E7
       have : O2 l' (some x) = none := N7.mpr (by rw [ex]; exact hn)
       rw [this]; rfl
      rw [this]
     ·rw [if_neg ex]
def iwV (K : Fg) : TS :=
 (D8 (J0 (tCB yi6 (A9 (yx8 K "dict" xt5 (B1 8)) B7)) (C3 10))
 (iwB K))
theorem zl3 {g : Addr} {k : Nat} {kvg : List (Key × V)} (W : Wg K H a s t d g us own rs r kvs kvg) (U : qd7 20 r) (hz : rs.length <= 100) (hk : k < rs.length) (q : ∀ (c : Bool) H', A7 H H' -> (c = true ↔ ¬ (r.name ∉ (rs.take k).map Row.name /\ r.shuts.Nodup /\ r.bars.Nodup /\ ((∀ x ∈ r.shuts ++ r.bars, inO (E8 own (some x)) qa2 = true) /\ ((∀ x ∈ r.shuts, x ∉ G0 own) /\ ¬ (r.shuts ≠ [] /\ r.name ∈ G0 own) /\ ((r.sort = ("frame" : Str) -> inO (E8 own (some r.host)) qa9 = true /\ r.host ∉ (rs.take k).map Row.host /\ r.name ∉ (chn own 19 r.name).tail)))))) -> D.rt (.bl c) H') : iwV K D [some (.ref a), some (.int k), some (.str r.name), some (.str r.sort), some (.str r.host), some (.ref s), some (.ref t), some (.ref d), some (.ref g), w11, none, none] H := by
 unfold iwV
 lk
 refine ⟨za4 W.g, ?_⟩
 refine ⟨g, kvg, rfl, rfl, W.g, fun v hv => ?_⟩
 have s1 := A7.new hv (VwO v g)
 have e1 : (upd H v (VwO v g)) v = some (VwO v g) := A8
 generalize upd H v (VwO v g) = H1 at *
 have W1 := W.same s1
 lk
 refine ⟨v, g, kvg, rfl, e1, W1.g, fun l hl => ?_⟩
 rw [W.vg]
 have s2 := A7.tr s1 (A7.new hl (.lst (B3 (G0 own))))
 lk
 exact zl2 (W.same s2) U hz hk A8 fun c H7 s7 hc => q c H7 (A7.tr s2 s7) hc
def kS (own : List Row) : List (Key × V) := own.map fun r => ((Sum.inr r.name : Key), V.str r.sort)
def kH (own : List Row) : List (Key × V) := (own.filter fun r => decide (r.sort = ("frame" : Str))).map fun r => ((Sum.inr r.name : Key), V.str r.host)
theorem zd2 (h : x ∉ own.map Row.name) : (Sum.inr x : Key) ∉ (kS own).map (·.1) := fun z => by
 unfold kS at z
 rw [List.map_map] at z
 obtain ⟨r, hr, e⟩ := List.mem_map.mp z
 exact h (List.mem_map.mpr ⟨r, hr, Sum.inr.inj e⟩)
theorem zd3 (h : x ∉ own.map Row.name) : (Sum.inr x : Key) ∉ (kH own).map (·.1) := fun z => by
 unfold kH at z
 rw [List.map_map] at z
 obtain ⟨r, hr, e⟩ := List.mem_map.mp z
 exact h (List.mem_map.mpr ⟨r, (List.mem_filter.mp hr).1, Sum.inr.inj e⟩)
theorem yc1 (nd : (own.map Row.name).Nodup) : (T4 (kS own) (.inr x)).isSome = decide (x ∈ own.map Row.name) := by
 show (T4 (own.map fun r => ((Sum.inr r.name : Key), V.str r.sort)) (.inr x)).isSome = _
 rw [ww8 nd]
 unfold E8
 cases e : O2 own (some x) with
 | none => rw [decide_eq_false (N7.mp e)]; rfl
 | some r =>
   rw [decide_eq_true (Classical.byContradiction fun h => by rw [N7.mpr h] at e; cases e)]; rfl
inductive Wr6 (H0 : Hp) (a s t d g : Addr) (r : Row) (rs : List Row) (k i : Nat) : St -> Hp -> Prop
 | mk {H' : Hp} {w11 : Option V} (s1 : A7 H0 H') (h : H' d = some (.dK (kS (B6 (rs.take i))))) (hg : H' g = some (.dK (kH (B6 (rs.take i))))) : Wr6 H0 a s t d g r rs k i [some (.ref a), some (.int k), some (.str r.name), some (.str r.sort), some (.str r.host), some (.ref s), some (.ref t), some (.ref d), some (.ref g), w11, none, none] H'
abbrev qy0 (K : Fg) : TS :=
 (J0 (tOp (G5 K) (B1 9) (tC (.int 2))) (yc5 (B1 8) (tOp (G5 K) (B1 9) (tC (.int 0))) xs7))
abbrev qy1 (K : Fg) : TS :=
 (M9 (D5 (tOp (R1 K) (tOp (G5 K) (B1 9) (tC (.int 1))) (tC (.str ("frame" : Str)))))
 (qy0 K) G8)
abbrev qy2 (K : Fg) : TS :=
 (D8 (J0 (tOp (G5 K) (B1 9) (tC (.int 1))) (yc5 (B1 7) (tOp (G5 K) (B1 9) (tC (.int 0))) xs7))
 (qy1 K))
abbrev qy3 (K : Fg) : TS :=
 (M9 (D5 (tOp (X5 K true) (tOp (G5 K) (B1 9) (tC (.int 0))) (B1 7)))
 (qy2 K) G8)
abbrev qs4 (K : Fg) : TS :=
 (D8 (J0 xn1 (C3 8))
 (D8 (ql8 (qg7 K (B1 0)) (C3 9)
 (qy3 K))
 (iwV K)))
theorem qy4 (K : Fg) : ∀ vs H Q E, T2 K vs H Q E -> vs.length = ["_law_rows", "_law_k"].length := by rintro vs H Q E ⟨a, k, us, rs, rfl, _⟩; rfl
def U4 (K : Fg) : TS :=
 (D8 (J0 (tOp (G5 K) (B1 0) (B1 1)) (xl7 K 5 (qc9 (C3 2) (qc9 (C3 3) (qc9 (C3 4) (qc9 (C3 5) (qc9 (C3 6) xl6)))))))
 (D8 (J0 xn1 (C3 7))
 (qs4 K)))
theorem wc6 (h : T2 K vs H Q E) : U4 K { nx := fun _ H' => Q .non H', rt := Q } (I9 ["_law_rows", "_law_k", "_law_name", "_law_sort", "_law_host", "_law_shuts", "_law_bars", "_law_sorts", "_law_hosts", "_law_row_here", "_law_taken", "_law_way"] vs) H := by
 obtain ⟨a, k, us, rs, rfl, ha, hd, hk, hz, hU, q⟩ := h
 have lus : us.length = rs.length := by have := hd.length; simpa using this
 show U4 K _ [some (.ref a), some (.int k), none, none, none, none, none, none, none, none, none, none] H
 unfold U4
 have hku : k < us.length := by omega
 obtain ⟨dd, hd1, hd2⟩ := hd.get' (List.getElem?_eq_getElem hku)
 rw [List.getElem?_map] at hd1
 obtain ⟨r, hr, rfl⟩ := Option.map_eq_some_iff.mp hd1
 obtain ⟨b, s, t, eb, hb, hs, ht⟩ := qn5 hd2
 have Ur := hU r (List.mem_of_getElem? hr)
 lk
 refine M5 ha (v := us[k]) (C5 (List.getElem?_eq_getElem hku)) ?_
 rw [eb]
 refine ⟨b, _, rfl, hb, rfl, _, _, rfl, J9 ⟨_, _, rfl, J9 ⟨_, _, rfl, J9 ⟨_, _, rfl, J9 ⟨_, _, rfl, J9 ⟨rfl, ?_⟩⟩⟩⟩⟩⟩
 lk
 intro d hdn
 have z1 := A7.new hdn (.dK [])
 have e1 : (upd H d (.dK [])) d = some (.dK []) := A8
 generalize upd H d (.dK []) = H1 at *
 lk
 intro g hgn
 have z2 := A7.new hgn (.dK [])
 have e2 : (upd H1 g (.dK [])) g = some (.dK []) := A8
 have ndg : d ≠ g := S9 e1 hgn
 generalize upd H1 g (.dK []) = H2 at *
 have s12 := A7.tr z1 z2
 have hgH : H g = none := qp5 z1 hgn
 lk
 refine xi2 (.inl ha) s12 (Wr6 H a s t d g r rs k) (.mk s12 (z2 _ _ e1) e2) (fun i σ H' p => by cases p with | mk s1 => exact s1) ?_ ?_
 ·rintro i x σ H' hx ⟨s2, h2, g2⟩
  obtain ⟨dd, hd3, hd4⟩ := (Dvs.same s2 _ _ hd).get' hx
  rw [List.getElem?_map] at hd3
  obtain ⟨r2, hr2, rfl⟩ := Option.map_eq_some_iff.mp hd3
  obtain ⟨b2, s2', t2', rfl, hb2, _, _⟩ := qn5 hd4
  have et : rs.take (i + 1) = rs.take i ++ [r2] := by rw [List.take_add_one, hr2]; rfl
  have hfl := T7 (rs.take i)
  rw [List.length_take] at hfl
  have nd := (wd7 (rs.take i)).1
  lk
  refine M0 hb2 (v := .str r2.name) (C5 (j := 0) rfl) ?_
  lk
  refine .inr ⟨d, _, rfl, qq1.k (k := .inr r2.name) h2, ?_⟩
  rw [if_pos rfl, yc1 nd]
  refine ⟨_, rfl, ?_⟩
  by_cases hm : r2.name ∈ (B6 (rs.take i)).map Row.name
  ·rw [decide_eq_true hm]
   k_go
   lk
   refine .mk s2 ?_ ?_
   ·rw [et, N3, if_neg fun z => N7.mp z hm]; exact h2
   ·rw [et, N3, if_neg fun z => N7.mp z hm]; exact g2
  ·rw [decide_eq_false hm]
   x_go
   have eo : B6 (rs.take (i + 1)) = B6 (rs.take i) ++ [r2] := by rw [et, N3, if_pos (N7.mpr hm)]
   lk
   refine M0 hb2 (v := .str r2.sort) (C5 (j := 1) rfl) ?_
   lk
   refine M0 hb2 (v := .str r2.name) (C5 (j := 0) rfl) ?_
   refine .inr ⟨d, _, rfl, xx7.k (k := .inr r2.name) h2 (by rw [sizeLine_eq]; unfold kS; rw [List.length_map]; omega), ?_⟩
   rw [qu0 (zd2 hm)]
   have s3 : A7 H (upd H' d (.dK (kS (B6 (rs.take i)) ++ [((Sum.inr r2.name : Key), V.str r2.sort)]))) := A7.put s2 hdn _
   have h3 : (upd H' d (.dK (kS (B6 (rs.take i)) ++ [((Sum.inr r2.name : Key), V.str r2.sort)]))) d = some (.dK (kS (B6 (rs.take (i + 1))))) := by rw [A8, eo]; unfold kS; rw [List.map_append]; rfl
   have g3 : (upd H' d (.dK (kS (B6 (rs.take i)) ++ [((Sum.inr r2.name : Key), V.str r2.sort)]))) g = some (.dK (kH (B6 (rs.take i)))) := by rw [C4 (Ne.symm ndg)]; exact g2
   generalize upd H' d (.dK (kS (B6 (rs.take i)) ++ [((Sum.inr r2.name : Key), V.str r2.sort)])) = H3 at *
   obtain ⟨dd3, hd5, hd6⟩ := (Dvs.same s3 _ _ hd).get' hx
   rw [List.getElem?_map, hr2] at hd5
   cases hd5
   obtain ⟨b3', s3', t3', eb3, b3, _, _⟩ := qn5 hd6
   cases eb3
   lk
   refine M0 b3 (v := .str r2.sort) (C5 (j := 1) rfl) ?_
   lk
   by_cases hf : r2.sort = ("frame" : Str)
   ·rw [decide_eq_true hf]
    x_go
    lk
    refine M0 b3 (v := .str r2.host) (C5 (j := 2) rfl) ?_
    lk
    refine M0 b3 (v := .str r2.name) (C5 (j := 0) rfl) ?_
    have hlf := List.length_filter_le (fun r : Row => decide (r.sort = ("frame" : Str))) (B6 (rs.take i))
    refine .inr ⟨g, _, rfl, xx7.k (k := .inr r2.name) g3 (by rw [sizeLine_eq]; unfold kH; rw [List.length_map]; omega), ?_⟩
    rw [qu0 (zd3 hm)]
    refine .mk (A7.put s3 hgH _) (by rw [C4 ndg]; exact h3) ?_
    rw [A8, eo]
    unfold kH
    rw [List.filter_append, List.map_append]
    simp [hf]
   ·rw [decide_eq_false hf]
    k_go
    lk
    refine .mk s3 h3 ?_
    rw [g3, eo]
    unfold kH
    rw [List.filter_append, List.map_append]
    simp [hf]
 ·rintro σ H' ⟨s2, h2, g2⟩
  rename_i w11
  rw [lus, List.take_length] at h2 g2
  have nd := (wd7 rs).1
  show iwV K _ [some (.ref a), some (.int k), some (.str r.name), some (.str r.sort), some (.str r.host), some (.ref s), some (.ref t), some (.ref d), some (.ref g), w11, none, none] H'
  refine zl3 (own := B6 rs) (kvs := kS (B6 rs)) (kvg := kH (B6 rs)) ⟨s2.sqL ha, Dvs.same s2 _ _ hd, s2.sqT hs, s2.sqT ht, h2, g2, ww8 nd, yc0 nd, ?_⟩ Ur hz hk fun c H7 s7 hc => q c H7 r (A7.tr s2 s7) hr (hc.trans (not_congr yu0.symm))
  unfold kH G0 B3
  rw [List.map_map, List.map_map]; rfl
variable {P q : Program} {mg : Str -> Option Value}
section
open PyProof.Rows
set_option maxHeartbeats 0
def top (i : Nat) : Stmt := PySem.Challenge.pw_tagmend_k06_whole_rows_of_words.main.body.getD i (.Pass ⟨0, 0, 0, 0⟩)
def yw0 (s : Stmt) (j : Nat) : Stmt := match s with
 | .ClassDef _ _ _ b _ _ _ _ _ _ _ => b.getD j (.Pass ⟨0, 0, 0, 0⟩)
 | _ => .Pass ⟨0, 0, 0, 0⟩
abbrev wc7 : Stmt := top 12
abbrev O8 : Stmt := top 13
abbrev qg2 : Stmt := top 14
abbrev qs5 : Stmt := top 15
abbrev qp9 : Stmt := top 16
abbrev wp6 : Stmt := top 17
abbrev wc8 : Stmt := top 18
abbrev wc9 : Stmt := top 19
abbrev qs6 : Stmt := top 20
abbrev qd9 : Stmt := top 21
abbrev qk5 : Stmt := top 22
abbrev xq8 : Stmt := top 23
abbrev qn8 : Stmt := top 24
abbrev qk6 : Stmt := top 25
abbrev qg3 : Stmt := top 26
abbrev qs7 : Stmt := top 27
abbrev X2 : Stmt := top 28
abbrev qn9 : Stmt := top 34
abbrev qo0 : Stmt := top 35
abbrev qs8 : Stmt := top 36
abbrev qe0 : Stmt := top 37
abbrev qo1 : Stmt := top 38
abbrev qg4 : Stmt := top 39
abbrev qs9 : Stmt := top 40
abbrev xd9 : Stmt := top 41
abbrev qe1 : Stmt := top 43
abbrev qt0 : Stmt := top 44
abbrev qo2 : Stmt := top 45
abbrev Y9 : Stmt := top 46
abbrev U5 : Stmt := top 47
abbrev X3 : Stmt := top 48
abbrev qt1 : Stmt := top 49
abbrev N9 : Stmt := top 50
abbrev Y2 : Stmt := top 51
abbrev qo3 : Stmt := top 52
abbrev qy5 : Stmt := top 53
abbrev qt2 : Stmt := yw0 (top 32) 0
abbrev qt3 : Stmt := yw0 (top 31) 0
set_option genInjectivity false in
structure Fa where
 a : Addr
 d : FuncData
structure Fok (K : Fg) (mg : Str -> Option Value) (x : Str) (st : Stmt) (ps : List Str) (f : Fa) : Prop where
 F : Fun K x x st f.a f.d
 b : qq6 K f.d ps []
 m : mg x = some (.ref f.a)
set_option genInjectivity false in
structure Adr where
 f_is_name : Fa
 f_has_letters_of_name : Fa
 f_is_rising : Fa
 f_has_form : Fa
 f_is_book : Fa
 f_row_of : Fa
 f_sort_of : Fa
 f_host_of : Fa
 f_frame_of : Fa
 f_first_misfit : Fa
 f_first_rows : Fa
 f_fits : Fa
 f_host_fits : Fa
 f_comes_back : Fa
 f_shuts_fit : Fa
 f_bars_fit : Fa
 f_may_be_named : Fa
 f_read_book : Fa
 f_read_rows : Fa
 f_read_row : Fa
 f_names_behind : Fa
 f_words_for : Fa
 f_show_book : Fa
 f_show_row : Fa
 f_keyed : Fa
 f__law_cell_at : Fa
 f__law_pot : Fa
 f__law_take : Fa
 f__law_family : Fa
 f__law_words_of : Fa
 f__law_is_name : Fa
 f__law_row : Fa
 f__law_is_wrong : Fa
 f__law_due : Fa
 f__law_told : Fa
 f_law : Fa
 a_i_NoBook : Addr
 d_i_NoBook : FuncData
 a_i_NoText : Addr
 d_i_NoText : FuncData
 c_SORTS : Addr
 c_HOST_SORTS : Addr
 c_SHUT_OR_BARRED_SORTS : Addr
 c_KEYWORDS : Addr
 v_LONGEST_NAME : Value
 v_MOST_ROWS : Value
 v_NAME : Value
 v_SORT : Value
 v_HOST : Value
 v_SHUTS : Value
 v_BARS : Value
 k_NoBook : Addr
 k_NoText : Addr
 k_TagError : Addr
structure Txt (K : Fg) (mg : Str -> Option Value) (t : Adr) : Prop where
 f_is_name : Fok K mg "is_name" wc7 ["word"] t.f_is_name
 f_has_letters_of_name : Fok K mg "has_letters_of_name" O8 ["word"] t.f_has_letters_of_name
 f_is_rising : Fok K mg "is_rising" qg2 ["names"] t.f_is_rising
 f_has_form : Fok K mg "has_form" qs5 ["row"] t.f_has_form
 f_is_book : Fok K mg "is_book" qp9 ["rows"] t.f_is_book
 f_row_of : Fok K mg "row_of" wp6 ["rows", "name"] t.f_row_of
 f_sort_of : Fok K mg "sort_of" wc8 ["book", "name"] t.f_sort_of
 f_host_of : Fok K mg "host_of" wc9 ["book", "name"] t.f_host_of
 f_frame_of : Fok K mg "frame_of" qs6 ["book", "name"] t.f_frame_of
 f_first_misfit : Fok K mg "first_misfit" qd9 ["rows"] t.f_first_misfit
 f_first_rows : Fok K mg "first_rows" qk5 ["rows"] t.f_first_rows
 f_fits : Fok K mg "fits" xq8 ["rows", "row"] t.f_fits
 f_host_fits : Fok K mg "host_fits" qn8 ["rows", "row"] t.f_host_fits
 f_comes_back : Fok K mg "comes_back" qk6 ["rows", "name"] t.f_comes_back
 f_shuts_fit : Fok K mg "shuts_fit" qg3 ["rows", "row"] t.f_shuts_fit
 f_bars_fit : Fok K mg "bars_fit" qs7 ["rows", "row"] t.f_bars_fit
 f_may_be_named : Fok K mg "may_be_named" X2 ["rows", "names"] t.f_may_be_named
 f_read_book : Fok K mg "read_book" qn9 ["text"] t.f_read_book
 f_read_rows : Fok K mg "read_rows" qo0 ["text"] t.f_read_rows
 f_read_row : Fok K mg "read_row" qs8 ["words"] t.f_read_row
 f_names_behind : Fok K mg "names_behind" qe0 ["keyword", "words"] t.f_names_behind
 f_words_for : Fok K mg "words_for" qo1 ["names"] t.f_words_for
 f_show_book : Fok K mg "show_book" qg4 ["book"] t.f_show_book
 f_show_row : Fok K mg "show_row" qs9 ["row"] t.f_show_row
 f_keyed : Fok K mg "keyed" xd9 ["keyword", "names"] t.f_keyed
 f__law_cell_at : Fok K mg "_law_cell_at" qe1 ["_law_script", "_law_k"] t.f__law_cell_at
 f__law_pot : Fok K mg "_law_pot" qt0 ["_law_cell"] t.f__law_pot
 f__law_take : Fok K mg "_law_take" qo2 ["_law_pot_here", "_law_most"] t.f__law_take
 f__law_family : Fok K mg "_law_family" Y9 ["_law_cell", "_law_where"] t.f__law_family
 f__law_words_of : Fok K mg "_law_words_of" U5 ["_law_names", "_law_cell"] t.f__law_words_of
 f__law_is_name : Fok K mg "_law_is_name" X3 ["_law_word"] t.f__law_is_name
 f__law_row : Fok K mg "_law_row" qt1 ["_law_found"] t.f__law_row
 f__law_is_wrong : Fok K mg "_law_is_wrong" N9 ["_law_rows", "_law_k"] t.f__law_is_wrong
 f__law_due : Fok K mg "_law_due" Y2 ["_law_lines"] t.f__law_due
 f__law_told : Fok K mg "_law_told" qo3 ["_law_text"] t.f__law_told
 f_law : Fok K mg "law" qy5 ["_law_script"] t.f_law
 F_i_NoBook : Fun K "__init__" "NoBook.__init__" qt2 t.a_i_NoBook t.d_i_NoBook
 b_i_NoBook : qq6 K t.d_i_NoBook ["self", "row"] []
 m_i_NoBook : InI K mg "NoBook" t.k_NoBook t.a_i_NoBook
 F_i_NoText : Fun K "__init__" "NoText.__init__" qt3 t.a_i_NoText t.d_i_NoText
 b_i_NoText : qq6 K t.d_i_NoText ["self", "row"] []
 m_i_NoText : InI K mg "NoText" t.k_NoText t.a_i_NoText
 g_SORTS : mg "SORTS" = some (.ref t.c_SORTS)
 q_SORTS : ∀ H : Hp, SqT K H t.c_SORTS [.str ("bare" : Str), .str ("plain" : Str), .str ("anew" : Str), .str ("room" : Str), .str ("frame" : Str)]
 g_HOST_SORTS : mg "HOST_SORTS" = some (.ref t.c_HOST_SORTS)
 q_HOST_SORTS : ∀ H : Hp, SqT K H t.c_HOST_SORTS [.str ("plain" : Str), .str ("frame" : Str)]
 g_SHUT_OR_BARRED_SORTS : mg "SHUT_OR_BARRED_SORTS" = some (.ref t.c_SHUT_OR_BARRED_SORTS)
 q_SHUT_OR_BARRED_SORTS : ∀ H : Hp, SqT K H t.c_SHUT_OR_BARRED_SORTS [.str ("plain" : Str), .str ("anew" : Str)]
 g_KEYWORDS : mg "KEYWORDS" = some (.ref t.c_KEYWORDS)
 q_KEYWORDS : ∀ H : Hp, SqT K H t.c_KEYWORDS [.str ("shuts" : Str), .str ("bars" : Str)]
 g_LONGEST_NAME : mg "LONGEST_NAME" = some t.v_LONGEST_NAME /\ G2 (.int 8) t.v_LONGEST_NAME
 g_MOST_ROWS : mg "MOST_ROWS" = some t.v_MOST_ROWS /\ G2 (.int 12) t.v_MOST_ROWS
 g_NAME : mg "NAME" = some t.v_NAME /\ G2 (.int 0) t.v_NAME
 g_SORT : mg "SORT" = some t.v_SORT /\ G2 (.int 1) t.v_SORT
 g_HOST : mg "HOST" = some t.v_HOST /\ G2 (.int 2) t.v_HOST
 g_SHUTS : mg "SHUTS" = some t.v_SHUTS /\ G2 (.int 3) t.v_SHUTS
 g_BARS : mg "BARS" = some t.v_BARS /\ G2 (.int 4) t.v_BARS
 z_all : mg "all" = none
 z_enumerate : mg "enumerate" = none
 z_int : mg "int" = none
 z_isinstance : mg "isinstance" = none
 z_len : mg "len" = none
 z_list : mg "list" = none
 z_max : mg "max" = none
 z_min : mg "min" = none
 z_range : mg "range" = none
 z_set : mg "set" = none
 z_sorted : mg "sorted" = none
 z_str : mg "str" = none
 z_tuple : mg "tuple" = none
 z_zip : mg "zip" = none
 n_NoBook : mg "NoBook" = some (.ref t.k_NoBook)
 n_NoText : mg "NoText" = some (.ref t.k_NoText)
 n_TagError : mg "TagError" = some (.ref t.k_TagError)
 er : Ers K t.k_NoBook t.k_NoText t.k_TagError
 y_NoBook_TagError : PySem.W.exmOne K (.ref t.k_NoBook) (.ref t.k_TagError) = some true
 y_NoText_TagError : PySem.W.exmOne K (.ref t.k_NoText) (.ref t.k_TagError) = some true
 se_NoBook : SeI K t.k_NoBook "row"
 ei_NoBook : ExI K t.k_NoBook "row"
 se_NoText : SeI K t.k_NoText "row"
 ei_NoText : ExI K t.k_NoText "row"
 ba_TagError : BaI K mg "TagError" t.k_TagError
section
variable {w : World} {base : Heap} {t : Adr}
theorem wp7 : E4 ["word"] ["word"] (B8 wc7) := by walk_at "k"
theorem X4 : E4 ["word"] ["word"] (B8 O8) := by walk_at "k"
theorem qy6 : E4 ["names"] ["names"] (B8 qg2) := by walk_at "k"
theorem wd8 : E4 ["row"] ["row"] (B8 qs5) := by walk_at "k"
theorem wp8 : E4 ["rows"] ["rows"] (B8 qp9) := by walk_at "k"
theorem ww9 : E4 ["rows", "name", "row"] ["rows", "name"] (B8 wp6) := by walk_at "k"
theorem wp9 : E4 ["book", "name", "row"] ["book", "name"] (B8 wc8) := by walk_at "k"
theorem wq0 : E4 ["book", "name", "row"] ["book", "name"] (B8 wc9) := by walk_at "k"
theorem wd9 : E4 ["book", "name", "row"] ["book", "name"] (B8 qs6) := by walk_at "k"
theorem qk9 : E4 ["rows", "counted", "number", "row", "told_before"] ["rows"] (B8 qd9) := by walk_at "k"
theorem qr1 : E4 ["rows", "counted", "row"] ["rows"] (B8 qk5) := by walk_at "k"
theorem xv9 : E4 ["rows", "row"] ["rows", "row"] (B8 xq8) := by walk_at "k"
theorem qy7 : E4 ["rows", "row"] ["rows", "row"] (B8 qn8) := by walk_at "k"
theorem qr2 : E4 ["rows", "name", "host", "step"] ["rows", "name"] (B8 qk6) := by walk_at "k"
theorem qy8 : E4 ["rows", "row", "hosts"] ["rows", "row"] (B8 qg3) := by walk_at "k"
theorem we0 : E4 ["rows", "row"] ["rows", "row"] (B8 qs7) := by walk_at "k"
theorem ql0 : E4 ["rows", "names"] ["rows", "names"] (B8 X2) := by walk_at "k"
theorem qc6 : E4 ["text", "rows", "misfit"] ["text"] (B8 qn9) := by walk_at "k"
theorem qc7 : E4 ["text", "rows", "number", "line", "row"] ["text"] (B8 qo0) := by walk_at "k"
theorem we1 : E4 ["words", "host", "start", "shuts", "bars"] ["words"] (B8 qs8) := by walk_at "k"
theorem ql1 : E4 ["keyword", "words", "names", "word"] ["keyword", "words"] (B8 qe0) := by walk_at "k"
theorem qy9 : E4 ["names"] ["names"] (B8 qo1) := by walk_at "k"
theorem qz0 : E4 ["book"] ["book"] (B8 qg4) := by walk_at "k"
theorem we2 : E4 ["row", "words"] ["row"] (B8 qs9) := by walk_at "k"
theorem xk7 : E4 ["keyword", "names"] ["keyword", "names"] (B8 xd9) := by walk_at "k"
theorem ql2 : E4 ["_law_script", "_law_k"] ["_law_script", "_law_k"] (B8 qe1) := by walk_at "k"
theorem we3 : E4 ["_law_cell", "_law_number", "_law_j", "_law_more"] ["_law_cell"] (B8 qt0) := by walk_at "k"
theorem qz1 : E4 ["_law_pot_here", "_law_most", "_law_number"] ["_law_pot_here", "_law_most"] (B8 qo2) := by walk_at "k"
theorem qo4 : E4 ["_law_cell", "_law_where", "_law_letters", "_law_pot_here", "_law_base", "_law_k", "_law_there", "_law_at_first"] ["_law_cell", "_law_where"] (B8 Y9) := by walk_at "k"
theorem qh8 : E4 ["_law_names", "_law_cell", "_law_pot_here", "_law_sorts", "_law_found", "_law_head", "_law_k", "_law_some"] ["_law_names", "_law_cell"] (B8 U5) := by walk_at "k"
theorem ql3 : E4 ["_law_word"] ["_law_word"] (B8 X3) := by walk_at "k"
theorem we4 : E4 ["_law_found", "_law_state", "_law_host", "_law_heaps", "_law_word"] ["_law_found"] (B8 qt1) := by walk_at "k"
theorem qh9 : E4 ["_law_rows", "_law_k", "_law_name", "_law_sort", "_law_host", "_law_shuts", "_law_bars", "_law_sorts", "_law_hosts", "_law_row_here", "_law_taken", "_law_way"] ["_law_rows", "_law_k"] (B8 N9) := by walk_at "k"
theorem we5 : E4 ["_law_lines", "_law_rows", "_law_wrong"] ["_law_lines"] (B8 Y2) := by walk_at "k"
theorem qz2 : E4 ["_law_text", "_law_error", "_law_found", "e"] ["_law_text"] (B8 qo3) := by walk_at "k"
theorem yn5 : E4 ["_law_script", "_law_names", "_law_count", "_law_start", "_law_lines", "_law_due_here", "_law_text"] ["_law_script"] (B8 qy5) := by walk_at "k"
theorem we6 : E4 ["self", "row"] ["self", "row"] (B8 qt2) := by walk_at "k"
theorem we7 : E4 ["self", "row"] ["self", "row"] (B8 qt3) := by walk_at "k"
theorem qk7 (T : Txt K mg t) : N5 P w K mg base CX0 1 t.f_has_letters_of_name.a t.f_has_letters_of_name.d ["word"] (O1 K) := by
 refine T.f_has_letters_of_name.F.ok X4 (qh5 K) (fun cdv A outer s H vs Q E hr h => ⟨O7 K, ?_, qj0 h⟩)
 have S := X4
 refine B4 ?_
 refine C7 ?_
 exact (qz4 (xf0 wy4 wy4 B5 (D6 G9 rfl T.z_len boot_len (A6 (pv 0) B0)) (E3 rfl T.g_LONGEST_NAME.1 T.g_LONGEST_NAME.2)) (wi9 (D6 (qp0 rfl) rfl T.z_all boot_all (A6 (P9 rfl (G6 (osc := B8 O8) (ON := ["word"]) (N := ["sign"]) (fr := [none]) (by decide +kernel) rfl rfl) (xs8 (pv 0)) (fun _ _ _ _ _ _ => (E1 (i := 0) (show List.Nodup (["sign"] : List Str) by decide +kernel) rfl (Or.inl rfl))) O5 (fun _ _ _ _ _ _ => R7) (fun _ _ _ _ _ _ => (xf0 wy4 wy4 D4 (pv 0) D4))) B0))))
theorem xe0 (T : Txt K mg t) : N5 P w K mg base CX0 1 t.f_is_rising.a t.f_is_rising.d ["names"] (qb4 K) := by
 refine T.f_is_rising.F.ok qy6 (wr5 K) (fun cdv A outer s H vs Q E hr h => ⟨qe6 K, ?_, xa1 h⟩)
 have S := qy6
 refine B4 ?_
 refine C7 ?_
 exact (D6 (qp0 rfl) rfl T.z_all boot_all (A6 (P9 rfl (G6 (osc := B8 qg2) (ON := ["names"]) (N := ["left", "right"]) (fr := [none, none]) (by decide +kernel) rfl rfl) (za7 rfl T.z_zip (A6 (pv 0) (A6 (Q1 qp1 (pv 0) (S6 B5) S5) B0))) (fun _ _ _ _ _ _ => (wj1 rfl (Q0 (E1 (i := 0) (show List.Nodup (["left", "right"] : List Str) by decide +kernel) rfl (Or.inl rfl)) (Q0 (E1 (i := 1) (show List.Nodup (["left", "right"] : List Str) by decide +kernel) rfl (Or.inl rfl)) qt5)))) (yy8 (xr8 rfl (xr8 rfl yy7))) (fun _ _ _ _ _ _ => R7) (fun _ _ _ _ _ _ => (T8 qm8 (pv 0) (pv 1) (C8 _)))) B0))
theorem qq0 (T : Txt K mg t) : N5 P w K mg base CX0 1 t.f_row_of.a t.f_row_of.d ["rows", "name"] (V3 K) := by
 refine T.f_row_of.F.ok ww9 (xp3 K) (fun cdv A outer s H vs Q E hr h => ⟨qv5 K, ?_, ya8 h⟩)
 have S := ww9
 refine B2 ?_ ?_
 ·refine V0 PassesOwn.never rfl ?_ ?_ ?_
  ·exact (Q8 (pv 0))
  ·exact (E1 (i := 2) S.nd rfl (Or.inl rfl))
  ·refine B4 ?_
   refine G4 ?_ ?_ ?_
   ·exact (C0 (M7 (R0 hr)) (D7 (B9 (C6 hr)) (pv 2) (E3 rfl T.g_NAME.1 T.g_NAME.2) (fun _ _ => rfl)) (pv 1) (C8 _))
   ·refine B4 ?_
    exact (C7 (pv 2))
   ·exact D0
 refine B4 ?_
 exact (C7 M6)
theorem qo5 (T : Txt K mg t) : N5 P w K mg base CX0 1 t.f_frame_of.a t.f_frame_of.d ["book", "name"] (V4 K) := by
 refine T.f_frame_of.F.ok wd9 (wz6 K) (fun cdv A outer s H vs Q E hr h => ⟨qs0 K, ?_, xh7 h⟩)
 have S := wd9
 refine B2 ?_ ?_
 ·refine V0 PassesOwn.never rfl ?_ ?_ ?_
  ·exact (Q8 (pv 0))
  ·exact (E1 (i := 2) S.nd rfl (Or.inl rfl))
  ·refine B4 ?_
   refine G4 ?_ ?_ ?_
   ·exact (PW.pt (qi0 (C0 (M7 (R0 hr)) (D7 (B9 (C6 hr)) (pv 2) (E3 rfl T.g_SORT.1 T.g_SORT.2) (fun _ _ => rfl)) D4 (C8 _)) (qb1 (C0 (M7 (R0 hr)) (D7 (B9 (C6 hr)) (pv 2) (E3 rfl T.g_HOST.1 T.g_HOST.2) (fun _ _ => rfl)) (pv 1) (C8 _)))))
   ·refine B4 ?_
    exact (C7 (D7 (B9 (C6 hr)) (pv 2) (E3 rfl T.g_NAME.1 T.g_NAME.2) (fun _ _ => rfl)))
   ·exact D0
 refine B4 ?_
 exact (C7 M6)
theorem qz3 (T : Txt K mg t) : N5 P w K mg base CX0 1 t.f_words_for.a t.f_words_for.d ["names"] (V9 K) := by
 refine T.f_words_for.F.ok qy9 (ws6 K) (fun cdv A outer s H vs Q E hr h => ⟨qf1 K, ?_, xb0 h⟩)
 have S := qy9
 refine B4 ?_
 exact (C7 (qh1 (C0 (M7 (R0 hr)) (D6 G9 rfl T.z_len boot_len (A6 (pv 0) B0)) B5 (C8 _)) B5 (L9 L8 B5 (D6 G9 rfl T.z_len boot_len (A6 (pv 0) B0)))))
theorem xk8 (T : Txt K mg t) : N5 P w K mg base CX0 1 t.f_keyed.a t.f_keyed.d ["keyword", "names"] (qn6 K) := by
 refine T.f_keyed.F.ok xk7 (yb2 K) (fun cdv A outer s H vs Q E hr h => ⟨wh9 K, ?_, yl3 h⟩)
 have S := xk7
 refine B4 ?_
 exact (C7 (qh1 (C0 (M7 (R0 hr)) (D6 G9 rfl T.z_len boot_len (A6 (pv 1) B0)) B5 (C8 _)) (E9 B0) (L9 L8 (E9 (A6 (pv 0) B0)) (D6 qi8 rfl T.z_sorted boot_sorted (A6 (pv 1) B0)))))
theorem U6 (T : Txt K mg t) : N5 P w K mg base CX0 1 t.f__law_cell_at.a t.f__law_cell_at.d ["_law_script", "_law_k"] (N6 K) := by
 refine T.f__law_cell_at.F.ok ql2 (wa8 K) (fun cdv A outer s H vs Q E hr h => ⟨V6 K, ?_, wf5 h⟩)
 have S := ql2
 refine B2 ?_ ?_
 ·refine G4 ?_ ?_ ?_
  ·exact (C0 qm8 (pv 1) (D6 G9 rfl T.z_len boot_len (A6 (pv 0) B0)) (C8 _))
  ·refine B4 ?_
   exact (C7 (D7 (B9 (C6 hr)) (pv 0) (pv 1) (fun _ _ => rfl)))
  ·exact D0
 refine B4 ?_
 exact (C7 B5)
theorem we8 (T : Txt K mg t) : N5 P w K mg base CX0 1 t.f__law_pot.a t.f__law_pot.d ["_law_cell"] (qa1 K) := by
 refine T.f__law_pot.F.ok we3 (wz7 K) (fun cdv A outer s H vs Q E hr h => ⟨qi9 K, ?_, xh8 h⟩)
 have S := we3
 refine B2 ?_ ?_
 ·refine G4 ?_ ?_ ?_
  ·exact (C0 (M7 (R0 hr)) (L9 qm0 (pv 0) B5) B5 (C8 _))
  ·refine B4 ?_
   exact (C7 (E9 (A6 (L9 wx4 (pv 0) B5) B0)))
  ·exact D0
 refine B2 ?_ ?_
 ·refine C9 (i := 1) S.nd rfl (Or.inl rfl) ?_ rfl ?_
  ·exact B5
  ·walk_at "or"
 refine B2 ?_ ?_
 ·refine V0 PassesOwn.never rfl ?_ ?_ ?_
  ·exact (V2 rfl T.z_range (A6 B5 B0))
  ·exact (E1 (i := 2) S.nd rfl (Or.inl rfl))
  ·refine B2 ?_ ?_
   ·refine C9 (i := 3) S.nd rfl (Or.inl rfl) ?_ rfl ?_
    ·exact (L9 qm0 (L9 qu5 (L9 L8 (L9 L8 (L9 qm0 (L9 wx4 (pv 0) B5) B5) (L9 qu5 B5 (pv 2))) B5) B5) B5)
    ·walk_at "or"
   refine B2 ?_ ?_
   ·refine C9 (i := 3) S.nd rfl (Or.inl rfl) ?_ rfl ?_
    ·exact (L9 qm0 (L9 L8 (L9 L8 (L9 qu5 (pv 3) (pv 3)) (L9 qu5 B5 (pv 2))) B5) B5)
    ·walk_at "or"
   refine B4 ?_
   refine C9 (i := 1) S.nd rfl (Or.inl rfl) ?_ rfl ?_
   ·exact (L9 L8 (L9 qu5 (pv 1) B5) (pv 3))
   ·walk_at "or"
 refine B4 ?_
 exact (C7 (E9 (A6 (pv 1) B0)))
theorem M4 (T : Txt K mg t) : N5 P w K mg base CX0 1 t.f__law_take.a t.f__law_take.d ["_law_pot_here", "_law_most"] (L6 K) := by
 refine T.f__law_take.F.ok qz1 (wr2 K) (fun cdv A outer s H vs Q E hr h => ⟨qe5 K, ?_, wz8 h⟩)
 have S := qz1
 refine B2 ?_ ?_
 ·refine C9 (i := 2) S.nd rfl (Or.inl rfl) ?_ rfl ?_
  ·exact (L9 qm0 (D7 (B9 (C6 hr)) (pv 0) B5 (fun _ _ => rfl)) (pv 1))
  ·walk_at "or"
 refine B2 ?_ ?_
 ·exact (wx2 (L9 wx4 (D7 (B9 (C6 hr)) (pv 0) B5 (fun _ _ => rfl)) (pv 1)) (xl8 (pv 0) B5 (wk5 (C6 hr))))
 refine B4 ?_
 exact (C7 (pv 2))
theorem U7 (T : Txt K mg t) : N5 P w K mg base CX0 1 t.f__law_is_name.a t.f__law_is_name.d ["_law_word"] (N8 K) := by
 refine T.f__law_is_name.F.ok ql3 (wc0 K) (fun cdv A outer s H vs Q E hr h => ⟨W7 K, ?_, wg4 h⟩)
 have S := ql3
 refine B2 ?_ ?_
 ·refine G4 ?_ ?_ ?_
  ·exact (PW.pt (Z9 (C0 (X6 (C6 hr)) (pv 0) (E9 (A6 D4 (A6 D4 (A6 D4 B0)))) (by with_unfolding_all rfl)) (U9 (C0 wy5 (D6 G9 rfl T.z_len boot_len (A6 (pv 0) B0)) B5 (C8 _)))))
  ·refine B4 ?_
   exact (C7 Z0)
  ·exact D0
 refine B4 ?_
 exact (C7 (T8 (M7 (R0 hr)) (P9 rfl (G6 (osc := B8 X3) (ON := ["_law_word"]) (N := ["_law_sign"]) (fr := [none]) (by decide +kernel) rfl rfl) (xs8 (pv 0)) (fun _ _ _ _ _ _ => (E1 (i := 0) (show List.Nodup (["_law_sign"] : List Str) by decide +kernel) rfl (Or.inl rfl))) O5 (fun _ _ _ _ _ _ => (qu2 (C0 (S8 (C6 hr)) (pv 0) D4 (by with_unfolding_all rfl)))) (fun _ _ _ _ _ _ => (pv 0))) (E9 B0) (C8 _)))
theorem wd0 (T : Txt K mg t) : N5 P w K mg base CX0 1 t.f__law_is_wrong.a t.f__law_is_wrong.d ["_law_rows", "_law_k"] (T2 K) := by
 refine T.f__law_is_wrong.F.ok qh9 (qy4 K) (fun cdv A outer s H vs Q E hr h => ⟨U4 K, ?_, wc6 h⟩)
 have S := qh9
 refine B2 ?_ ?_
 ·exact (wx2 (D7 (B9 (C6 hr)) (pv 0) (pv 1) (fun _ _ => rfl)) (wj1 rfl (Q0 (E1 (i := 2) S.nd rfl (Or.inl rfl)) (Q0 (E1 (i := 3) S.nd rfl (Or.inl rfl)) (Q0 (E1 (i := 4) S.nd rfl (Or.inl rfl)) (Q0 (E1 (i := 5) S.nd rfl (Or.inl rfl)) (Q0 (E1 (i := 6) S.nd rfl (Or.inl rfl)) qt5)))))))
 refine B2 ?_ ?_
 ·refine C9 (i := 7) S.nd rfl (Or.inr rfl) ?_ rfl ?_
  ·exact xf4
  ·walk_at "or"
 refine B2 ?_ ?_
 ·refine C9 (i := 8) S.nd rfl (Or.inl rfl) ?_ rfl ?_
  ·exact xf4
  ·walk_at "or"
 refine B2 ?_ ?_
 ·refine V0 PassesOwn.never rfl ?_ ?_ ?_
  ·exact (Q8 (pv 0))
  ·exact (E1 (i := 9) S.nd rfl (Or.inl rfl))
  ·refine B4 ?_
   refine G4 ?_ ?_ ?_
   ·exact (C0 (S8 (C6 hr)) (D7 (B9 (C6 hr)) (pv 9) B5 (fun _ _ => rfl)) (pv 7) (by with_unfolding_all rfl))
   ·refine B2 ?_ ?_
    ·exact (wx2 (D7 (B9 (C6 hr)) (pv 9) B5 (fun _ _ => rfl)) (xl8 (pv 7) (D7 (B9 (C6 hr)) (pv 9) B5 (fun _ _ => rfl)) (wk5 (C6 hr))))
    refine B4 ?_
    refine G4 ?_ ?_ ?_
    ·exact (C0 (M7 (R0 hr)) (D7 (B9 (C6 hr)) (pv 9) B5 (fun _ _ => rfl)) D4 (C8 _))
    ·refine B4 ?_
     exact (wx2 (D7 (B9 (C6 hr)) (pv 9) B5 (fun _ _ => rfl)) (xl8 (pv 8) (D7 (B9 (C6 hr)) (pv 9) B5 (fun _ _ => rfl)) (wk5 (C6 hr))))
    ·exact D0
   ·exact D0
 refine B2 ?_ ?_
 ·refine C9 (i := 10) S.nd rfl (Or.inr rfl) ?_ rfl ?_
  ·exact (N0 (wm3 rfl) rfl T.z_list boot_list (A6 (yx9 PySem.F.plainAttrs_dict PySem.F.slot_dict_values PySem.F.type_dict_values ya5 (pv 8)) B0))
  ·walk_at "or"
 refine B2 ?_ ?_
 ·refine G4 ?_ ?_ ?_
  ·exact (PW.pt (Z9 (C0 (X6 (C6 hr)) (pv 2) (P9 rfl (G6 (osc := B8 N9) (ON := ["_law_rows", "_law_k", "_law_name", "_law_sort", "_law_host", "_law_shuts", "_law_bars", "_law_sorts", "_law_hosts", "_law_row_here", "_law_taken", "_law_way"]) (N := ["_law_row_here"]) (fr := [none]) (by decide +kernel) rfl rfl) (Q8 (Q1 qp1 (pv 0) S5 (S6 (pv 1)))) (fun _ _ _ _ _ _ => (E1 (i := 0) (show List.Nodup (["_law_row_here"] : List Str) by decide +kernel) rfl (Or.inl rfl))) O5 (fun _ _ _ _ _ _ => R7) (fun _ _ _ _ _ _ => (D7 (B9 (C6 hr)) (pv 0) B5 (fun _ _ => rfl)))) (by with_unfolding_all rfl)) (Z9 (C0 qm8 (D6 ww0 rfl T.z_len boot_len (A6 (N0 (ww3 rfl) rfl T.z_set boot_set (A6 (pv 5) B0)) B0)) (D6 G9 rfl T.z_len boot_len (A6 (pv 5) B0)) (C8 _)) (U9 (C0 qm8 (D6 ww0 rfl T.z_len boot_len (A6 (N0 (ww3 rfl) rfl T.z_set boot_set (A6 (pv 6) B0)) B0)) (D6 G9 rfl T.z_len boot_len (A6 (pv 6) B0)) (C8 _))))))
  ·refine B4 ?_
   exact (C7 Z0)
  ·exact D0
 refine B2 ?_ ?_
 ·refine G4 ?_ ?_ ?_
  ·exact (C0 (qg6 (R0 hr)) (P9 rfl (G6 (osc := B8 N9) (ON := ["_law_rows", "_law_k", "_law_name", "_law_sort", "_law_host", "_law_shuts", "_law_bars", "_law_sorts", "_law_hosts", "_law_row_here", "_law_taken", "_law_way"]) (N := ["_law_sorts", "_law_other"]) (fr := [some 7, none]) (by decide +kernel) rfl rfl) (Q8 (L9 xt1 (pv 5) (pv 6))) (fun _ _ _ _ _ _ => (E1 (i := 1) (show List.Nodup (["_law_sorts", "_law_other"] : List Str) by decide +kernel) rfl (Or.inl rfl))) O5 (fun _ _ _ _ _ _ => (qu2 (C0 (S8 (C6 hr)) (xf5 (C6 hr) (pv 0) (pv 1) D4 m2) (E9 (A6 D4 (A6 D4 B0))) (by with_unfolding_all rfl)))) (fun _ _ _ _ _ _ => (pv 1))) (E9 B0) (C8 _))
  ·refine B4 ?_
   exact (C7 Z0)
  ·exact D0
 refine B2 ?_ ?_
 ·refine G4 ?_ ?_ ?_
  ·exact (PW.pt (Z9 (C0 (qg6 (R0 hr)) (P9 rfl (G6 (osc := B8 N9) (ON := ["_law_rows", "_law_k", "_law_name", "_law_sort", "_law_host", "_law_shuts", "_law_bars", "_law_sorts", "_law_hosts", "_law_row_here", "_law_taken", "_law_way"]) (N := ["_law_taken", "_law_other"]) (fr := [some 10, none]) (by decide +kernel) rfl rfl) (Q8 (pv 5)) (fun _ _ _ _ _ _ => (E1 (i := 1) (show List.Nodup (["_law_taken", "_law_other"] : List Str) by decide +kernel) rfl (Or.inl rfl))) O5 (fun _ _ _ _ _ _ => (qu2 (C0 (X6 (C6 hr)) (pv 1) (pv 0) (by with_unfolding_all rfl)))) (fun _ _ _ _ _ _ => (pv 1))) (E9 B0) (C8 _)) (U9 (PW.pt (qi0 (C0 (qg6 (R0 hr)) (pv 5) (wj4 B0) (C8 _)) (qb1 (C0 (X6 (C6 hr)) (pv 2) (pv 10) (by with_unfolding_all rfl))))))))
  ·refine B4 ?_
   exact (C7 Z0)
  ·exact D0
 refine B2 ?_ ?_
 ·refine G4 ?_ ?_ ?_
  ·exact (C0 (qg6 (R0 hr)) (pv 3) D4 (C8 _))
  ·refine B4 ?_
   exact (C7 Z0)
  ·exact D0
 refine B2 ?_ ?_
 ·refine G4 ?_ ?_ ?_
  ·exact (PW.pt (Z9 (C0 (S8 (C6 hr)) (xf5 (C6 hr) (pv 7) (pv 4) D4 m2) (E9 (A6 D4 (A6 D4 B0))) (by with_unfolding_all rfl)) (U9 (C0 (X6 (C6 hr)) (pv 4) (P9 rfl (G6 (osc := B8 N9) (ON := ["_law_rows", "_law_k", "_law_name", "_law_sort", "_law_host", "_law_shuts", "_law_bars", "_law_sorts", "_law_hosts", "_law_row_here", "_law_taken", "_law_way"]) (N := ["_law_row_here"]) (fr := [none]) (by decide +kernel) rfl rfl) (Q8 (Q1 qp1 (pv 0) S5 (S6 (pv 1)))) (fun _ _ _ _ _ _ => (E1 (i := 0) (show List.Nodup (["_law_row_here"] : List Str) by decide +kernel) rfl (Or.inl rfl))) O5 (fun _ _ _ _ _ _ => R7) (fun _ _ _ _ _ _ => (D7 (B9 (C6 hr)) (pv 0) B5 (fun _ _ => rfl)))) (by with_unfolding_all rfl)))))
  ·refine B4 ?_
   exact (C7 Z0)
  ·exact D0
 refine B2 ?_ ?_
 ·refine C9 (i := 11) S.nd rfl (Or.inl rfl) ?_ rfl ?_
  ·exact (E9 (A6 (pv 2) B0))
  ·walk_at "or"
 refine B2 ?_ ?_
 ·refine yc6 PassesOwn.never ?_ ?_
  ·exact (PW.pt (qi0 (C0 (X6 (C6 hr)) (D7 (B9 (C6 hr)) (pv 11) (yu2 yc9 B5) (fun _ _ => rfl)) (pv 8) (by with_unfolding_all rfl)) (qb1 (C0 qm8 (D6 G9 rfl T.z_len boot_len (A6 (pv 11) B0)) B5 (C8 _)))))
  ·refine B4 ?_
   exact (S4 (T6 PySem.F.plainAttrs_list PySem.F.slot_list_append PySem.F.type_list_append Q3 (pv 11) (A6 (yp0 (C6 hr) (pv 8) (D7 (B9 (C6 hr)) (pv 11) (yu2 yc9 B5) (fun _ _ => rfl)) (fun _ _ => rfl)) B0)))
 refine B4 ?_
 exact (C7 (T8 (X6 (C6 hr)) (pv 2) (Q1 qp1 (pv 11) (S6 B5) S5) (by with_unfolding_all rfl)))
theorem xk9 (T : Txt K mg t) : N5 P w K mg base CX0 1 t.a_i_NoBook t.d_i_NoBook ["self", "row"] (qf3 K) := by
 refine T.F_i_NoBook.ok we6 (xc4 K) (fun cdv A outer s H vs Q E hr h => ⟨qj6 K, ?_, xj1 h⟩)
 have S := we6
 refine B2 ?_ ?_
 ·exact (S4 (yi0 T.ba_TagError rfl (A6 (pv 0) (A6 (yh9 (pv 1)) B0))))
 refine B4 ?_
 exact (yi1 (pv 0) (pv 1) rfl)
theorem we9 (T : Txt K mg t) : N5 P w K mg base CX0 1 t.a_i_NoText t.d_i_NoText ["self", "row"] (V5 K) := by
 refine T.F_i_NoText.ok we7 (xc3 K) (fun cdv A outer s H vs Q E hr h => ⟨qj5 K, ?_, xj0 h⟩)
 have S := we7
 refine B2 ?_ ?_
 ·exact (S4 (yi0 T.ba_TagError rfl (A6 (pv 0) (A6 (yh9 (pv 1)) B0))))
 refine B4 ?_
 exact (yi1 (pv 0) (pv 1) rfl)
theorem qe2 (T : Txt K mg t) : N5 P w K mg base CX0 2 t.f_is_name.a t.f_is_name.d ["word"] (S3 K) := by
 refine T.f_is_name.F.ok wp7 (xi4 K) (fun cdv A outer s H vs Q E hr h => ⟨qp6 K t.c_KEYWORDS, ?_, xp6 T.q_KEYWORDS h⟩)
 have S := wp7
 refine B4 ?_
 exact (C7 (qz4 (C1 (qk7 T) (hr.mono (by walk_at "le")) rfl T.f_has_letters_of_name.m T.f_has_letters_of_name.F.kp T.f_has_letters_of_name.b .nil E5 (A6 (pv 0) B0)) (wi9 (T8 (S8 (C6 hr)) (pv 0) (E3 rfl T.g_KEYWORDS rfl) (by with_unfolding_all rfl)))))
theorem wq1 (T : Txt K mg t) : N5 P w K mg base CX0 2 t.f_sort_of.a t.f_sort_of.d ["book", "name"] (qd3 K) := by
 refine T.f_sort_of.F.ok wp9 (xh5 K) (fun cdv A outer s H vs Q E hr h => ⟨wa6 K, ?_, xp4 h⟩)
 have S := wp9
 refine B2 ?_ ?_
 ·refine C9 (i := 2) S.nd rfl (Or.inl rfl) ?_ rfl ?_
  ·exact (C1 (qq0 T) (hr.mono (by walk_at "le")) rfl T.f_row_of.m T.f_row_of.F.kp T.f_row_of.b .nil E5 (A6 (pv 0) (A6 (pv 1) B0)))
  ·walk_at "or"
 refine B4 ?_
 exact (C7 (qh1 (C0 qr6 (pv 2) M6 (C8 _)) M6 (D7 (B9 (C6 hr)) (pv 2) (E3 rfl T.g_SORT.1 T.g_SORT.2) (fun _ _ => rfl))))
theorem wq2 (T : Txt K mg t) : N5 P w K mg base CX0 2 t.f_host_of.a t.f_host_of.d ["book", "name"] (qd4 K) := by
 refine T.f_host_of.F.ok wq0 (xh6 K) (fun cdv A outer s H vs Q E hr h => ⟨wa7 K, ?_, xp5 h⟩)
 have S := wq0
 refine B2 ?_ ?_
 ·refine C9 (i := 2) S.nd rfl (Or.inl rfl) ?_ rfl ?_
  ·exact (C1 (qq0 T) (hr.mono (by walk_at "le")) rfl T.f_row_of.m T.f_row_of.F.kp T.f_row_of.b .nil E5 (A6 (pv 0) (A6 (pv 1) B0)))
  ·walk_at "or"
 refine B2 ?_ ?_
 ·refine G4 ?_ ?_ ?_
  ·exact (PW.pt (Z9 (C0 qr6 (pv 2) M6 (C8 _)) (U9 (C0 (qg6 (R0 hr)) (D7 (B9 (C6 hr)) (pv 2) (E3 rfl T.g_SORT.1 T.g_SORT.2) (fun _ _ => rfl)) D4 (C8 _)))))
  ·refine B4 ?_
   exact (C7 M6)
  ·exact D0
 refine B4 ?_
 exact (C7 (D7 (B9 (C6 hr)) (pv 2) (E3 rfl T.g_HOST.1 T.g_HOST.2) (fun _ _ => rfl)))
theorem wu2 (T : Txt K mg t) : N5 P w K mg base CX0 2 t.f_first_rows.a t.f_first_rows.d ["rows"] (Y5 K) := by
 refine T.f_first_rows.F.ok qr1 (wn0 K) (fun cdv A outer s H vs Q E hr h => ⟨qb3 K, ?_, wr4 h⟩)
 have S := qr1
 refine B2 ?_ ?_
 ·refine C9 (i := 1) S.nd rfl (Or.inl rfl) ?_ rfl ?_
  ·exact (E9 B0)
  ·walk_at "or"
 refine B2 ?_ ?_
 ·refine V0 PassesOwn.never rfl ?_ ?_ ?_
  ·exact (Q8 (pv 0))
  ·exact (E1 (i := 2) S.nd rfl (Or.inl rfl))
  ·refine B4 ?_
   refine G4 ?_ ?_ ?_
   ·exact (C0 qr6 (C1 (qq0 T) (hr.mono (by walk_at "le")) rfl T.f_row_of.m T.f_row_of.F.kp T.f_row_of.b .nil E5 (A6 (pv 1) (A6 (D7 (B9 (C6 hr)) (pv 2) (E3 rfl T.g_NAME.1 T.g_NAME.2) (fun _ _ => rfl)) B0))) M6 (C8 _))
   ·refine B4 ?_
    exact (S4 (T6 PySem.F.plainAttrs_list PySem.F.slot_list_append PySem.F.type_list_append Q3 (pv 1) (A6 (pv 2) B0)))
   ·exact D0
 refine B4 ?_
 exact (C7 (pv 1))
theorem xl0 (T : Txt K mg t) : N5 P w K mg base CX0 2 t.f_show_row.a t.f_show_row.d ["row"] (qf5 K) := by
 refine T.f_show_row.F.ok we2 (xc8 K) (fun cdv A outer s H vs Q E hr h => ⟨qj7 K, ?_, xj2 h⟩)
 have S := we2
 refine B2 ?_ ?_
 ·refine C9 (i := 1) S.nd rfl (Or.inl rfl) ?_ rfl ?_
  ·exact (E9 (A6 (D7 (B9 (C6 hr)) (pv 0) (E3 rfl T.g_NAME.1 T.g_NAME.2) (fun _ _ => rfl)) (A6 (D7 (B9 (C6 hr)) (pv 0) (E3 rfl T.g_SORT.1 T.g_SORT.2) (fun _ _ => rfl)) B0)))
  ·walk_at "or"
 refine B2 ?_ ?_
 ·refine G4 ?_ ?_ ?_
  ·exact (C0 (M7 (R0 hr)) (D7 (B9 (C6 hr)) (pv 0) (E3 rfl T.g_SORT.1 T.g_SORT.2) (fun _ _ => rfl)) D4 (C8 _))
  ·refine B4 ?_
   exact (S4 (T6 PySem.F.plainAttrs_list PySem.F.slot_list_append PySem.F.type_list_append Q3 (pv 1) (A6 (D7 (B9 (C6 hr)) (pv 0) (E3 rfl T.g_HOST.1 T.g_HOST.2) (fun _ _ => rfl)) B0)))
  ·exact D0
 refine B4 ?_
 refine C7 ?_
 exact (T6 PySem.F.plainAttrs_str PySem.F.slot_str_join PySem.F.type_str_join wh1 D4 (A6 (L9 L8 (L9 L8 (pv 1) (C1 (xk8 T) (hr.mono (by walk_at "le")) rfl T.f_keyed.m T.f_keyed.F.kp T.f_keyed.b .nil E5 (A6 D4 (A6 (D7 (B9 (C6 hr)) (pv 0) (E3 rfl T.g_SHUTS.1 T.g_SHUTS.2) (fun _ _ => rfl)) B0)))) (C1 (xk8 T) (hr.mono (by walk_at "le")) rfl T.f_keyed.m T.f_keyed.F.kp T.f_keyed.b .nil E5 (A6 D4 (A6 (D7 (B9 (C6 hr)) (pv 0) (E3 rfl T.g_BARS.1 T.g_BARS.2) (fun _ _ => rfl)) B0)))) B0))
theorem wq3 (T : Txt K mg t) : N5 P w K mg base CX0 2 t.f__law_family.a t.f__law_family.d ["_law_cell", "_law_where"] (W8 K) := by
 refine T.f__law_family.F.ok qo4 (wh0 K) (fun cdv A outer s H vs Q E hr h => ⟨Y8 K, ?_, wp2 h⟩)
 have S := qo4
 refine B2 ?_ ?_
 ·refine C9 (i := 2) S.nd rfl (Or.inr rfl) ?_ rfl ?_
  ·exact D4
  ·walk_at "or"
 refine B2 ?_ ?_
 ·refine C9 (i := 3) S.nd rfl (Or.inl rfl) ?_ rfl ?_
  ·exact (C1 (we8 T) (hr.mono (by walk_at "le")) rfl T.f__law_pot.m T.f__law_pot.F.kp T.f__law_pot.b .nil E5 (A6 (pv 0) B0))
  ·walk_at "or"
 refine B2 ?_ ?_
 ·refine C9 (i := 4) S.nd rfl (Or.inr rfl) ?_ rfl ?_
  ·exact D4
  ·walk_at "or"
 refine B2 ?_ ?_
 ·refine V0 PassesOwn.never rfl ?_ ?_ ?_
  ·exact (V2 rfl T.z_range (A6 (L9 L8 B5 (C1 (M4 T) (hr.mono (by walk_at "le")) rfl T.f__law_take.m T.f__law_take.F.kp T.f__law_take.b .nil E5 (A6 (pv 3) (A6 B5 B0)))) B0))
  ·exact (E1 (i := 5) S.nd rfl (Or.inl rfl))
  ·refine B4 ?_
   refine C9 (i := 4) S.nd rfl (Or.inr rfl) ?_ rfl ?_
   ·exact (L9 L8 (pv 4) (D7 (B9 (C6 hr)) (pv 2) (C1 (M4 T) (hr.mono (by walk_at "le")) rfl T.f__law_take.m T.f__law_take.F.kp T.f__law_take.b .nil E5 (A6 (pv 3) (A6 B5 B0))) (fun _ _ => rfl)))
   ·walk_at "or"
 refine B2 ?_ ?_
 ·refine C9 (i := 6) S.nd rfl (Or.inr rfl) ?_ rfl ?_
  ·exact (L9 qm0 (pv 1) (D6 G9 rfl T.z_len boot_len (A6 (pv 4) B0)))
  ·walk_at "or"
 refine B2 ?_ ?_
 ·refine C9 (i := 7) S.nd rfl (Or.inr rfl) ?_ rfl ?_
  ·exact (T6 PySem.F.plainAttrs_str PySem.F.slot_str_index PySem.F.type_str_index wy6 (pv 2) (A6 (D7 (B9 (C6 hr)) (pv 4) (pv 6) (fun _ _ => rfl)) B0))
  ·walk_at "or"
 refine B4 ?_
 refine C7 ?_
 exact (P9 rfl (G6 (osc := B8 Y9) (ON := ["_law_cell", "_law_where", "_law_letters", "_law_pot_here", "_law_base", "_law_k", "_law_there", "_law_at_first"]) (N := ["_law_base", "_law_letters", "_law_there", "_law_at_first", "_law_k"]) (fr := [some 4, some 2, some 6, some 7, none]) (by decide +kernel) rfl rfl) (V2 rfl T.z_range (A6 B5 B0)) (fun _ _ _ _ _ _ => (E1 (i := 4) (show List.Nodup (["_law_base", "_law_letters", "_law_there", "_law_at_first", "_law_k"] : List Str) by decide +kernel) rfl (Or.inl rfl))) O5 (fun _ _ _ _ _ _ => R7) (fun _ _ _ _ _ _ => (L9 L8 (L9 L8 (Q1 qn0 (pv 0) S5 (S6 (pv 2))) (D7 (B9 (C6 hr)) (pv 1) (L9 qm0 (L9 L8 (pv 3) (pv 4)) B5) (fun _ _ => rfl))) (Q1 qn0 (pv 0) (S6 (L9 L8 (pv 2) B5)) S5))))
theorem wd1 (T : Txt K mg t) : N5 P w K mg base CX0 2 t.f__law_words_of.a t.f__law_words_of.d ["_law_names", "_law_cell"] (T1 K) := by
 refine T.f__law_words_of.F.ok qh8 (qx5 K) (fun cdv A outer s H vs Q E hr h => ⟨U0 K, ?_, wc2 h⟩)
 have S := qh8
 refine B2 ?_ ?_
 ·refine C9 (i := 2) S.nd rfl (Or.inr rfl) ?_ rfl ?_
  ·exact (C1 (we8 T) (hr.mono (by walk_at "le")) rfl T.f__law_pot.m T.f__law_pot.F.kp T.f__law_pot.b .nil E5 (A6 (pv 1) B0))
  ·walk_at "or"
 refine B2 ?_ ?_
 ·refine C9 (i := 3) ?_ ?_ ?_ ?_ ?_ ?_
  ·exact S.nd
  ·rfl
  ·exact (Or.inl rfl)
  ·refine E9 ?_
   with_reducible refine wd6 ?_
   with_reducible refine wd6 ?_
   with_reducible refine wd6 ?_
   with_reducible refine wd6 ?_
   with_reducible refine wd6 ?_
   with_reducible refine wd6 ?_
   exact yf9
  ·exact rfl
  ·walk_at "or"
 refine B2 ?_ ?_
 ·refine G4 ?_ ?_ ?_
  ·exact (C0 wy5 (C1 (M4 T) (hr.mono (by walk_at "le")) rfl T.f__law_take.m T.f__law_take.F.kp T.f__law_take.b .nil E5 (A6 (pv 2) (A6 B5 B0))) B5 (C8 _))
  ·refine B2 ?_ ?_
   ·refine C9 (i := 4) S.nd rfl (Or.inl rfl) ?_ rfl ?_
    ·refine E9 ?_
     refine A6 ?_ ?_
     ·refine D7 ?_ ?_ ?_ ?_
      ·exact B9 (C6 hr)
      ·exact (pv 0)
      ·exact (C1 (M4 T) (hr.mono (by walk_at "le")) rfl T.f__law_take.m T.f__law_take.F.kp T.f__law_take.b .nil E5 (A6 (pv 2) (A6 B5 B0)))
      ·exact fun _ _ => rfl
     refine A6 ?_ ?_
     ·refine D7 ?_ ?_ ?_ ?_
      ·exact B9 (C6 hr)
      ·exact (pv 3)
      ·exact (C1 (M4 T) (hr.mono (by walk_at "le")) rfl T.f__law_take.m T.f__law_take.F.kp T.f__law_take.b .nil E5 (A6 (pv 2) (A6 B5 B0)))
      ·exact fun _ _ => rfl
     exact B0
    ·walk_at "or"
   refine B2 ?_ ?_
   ·refine G4 ?_ ?_ ?_
    ·exact (C0 (M7 (R0 hr)) (D7 (B9 (C6 hr)) (pv 4) B5 (fun _ _ => rfl)) D4 (C8 _))
    ·refine B4 ?_
     exact (S4 (T6 PySem.F.plainAttrs_list PySem.F.slot_list_append PySem.F.type_list_append Q3 (pv 4) (A6 (D7 (B9 (C6 hr)) (pv 0) (C1 (M4 T) (hr.mono (by walk_at "le")) rfl T.f__law_take.m T.f__law_take.F.kp T.f__law_take.b .nil E5 (A6 (pv 2) (A6 B5 B0))) (fun _ _ => rfl)) B0)))
    ·exact D0
   refine B2 ?_ ?_
   ·refine V0 PassesOwn.never rfl ?_ ?_ ?_
    ·exact (Q8 (E9 (A6 D4 (A6 D4 B0))))
    ·exact (E1 (i := 5) S.nd rfl (Or.inl rfl))
    ·refine B4 ?_
     refine G4 ?_ ?_ ?_
     ·exact (C0 (M7 (R0 hr)) (C1 (M4 T) (hr.mono (by walk_at "le")) rfl T.f__law_take.m T.f__law_take.F.kp T.f__law_take.b .nil E5 (A6 (pv 2) (A6 B5 B0))) B5 (C8 _))
     ·refine B2 ?_ ?_
      ·exact (S4 (T6 PySem.F.plainAttrs_list PySem.F.slot_list_append PySem.F.type_list_append Q3 (pv 4) (A6 (pv 5) B0)))
      refine B4 ?_
      refine V0 PassesOwn.never rfl ?_ ?_ ?_
      ·exact (V2 rfl T.z_range (A6 (L9 L8 B5 (C1 (M4 T) (hr.mono (by walk_at "le")) rfl T.f__law_take.m T.f__law_take.F.kp T.f__law_take.b .nil E5 (A6 (pv 2) (A6 B5 B0)))) B0))
      ·exact (E1 (i := 6) S.nd rfl (Or.inl rfl))
      ·refine B4 ?_
       exact (S4 (T6 PySem.F.plainAttrs_list PySem.F.slot_list_append PySem.F.type_list_append Q3 (pv 4) (A6 (D7 (B9 (C6 hr)) (pv 0) (C1 (M4 T) (hr.mono (by walk_at "le")) rfl T.f__law_take.m T.f__law_take.F.kp T.f__law_take.b .nil E5 (A6 (pv 2) (A6 B5 B0))) (fun _ _ => rfl)) B0)))
     ·exact D0
   refine B4 ?_
   exact (C7 (pv 4))
  ·exact D0
 refine B2 ?_ ?_
 ·refine C9 (i := 7) S.nd rfl (Or.inr rfl) ?_ rfl ?_
  ·exact (L9 L8 (L9 L8 (pv 0) (pv 3)) (E9 (by repeat (first | with_reducible refine wd6 ?_ | with_reducible exact yf9))))
  ·walk_at "or"
 refine B4 ?_
 refine C7 ?_
 exact (P9 rfl (G6 (osc := B8 U5) (ON := ["_law_names", "_law_cell", "_law_pot_here", "_law_sorts", "_law_found", "_law_head", "_law_k", "_law_some"]) (N := ["_law_some", "_law_pot_here", "_law_k"]) (fr := [some 7, some 2, none]) (by decide +kernel) rfl rfl) (V2 rfl T.z_range (A6 (L9 L8 B5 (C1 (M4 T) (hr.mono (by walk_at "le")) rfl T.f__law_take.m T.f__law_take.F.kp T.f__law_take.b .nil E5 (A6 (pv 2) (A6 B5 B0)))) B0)) (fun _ _ _ _ _ _ => (E1 (i := 2) (show List.Nodup (["_law_some", "_law_pot_here", "_law_k"] : List Str) by decide +kernel) rfl (Or.inl rfl))) O5 (fun _ _ _ _ _ _ => R7) (fun _ _ _ _ _ _ => (D7 (B9 (C6 hr)) (pv 0) (C1 (M4 T) (hr.mono (by walk_at "le")) rfl T.f__law_take.m T.f__law_take.F.kp T.f__law_take.b .nil E5 (A6 (pv 1) (A6 (D6 G9 rfl T.z_len boot_len (A6 (pv 0) B0)) B0))) (fun _ _ => rfl))))
theorem xl1 (T : Txt K mg t) : N5 P w K mg base CX0 2 t.f__law_row.a t.f__law_row.d ["_law_found"] (qf7 K) := by
 refine T.f__law_row.F.ok we4 (xd2 K) (fun cdv A outer s H vs Q E hr h => ⟨qk3 K, ?_, xj5 h⟩)
 have S := we4
 refine B2 ?_ ?_
 ·refine G4 ?_ ?_ ?_
  ·exact (PW.pt (Z9 (C0 qm8 (D6 G9 rfl T.z_len boot_len (A6 (pv 0) B0)) B5 (C8 _)) (U9 (qi1 (U8 (C1 (U7 T) (hr.mono (by walk_at "le")) rfl T.f__law_is_name.m T.f__law_is_name.F.kp T.f__law_is_name.b .nil E5 (A6 (D7 (B9 (C6 hr)) (pv 0) B5 (fun _ _ => rfl)) B0)))))))
  ·refine B4 ?_
   exact (C7 M6)
  ·exact D0
 refine B2 ?_ ?_
 ·refine G4 ?_ ?_ ?_
  ·exact (C0 (S8 (C6 hr)) (D7 (B9 (C6 hr)) (pv 0) B5 (fun _ _ => rfl)) (E9 (by repeat (first | with_reducible refine wd6 ?_ | with_reducible exact yf9))) (by with_unfolding_all rfl))
  ·refine B4 ?_
   exact (C7 M6)
  ·exact D0
 refine B2 ?_ ?_
 ·refine C9 (i := 1) S.nd rfl (Or.inl rfl) ?_ rfl ?_
  ·refine D7 ?_ ?_ ?_ ?_
   ·exact B9 (C6 hr)
   ·exact (E9 (A6 B5 (A6 B5 B0)))
   ·exact (N0 wa0 rfl T.z_int boot_int (A6 (T8 (M7 (R0 hr)) (D7 (B9 (C6 hr)) (pv 0) B5 (fun _ _ => rfl)) D4 (C8 _)) B0))
   ·exact fun _ _ => rfl
  ·walk_at "or"
 refine B2 ?_ ?_
 ·refine C9 (i := 2) S.nd rfl (Or.inl rfl) ?_ rfl ?_
  ·exact D4
  ·walk_at "or"
 refine B2 ?_ ?_
 ·refine C9 (i := 3) S.nd rfl (Or.inl rfl) ?_ rfl ?_
  ·exact (E9 (A6 (E9 B0) (A6 (E9 B0) B0)))
  ·walk_at "or"
 refine B2 ?_ ?_
 ·refine V0 PassesOwn.never rfl ?_ ?_ ?_
  ·exact (Q8 (Q1 qn0 (pv 0) (S6 B5) S5))
  ·exact (E1 (i := 4) S.nd rfl (Or.inl rfl))
  ·refine B4 ?_
   refine G4 ?_ ?_ ?_
   ·exact (PW.pt (qi0 (C0 (M7 (R0 hr)) (pv 1) B5 (C8 _)) (qb1 (U8 (C1 (U7 T) (hr.mono (by walk_at "le")) rfl T.f__law_is_name.m T.f__law_is_name.F.kp T.f__law_is_name.b .nil E5 (A6 (pv 4) B0))))))
   ·refine B2 ?_ ?_
    ·refine C9 (i := 2) S.nd rfl (Or.inl rfl) ?_ rfl ?_
     ·exact (pv 4)
     ·walk_at "or"
    refine B4 ?_
    refine C9 (i := 1) S.nd rfl (Or.inl rfl) ?_ rfl ?_
    ·exact B5
    ·walk_at "or"
   ·refine B4 ?_
    refine G4 ?_ ?_ ?_
    ·exact (PW.pt (qi0 (C0 (M7 (R0 hr)) (pv 1) B5 (C8 _)) (qb1 (C0 (M7 (R0 hr)) (pv 4) D4 (C8 _)))))
    ·refine B4 ?_
     refine C9 (i := 1) S.nd rfl (Or.inl rfl) ?_ rfl ?_
     ·exact B5
     ·walk_at "or"
    ·refine B4 ?_
     refine G4 ?_ ?_ ?_
     ·exact (PW.pt (qi0 (C0 (X6 (C6 hr)) (pv 1) (E9 (A6 B5 (A6 B5 B0))) (by with_unfolding_all rfl)) (qb1 (C0 (M7 (R0 hr)) (pv 4) D4 (C8 _)))))
     ·refine B4 ?_
      refine C9 (i := 1) S.nd rfl (Or.inl rfl) ?_ rfl ?_
      ·exact B5
      ·walk_at "or"
     ·refine B4 ?_
      refine G4 ?_ ?_ ?_
      ·exact (PW.pt (qi0 (C0 (X6 (C6 hr)) (pv 1) (E9 (A6 B5 (A6 B5 B0))) (by with_unfolding_all rfl)) (qb1 (U8 (C1 (U7 T) (hr.mono (by walk_at "le")) rfl T.f__law_is_name.m T.f__law_is_name.F.kp T.f__law_is_name.b .nil E5 (A6 (pv 4) B0))))))
      ·refine B2 ?_ ?_
       ·exact (S4 (T6 PySem.F.plainAttrs_list PySem.F.slot_list_append PySem.F.type_list_append Q3 (D7 (B9 (C6 hr)) (pv 3) B5 (fun _ _ => rfl)) (A6 (pv 4) B0)))
       refine B4 ?_
       refine C9 (i := 1) S.nd rfl (Or.inl rfl) ?_ rfl ?_
       ·exact B5
       ·walk_at "or"
      ·refine B4 ?_
       refine G4 ?_ ?_ ?_
       ·exact (PW.pt (qi0 (C0 (X6 (C6 hr)) (pv 1) (E9 (A6 B5 (A6 B5 B0))) (by with_unfolding_all rfl)) (qb1 (U8 (C1 (U7 T) (hr.mono (by walk_at "le")) rfl T.f__law_is_name.m T.f__law_is_name.F.kp T.f__law_is_name.b .nil E5 (A6 (pv 4) B0))))))
       ·refine B2 ?_ ?_
        ·exact (S4 (T6 PySem.F.plainAttrs_list PySem.F.slot_list_append PySem.F.type_list_append Q3 (D7 (B9 (C6 hr)) (pv 3) B5 (fun _ _ => rfl)) (A6 (pv 4) B0)))
        refine B4 ?_
        refine C9 (i := 1) S.nd rfl (Or.inl rfl) ?_ rfl ?_
        ·exact B5
        ·walk_at "or"
       ·refine B4 ?_
        exact (C7 M6)
 refine B2 ?_ ?_
 ·refine G4 ?_ ?_ ?_
  ·exact (C0 (X6 (C6 hr)) (pv 1) (E9 (A6 B5 (A6 B5 (A6 B5 B0)))) (by with_unfolding_all rfl))
  ·refine B4 ?_
   exact (C7 M6)
  ·exact D0
 refine B4 ?_
 refine C7 ?_
 refine wj4 ?_
 refine A6 ?_ ?_
 ·exact (D7 (B9 (C6 hr)) (pv 0) B5 (fun _ _ => rfl))
 refine A6 ?_ ?_
 ·exact (D7 (B9 (C6 hr)) (pv 0) B5 (fun _ _ => rfl))
 refine A6 ?_ ?_
 ·exact (pv 2)
 refine A6 ?_ ?_
 ·exact (N0 P5 rfl T.z_tuple boot_tuple (A6 (D7 (B9 (C6 hr)) (pv 3) B5 (fun _ _ => rfl)) B0))
 refine A6 ?_ ?_
 ·exact (N0 P5 rfl T.z_tuple boot_tuple (A6 (D7 (B9 (C6 hr)) (pv 3) B5 (fun _ _ => rfl)) B0))
 exact B0
theorem xl2 (T : Txt K mg t) : N5 P w K mg base CX0 3 t.f_has_form.a t.f_has_form.d ["row"] (qe7 K) := by
 refine T.f_has_form.F.ok wd8 (xa3 K) (fun cdv A outer s H vs Q E hr h => ⟨qj1 K t.c_SORTS, ?_, xi5 T.q_SORTS h⟩)
 have S := wd8
 refine B2 ?_ ?_
 ·refine G4 ?_ ?_ ?_
  ·exact (PW.pt (Z9 (qi1 (U8 (C1 (qe2 T) (hr.mono (by walk_at "le")) rfl T.f_is_name.m T.f_is_name.F.kp T.f_is_name.b .nil E5 (A6 (D7 (B9 (C6 hr)) (pv 0) (E3 rfl T.g_NAME.1 T.g_NAME.2) (fun _ _ => rfl)) B0)))) (U9 (C0 (S8 (C6 hr)) (D7 (B9 (C6 hr)) (pv 0) (E3 rfl T.g_SORT.1 T.g_SORT.2) (fun _ _ => rfl)) (E3 rfl T.g_SORTS rfl) (by with_unfolding_all rfl)))))
  ·refine B4 ?_
   exact (C7 Z0)
  ·exact D0
 refine B4 ?_
 refine C7 ?_
 exact (qh1 (C0 (M7 (R0 hr)) (D7 (B9 (C6 hr)) (pv 0) (E3 rfl T.g_SORT.1 T.g_SORT.2) (fun _ _ => rfl)) D4 (C8 _)) (C1 (qe2 T) (hr.mono (by walk_at "le")) rfl T.f_is_name.m T.f_is_name.F.kp T.f_is_name.b .nil E5 (A6 (D7 (B9 (C6 hr)) (pv 0) (E3 rfl T.g_HOST.1 T.g_HOST.2) (fun _ _ => rfl)) B0)) (T8 (M7 (R0 hr)) (D7 (B9 (C6 hr)) (pv 0) (E3 rfl T.g_HOST.1 T.g_HOST.2) (fun _ _ => rfl)) D4 (C8 _)))
theorem wu3 (T : Txt K mg t) : N5 P w K mg base CX0 3 t.f_comes_back.a t.f_comes_back.d ["rows", "name"] (Y4 K) := by
 refine T.f_comes_back.F.ok qr2 (wm9 K) (fun cdv A outer s H vs Q E hr h => ⟨qb2 K, ?_, wr3 h⟩)
 have S := qr2
 refine B2 ?_ ?_
 ·refine C9 (i := 2) S.nd rfl (Or.inl rfl) ?_ rfl ?_
  ·exact (C1 (wq2 T) (hr.mono (by walk_at "le")) rfl T.f_host_of.m T.f_host_of.F.kp T.f_host_of.b .nil E5 (A6 (pv 0) (A6 (pv 1) B0)))
  ·walk_at "or"
 refine B2 ?_ ?_
 ·refine V0 PassesOwn.never rfl ?_ ?_ ?_
  ·exact (V2 rfl T.z_range (A6 (D6 G9 rfl T.z_len boot_len (A6 (pv 0) B0)) B0))
  ·exact (E1 (i := 3) S.nd rfl (Or.inl rfl))
  ·refine B2 ?_ ?_
   ·refine G4 ?_ ?_ ?_
    ·exact (C0 (M7 (R0 hr)) (pv 2) (pv 1) (C8 _))
    ·refine B4 ?_
     exact (C7 Z0)
    ·exact D0
   refine B4 ?_
   refine C9 (i := 2) S.nd rfl (Or.inl rfl) ?_ rfl ?_
   ·exact (C1 (wq2 T) (hr.mono (by walk_at "le")) rfl T.f_host_of.m T.f_host_of.F.kp T.f_host_of.b .nil E5 (A6 (pv 0) (A6 (pv 2) B0)))
   ·walk_at "or"
 refine B4 ?_
 exact (C7 Z0)
theorem ql4 (T : Txt K mg t) : N5 P w K mg base CX0 3 t.f_may_be_named.a t.f_may_be_named.d ["rows", "names"] (R3 K) := by
 refine T.f_may_be_named.F.ok ql0 (wa9 K) (fun cdv A outer s H vs Q E hr h => ⟨V7 K t.c_SHUT_OR_BARRED_SORTS, ?_, wf8 T.q_SHUT_OR_BARRED_SORTS h⟩)
 have S := ql0
 refine B4 ?_
 refine C7 ?_
 exact (qz4 (C1 (xe0 T) (hr.mono (by walk_at "le")) rfl T.f_is_rising.m T.f_is_rising.F.kp T.f_is_rising.b .nil E5 (A6 (pv 1) B0)) (wi9 (D6 (qp0 rfl) rfl T.z_all boot_all (A6 (P9 rfl (G6 (osc := B8 X2) (ON := ["rows", "names"]) (N := ["rows", "name"]) (fr := [some 0, none]) (by decide +kernel) rfl rfl) (Q8 (pv 1)) (fun _ _ _ _ _ _ => (E1 (i := 1) (show List.Nodup (["rows", "name"] : List Str) by decide +kernel) rfl (Or.inl rfl))) O5 (fun _ _ _ _ _ _ => R7) (fun _ _ _ _ _ _ => (T8 (X6 (C6 hr)) (C1 (wq1 T) (hr.mono (by walk_at "le")) rfl T.f_sort_of.m T.f_sort_of.F.kp T.f_sort_of.b .nil E5 (A6 (pv 0) (A6 (pv 1) B0))) (E3 rfl T.g_SHUT_OR_BARRED_SORTS rfl) (by with_unfolding_all rfl)))) B0))))
theorem ql5 (T : Txt K mg t) : N5 P w K mg base CX0 3 t.f_names_behind.a t.f_names_behind.d ["keyword", "words"] (R4 K) := by
 refine T.f_names_behind.F.ok ql1 (wb7 K) (fun cdv A outer s H vs Q E hr h => ⟨W0 K, ?_, wg1 h⟩)
 have S := ql1
 refine B2 ?_ ?_
 ·refine C9 (i := 2) S.nd rfl (Or.inl rfl) ?_ rfl ?_
  ·exact (E9 B0)
  ·walk_at "or"
 refine B2 ?_ ?_
 ·refine G4 ?_ ?_ ?_
  ·exact (C0 (M7 (R0 hr)) (Q1 qn0 (pv 1) S5 (S6 B5)) (E9 (A6 (pv 0) B0)) (C8 _))
  ·refine B4 ?_
   refine V0 PassesOwn.never rfl ?_ ?_ ?_
   ·exact (Q8 (Q1 qn0 (pv 1) (S6 B5) S5))
   ·exact (E1 (i := 3) S.nd rfl (Or.inl rfl))
   ·refine B2 ?_ ?_
    ·refine G4 ?_ ?_ ?_
     ·exact (qi1 (U8 (C1 (qe2 T) (hr.mono (by walk_at "le")) rfl T.f_is_name.m T.f_is_name.F.kp T.f_is_name.b .nil E5 (A6 (pv 3) B0))))
     ·refine B4 ?_
      exact yc3
     ·exact D0
    refine B4 ?_
    exact (S4 (T6 PySem.F.plainAttrs_list PySem.F.slot_list_append PySem.F.type_list_append Q3 (pv 2) (A6 (pv 3) B0)))
  ·exact D0
 refine B4 ?_
 exact (C7 (pv 2))
theorem xe1 (T : Txt K mg t) : N5 P w K mg base CX0 3 t.f_show_book.a t.f_show_book.d ["book"] (qc0 K) := by
 refine T.f_show_book.F.ok qz0 (wt7 K) (fun cdv A outer s H vs Q E hr h => ⟨qf6 K, ?_, xc9 h⟩)
 have S := qz0
 refine B4 ?_
 refine C7 ?_
 exact (T6 PySem.F.plainAttrs_str PySem.F.slot_str_join PySem.F.type_str_join wh1 D4 (A6 (P9 rfl (G6 (osc := B8 qg4) (ON := ["book"]) (N := ["row"]) (fr := [none]) (by decide +kernel) rfl rfl) (Q8 (pv 0)) (fun _ _ _ _ _ _ => (E1 (i := 0) (show List.Nodup (["row"] : List Str) by decide +kernel) rfl (Or.inl rfl))) O5 (fun _ _ _ _ _ _ => R7) (fun _ _ _ _ _ _ => (C1 (xl0 T) (hr.mono (by walk_at "le")) rfl T.f_show_row.m T.f_show_row.F.kp T.f_show_row.b .nil E5 (A6 (pv 0) B0)))) B0))
theorem xl3 (T : Txt K mg t) : N5 P w K mg base CX0 3 t.f__law_due.a t.f__law_due.d ["_law_lines"] (qg1 K) := by
 refine T.f__law_due.F.ok we5 (xd7 K) (fun cdv A outer s H vs Q E hr h => ⟨qk4 K, ?_, xk1 h⟩)
 have S := we5
 refine B2 ?_ ?_
 ·refine C9 (i := 1) S.nd rfl (Or.inr rfl) ?_ rfl ?_
  ·exact (P9 rfl (G6 (osc := B8 Y2) (ON := ["_law_lines", "_law_rows", "_law_wrong"]) (N := ["_law_found"]) (fr := [none]) (by decide +kernel) rfl rfl) (Q8 (pv 0)) (fun _ _ _ _ _ _ => (E1 (i := 0) (show List.Nodup (["_law_found"] : List Str) by decide +kernel) rfl (Or.inl rfl))) O5 (fun _ _ _ _ _ _ => R7) (fun _ _ _ _ _ _ => (C1 (xl1 T) (hr.mono (by walk_at "le")) rfl T.f__law_row.m T.f__law_row.F.kp T.f__law_row.b .nil E5 (A6 (pv 0) B0))))
  ·walk_at "or"
 refine B2 ?_ ?_
 ·refine G4 ?_ ?_ ?_
  ·exact (C0 (zb2 (C6 hr)) M6 (pv 1) (by with_unfolding_all rfl))
  ·refine B4 ?_
   exact (C7 (E9 (A6 D4 (A6 (T6 PySem.F.plainAttrs_list PySem.F.slot_list_index PySem.F.type_list_index (ya6 (C6 hr)) (pv 1) (A6 M6 B0)) B0))))
  ·exact D0
 refine B2 ?_ ?_
 ·exact (wy3 (i := 2) S.nd rfl rfl rfl (G6 (osc := B8 Y2) (ON := ["_law_lines", "_law_rows", "_law_wrong"]) (N := ["_law_rows", "_law_k"]) (fr := [some 1, none]) (by decide +kernel) rfl rfl) (V2 rfl T.z_range (A6 (D6 G9 rfl T.z_len boot_len (A6 (pv 1) B0)) B0)) (fun _ _ _ _ _ _ => (E1 (i := 1) (show List.Nodup (["_law_rows", "_law_k"] : List Str) by decide +kernel) rfl (Or.inl rfl))) O5 (fun _ _ _ _ _ _ => (qu2 (U8 (C1 (wd0 T) (hr.mono (by walk_at "le")) rfl T.f__law_is_wrong.m T.f__law_is_wrong.F.kp T.f__law_is_wrong.b .nil E5 (A6 (pv 0) (A6 (pv 1) B0)))))) (fun _ _ _ _ _ _ => (pv 1)))
 refine B2 ?_ ?_
 ·refine G4 ?_ ?_ ?_
  ·exact (C0 (qg6 (R0 hr)) (pv 2) (E9 B0) (C8 _))
  ·refine B4 ?_
   exact (C7 (E9 (A6 D4 (A6 (D7 (B9 (C6 hr)) (pv 2) B5 (fun _ _ => rfl)) B0))))
  ·exact D0
 refine B4 ?_
 refine C7 ?_
 refine E9 ?_
 refine A6 ?_ ?_
 ·exact D4
 refine A6 ?_ ?_
 ·exact (N0 P5 rfl T.z_tuple boot_tuple (A6 (P9 rfl (G6 (osc := B8 Y2) (ON := ["_law_lines", "_law_rows", "_law_wrong"]) (N := ["_law_row_here"]) (fr := [none]) (by decide +kernel) rfl rfl) (Q8 (pv 1)) (fun _ _ _ _ _ _ => (E1 (i := 0) (show List.Nodup (["_law_row_here"] : List Str) by decide +kernel) rfl (Or.inl rfl))) O5 (fun _ _ _ _ _ _ => R7) (fun _ _ _ _ _ _ => (L9 xt1 (Q1 qp1 (pv 0) S5 (S6 B5)) (wj4 (A6 (N0 P5 rfl T.z_tuple boot_tuple (A6 (D6 qi8 rfl T.z_sorted boot_sorted (A6 (D7 (B9 (C6 hr)) (pv 0) B5 (fun _ _ => rfl)) B0)) B0)) (A6 (N0 P5 rfl T.z_tuple boot_tuple (A6 (D6 qi8 rfl T.z_sorted boot_sorted (A6 (D7 (B9 (C6 hr)) (pv 0) B5 (fun _ _ => rfl)) B0)) B0)) B0)))))) B0))
 exact B0
theorem xe2 (T : Txt K mg t) : N5 P w K mg base CX0 4 t.f_host_fits.a t.f_host_fits.d ["rows", "row"] (qb6 K) := by
 refine T.f_host_fits.F.ok qy7 (ws4 K) (fun cdv A outer s H vs Q E hr h => ⟨qf0 K t.c_HOST_SORTS, ?_, xa6 T.q_HOST_SORTS h⟩)
 have S := qy7
 refine B2 ?_ ?_
 ·refine G4 ?_ ?_ ?_
  ·exact (C0 (qg6 (R0 hr)) (D7 (B9 (C6 hr)) (pv 1) (E3 rfl T.g_SORT.1 T.g_SORT.2) (fun _ _ => rfl)) D4 (C8 _))
  ·refine B4 ?_
   exact (C7 Z0)
  ·exact D0
 refine B2 ?_ ?_
 ·refine G4 ?_ ?_ ?_
  ·exact (PW.pt (Z9 (C0 (S8 (C6 hr)) (C1 (wq1 T) (hr.mono (by walk_at "le")) rfl T.f_sort_of.m T.f_sort_of.F.kp T.f_sort_of.b .nil E5 (A6 (pv 0) (A6 (D7 (B9 (C6 hr)) (pv 1) (E3 rfl T.g_HOST.1 T.g_HOST.2) (fun _ _ => rfl)) B0))) (E3 rfl T.g_HOST_SORTS rfl) (by with_unfolding_all rfl)) (U9 (U8 (C1 (wu3 T) (hr.mono (by walk_at "le")) rfl T.f_comes_back.m T.f_comes_back.F.kp T.f_comes_back.b .nil E5 (A6 (pv 0) (A6 (D7 (B9 (C6 hr)) (pv 1) (E3 rfl T.g_NAME.1 T.g_NAME.2) (fun _ _ => rfl)) B0)))))))
  ·refine B4 ?_
   exact (C7 Z0)
  ·exact D0
 refine B4 ?_
 refine C7 ?_
 refine T8 (M7 (R0 hr)) ?_ ?_ (C8 _)
 ·refine C1 (qo5 T) (hr.mono (by walk_at "le")) rfl T.f_frame_of.m T.f_frame_of.F.kp T.f_frame_of.b .nil E5 ?_
  refine A6 ?_ ?_
  ·exact (pv 0)
  refine A6 ?_ ?_
  ·exact (D7 (B9 (C6 hr)) (pv 1) (E3 rfl T.g_HOST.1 T.g_HOST.2) (fun _ _ => rfl))
  exact B0
 ·exact (D7 (B9 (C6 hr)) (pv 1) (E3 rfl T.g_NAME.1 T.g_NAME.2) (fun _ _ => rfl))
theorem xe3 (T : Txt K mg t) : N5 P w K mg base CX0 4 t.f_shuts_fit.a t.f_shuts_fit.d ["rows", "row"] (qb5 K) := by
 refine T.f_shuts_fit.F.ok qy8 (wr9 K) (fun cdv A outer s H vs Q E hr h => ⟨qe9 K, ?_, xa5 h⟩)
 have S := qy8
 refine B2 ?_ ?_
 ·refine G4 ?_ ?_ ?_
  ·exact (PW.pt (qi0 (C0 wy5 (D6 G9 rfl T.z_len boot_len (A6 (D7 (B9 (C6 hr)) (pv 1) (E3 rfl T.g_SHUTS.1 T.g_SHUTS.2) (fun _ _ => rfl)) B0)) B5 (C8 _)) (qb1 (C0 qh3 (C1 (qo5 T) (hr.mono (by walk_at "le")) rfl T.f_frame_of.m T.f_frame_of.F.kp T.f_frame_of.b .nil E5 (A6 (pv 0) (A6 (D7 (B9 (C6 hr)) (pv 1) (E3 rfl T.g_NAME.1 T.g_NAME.2) (fun _ _ => rfl)) B0))) M6 (C8 _)))))
  ·refine B4 ?_
   exact (C7 Z0)
  ·exact D0
 refine B2 ?_ ?_
 ·exact (wy3 (i := 2) S.nd rfl rfl rfl (G6 (osc := B8 qg3) (ON := ["rows", "row", "hosts"]) (N := ["rows", "name"]) (fr := [some 0, none]) (by decide +kernel) rfl rfl) (Q8 (D7 (B9 (C6 hr)) (pv 1) (E3 rfl T.g_SHUTS.1 T.g_SHUTS.2) (fun _ _ => rfl))) (fun _ _ _ _ _ _ => (E1 (i := 1) (show List.Nodup (["rows", "name"] : List Str) by decide +kernel) rfl (Or.inl rfl))) O5 (fun _ _ _ _ _ _ => (qu2 (C0 qh3 (C1 (qo5 T) (hr.mono (by walk_at "le")) rfl T.f_frame_of.m T.f_frame_of.F.kp T.f_frame_of.b .nil E5 (A6 (pv 0) (A6 (pv 1) B0))) M6 (C8 _)))) (fun _ _ _ _ _ _ => (pv 1)))
 refine B4 ?_
 exact (C7 (qz4 (T8 (M7 (R0 hr)) (D6 G9 rfl T.z_len boot_len (A6 (pv 2) B0)) B5 (C8 _)) (wi9 (C1 (ql4 T) (hr.mono (by walk_at "le")) rfl T.f_may_be_named.m T.f_may_be_named.F.kp T.f_may_be_named.b .nil E5 (A6 (pv 0) (A6 (D7 (B9 (C6 hr)) (pv 1) (E3 rfl T.g_SHUTS.1 T.g_SHUTS.2) (fun _ _ => rfl)) B0))))))
theorem xl4 (T : Txt K mg t) : N5 P w K mg base CX0 4 t.f_bars_fit.a t.f_bars_fit.d ["rows", "row"] (qe8 K) := by
 refine T.f_bars_fit.F.ok we0 (xa4 K) (fun cdv A outer s H vs Q E hr h => ⟨qj2 K, ?_, xi6 h⟩)
 have S := we0
 refine B4 ?_
 exact (C7 (C1 (ql4 T) (hr.mono (by walk_at "le")) rfl T.f_may_be_named.m T.f_may_be_named.F.kp T.f_may_be_named.b .nil E5 (A6 (pv 0) (A6 (D7 (B9 (C6 hr)) (pv 1) (E3 rfl T.g_BARS.1 T.g_BARS.2) (fun _ _ => rfl)) B0))))
theorem wf0 (T : Txt K mg t) : N5 P w K mg base CX0 4 t.f_read_row.a t.f_read_row.d ["words"] (qa3 K) := by
 refine T.f_read_row.F.ok we1 (xb9 K) (fun cdv A outer s H vs Q E hr h => ⟨qj4 K t.c_SORTS, ?_, xi9 T.q_SORTS h⟩)
 have S := we1
 refine B2 ?_ ?_
 ·refine G4 ?_ ?_ ?_
  ·exact (PW.pt (Z9 (C0 qm8 (D6 G9 rfl T.z_len boot_len (A6 (pv 0) B0)) B5 (C8 _)) (Z9 (qi1 (U8 (C1 (qe2 T) (hr.mono (by walk_at "le")) rfl T.f_is_name.m T.f_is_name.F.kp T.f_is_name.b .nil E5 (A6 (D7 (B9 (C6 hr)) (pv 0) B5 (fun _ _ => rfl)) B0)))) (U9 (C0 (S8 (C6 hr)) (D7 (B9 (C6 hr)) (pv 0) B5 (fun _ _ => rfl)) (E3 rfl T.g_SORTS rfl) (by with_unfolding_all rfl))))))
  ·refine B4 ?_
   exact (C7 M6)
  ·exact D0
 refine B2 ?_ ?_
 ·refine C9 (i := 1) S.nd rfl (Or.inl rfl) ?_ rfl ?_
  ·exact D4
  ·walk_at "or"
 refine B2 ?_ ?_
 ·refine C9 (i := 2) S.nd rfl (Or.inl rfl) ?_ rfl ?_
  ·exact B5
  ·walk_at "or"
 refine B2 ?_ ?_
 ·refine G4 ?_ ?_ ?_
  ·exact (C0 (M7 (R0 hr)) (D7 (B9 (C6 hr)) (pv 0) B5 (fun _ _ => rfl)) D4 (C8 _))
  ·refine B2 ?_ ?_
   ·refine G4 ?_ ?_ ?_
    ·exact (PW.pt (Z9 (C0 qm8 (D6 G9 rfl T.z_len boot_len (A6 (pv 0) B0)) B5 (C8 _)) (U9 (qi1 (U8 (C1 (qe2 T) (hr.mono (by walk_at "le")) rfl T.f_is_name.m T.f_is_name.F.kp T.f_is_name.b .nil E5 (A6 (D7 (B9 (C6 hr)) (pv 0) B5 (fun _ _ => rfl)) B0)))))))
    ·refine B4 ?_
     exact (C7 M6)
    ·exact D0
   refine B2 ?_ ?_
   ·refine C9 (i := 1) S.nd rfl (Or.inl rfl) ?_ rfl ?_
    ·exact (D7 (B9 (C6 hr)) (pv 0) B5 (fun _ _ => rfl))
    ·walk_at "or"
   refine B4 ?_
   refine C9 (i := 2) S.nd rfl (Or.inl rfl) ?_ rfl ?_
   ·exact B5
   ·walk_at "or"
  ·exact D0
 refine B2 ?_ ?_
 ·refine C9 (i := 3) S.nd rfl (Or.inl rfl) ?_ rfl ?_
  ·exact (C1 (ql5 T) (hr.mono (by walk_at "le")) rfl T.f_names_behind.m T.f_names_behind.F.kp T.f_names_behind.b .nil E5 (A6 D4 (A6 (Q1 qn0 (pv 0) (S6 (pv 2)) S5) B0)))
  ·walk_at "or"
 refine B2 ?_ ?_
 ·refine C9 (i := 2) S.nd rfl (Or.inl rfl) ?_ rfl ?_
  ·exact (L9 L8 (pv 2) (C1 (qz3 T) (hr.mono (by walk_at "le")) rfl T.f_words_for.m T.f_words_for.F.kp T.f_words_for.b .nil E5 (A6 (pv 3) B0)))
  ·walk_at "or"
 refine B2 ?_ ?_
 ·refine C9 (i := 4) S.nd rfl (Or.inl rfl) ?_ rfl ?_
  ·exact (C1 (ql5 T) (hr.mono (by walk_at "le")) rfl T.f_names_behind.m T.f_names_behind.F.kp T.f_names_behind.b .nil E5 (A6 D4 (A6 (Q1 qn0 (pv 0) (S6 (pv 2)) S5) B0)))
  ·walk_at "or"
 refine B2 ?_ ?_
 ·refine G4 ?_ ?_ ?_
  ·exact (C0 (qg6 (R0 hr)) (L9 L8 (pv 2) (C1 (qz3 T) (hr.mono (by walk_at "le")) rfl T.f_words_for.m T.f_words_for.F.kp T.f_words_for.b .nil E5 (A6 (pv 4) B0))) (D6 G9 rfl T.z_len boot_len (A6 (pv 0) B0)) (C8 _))
  ·refine B4 ?_
   exact (C7 M6)
  ·exact D0
 refine B4 ?_
 refine C7 ?_
 refine wj4 ?_
 refine A6 ?_ ?_
 ·exact (D7 (B9 (C6 hr)) (pv 0) B5 (fun _ _ => rfl))
 refine A6 ?_ ?_
 ·exact (D7 (B9 (C6 hr)) (pv 0) B5 (fun _ _ => rfl))
 refine A6 ?_ ?_
 ·exact (pv 1)
 refine A6 ?_ ?_
 ·exact (N0 P5 rfl T.z_tuple boot_tuple (A6 (D6 qu6 rfl T.z_sorted boot_sorted (A6 (pv 3) B0)) B0))
 refine A6 ?_ ?_
 ·exact (N0 P5 rfl T.z_tuple boot_tuple (A6 (D6 qu6 rfl T.z_sorted boot_sorted (A6 (pv 4) B0)) B0))
 exact B0
theorem yu1 (T : Txt K mg t) : N5 P w K mg base CX0 5 t.f_fits.a t.f_fits.d ["rows", "row"] (wh6 K) := by
 refine T.f_fits.F.ok xv9 (yk1 K) (fun cdv A outer s H vs Q E hr h => ⟨xa7 K, ?_, ys0 h⟩)
 have S := xv9
 refine B4 ?_
 refine C7 ?_
 exact (qz4 (C1 (xe2 T) (hr.mono (by walk_at "le")) rfl T.f_host_fits.m T.f_host_fits.F.kp T.f_host_fits.b .nil E5 (A6 (pv 0) (A6 (pv 1) B0))) (qz4 (C1 (xe3 T) (hr.mono (by walk_at "le")) rfl T.f_shuts_fit.m T.f_shuts_fit.F.kp T.f_shuts_fit.b .nil E5 (A6 (pv 0) (A6 (pv 1) B0))) (wi9 (C1 (xl4 T) (hr.mono (by walk_at "le")) rfl T.f_bars_fit.m T.f_bars_fit.F.kp T.f_bars_fit.b .nil E5 (A6 (pv 0) (A6 (pv 1) B0))))))
theorem xe4 (T : Txt K mg t) : N5 P w K mg base CX0 5 t.f_read_rows.a t.f_read_rows.d ["text"] (qb7 K) := by
 refine T.f_read_rows.F.ok qc7 (wt1 K) (fun cdv A outer s H vs Q E hr h => ⟨qf2 K, ?_, xc2 h⟩)
 have S := qc7
 refine B2 ?_ ?_
 ·refine C9 (i := 1) S.nd rfl (Or.inl rfl) ?_ rfl ?_
  ·exact (E9 B0)
  ·walk_at "or"
 refine B2 ?_ ?_
 ·refine V0 PassesOwn.never rfl ?_ ?_ ?_
  ·exact (wm1 rfl T.z_enumerate (A6 (T6 PySem.F.plainAttrs_str PySem.F.slot_str_split PySem.F.type_str_split qv3 (pv 0) (A6 D4 B0)) B0))
  ·exact (wj1 rfl (Q0 (E1 (i := 2) S.nd rfl (Or.inl rfl)) (Q0 (E1 (i := 3) S.nd rfl (Or.inl rfl)) qt5)))
  ·refine B2 ?_ ?_
   ·refine C9 (i := 4) S.nd rfl (Or.inl rfl) ?_ rfl ?_
    ·refine C1 (wf0 T) (hr.mono (by walk_at "le")) rfl T.f_read_row.m T.f_read_row.F.kp T.f_read_row.b .nil E5 ?_
     refine A6 ?_ ?_
     ·exact (T6 PySem.F.plainAttrs_str PySem.F.slot_str_split PySem.F.type_str_split qv3 (pv 3) (A6 D4 B0))
     exact B0
    ·walk_at "or"
   refine B2 ?_ ?_
   ·refine G4 ?_ ?_ ?_
    ·exact (PW.pt (Z9 (C0 qr6 (pv 4) M6 (C8 _)) (U9 (C0 ye5 (pv 2) (E3 rfl T.g_MOST_ROWS.1 T.g_MOST_ROWS.2) (C8 _)))))
    ·refine B4 ?_
     exact wj0
    ·exact D0
   refine B4 ?_
   exact (S4 (T6 PySem.F.plainAttrs_list PySem.F.slot_list_append PySem.F.type_list_append Q3 (pv 1) (A6 (pv 4) B0)))
 refine B4 ?_
 exact (C7 (pv 1))
theorem wu4 (T : Txt K mg t) : N5 P w K mg base (Fly P w) 5 t.f_read_rows.a t.f_read_rows.d ["text"] (Y6 K t.k_NoText) := by
 refine T.f_read_rows.F.okX qc7 (wo4 K _) (fun cdv A outer s H vs Q E hr h => ⟨T0 K t.k_NoText E, ?_, wt2 T.se_NoText h⟩)
 have S := qc7
 refine B2 ?_ ?_
 ·refine C9 (i := 1) S.nd rfl (Or.inl rfl) ?_ rfl ?_
  ·exact (E9 B0)
  ·walk_at "or"
 refine B2 ?_ ?_
 ·refine V0 za5 rfl ?_ ?_ ?_
  ·exact (wm1 rfl T.z_enumerate (A6 (T6 PySem.F.plainAttrs_str PySem.F.slot_str_split PySem.F.type_str_split qv3 (pv 0) (A6 D4 B0)) B0))
  ·exact (wj1 rfl (Q0 (E1 (i := 2) S.nd rfl (Or.inl rfl)) (Q0 (E1 (i := 3) S.nd rfl (Or.inl rfl)) qt5)))
  ·refine B2 ?_ ?_
   ·refine C9 (i := 4) S.nd rfl (Or.inl rfl) ?_ rfl ?_
    ·refine C1 (wf0 T) (hr.mono (by walk_at "le")) rfl T.f_read_row.m T.f_read_row.F.kp T.f_read_row.b .nil E5 ?_
     refine A6 ?_ ?_
     ·exact (T6 PySem.F.plainAttrs_str PySem.F.slot_str_split PySem.F.type_str_split qv3 (pv 3) (A6 D4 B0))
     exact B0
    ·walk_at "or"
   refine B2 ?_ ?_
   ·refine G4 ?_ ?_ ?_
    ·exact (PW.pt (Z9 (C0 qr6 (pv 4) M6 (C8 _)) (U9 (C0 ye5 (pv 2) (E3 rfl T.g_MOST_ROWS.1 T.g_MOST_ROWS.2) (C8 _)))))
    ·refine B4 ?_
     exact (wa4 T.m_i_NoText (we9 T) (hr.mono (by walk_at "le")) T.b_i_NoText qr9 rfl rfl (A6 (pv 2) B0))
    ·exact D0
   refine B4 ?_
   exact (S4 (T6 PySem.F.plainAttrs_list PySem.F.slot_list_append PySem.F.type_list_append Q3 (pv 1) (A6 (pv 4) B0)))
 refine B4 ?_
 exact (C7 (pv 1))
theorem qa5 (T : Txt K mg t) : N5 P w K mg base CX0 6 t.f_first_misfit.a t.f_first_misfit.d ["rows"] (P1 K) := by
 refine T.f_first_misfit.F.ok qk9 (wb2 K) (fun cdv A outer s H vs Q E hr h => ⟨V8 K, ?_, wg0 h⟩)
 have S := qk9
 refine B2 ?_ ?_
 ·refine C9 (i := 1) S.nd rfl (Or.inl rfl) ?_ rfl ?_
  ·exact (C1 (wu2 T) (hr.mono (by walk_at "le")) rfl T.f_first_rows.m T.f_first_rows.F.kp T.f_first_rows.b .nil E5 (A6 (pv 0) B0))
  ·walk_at "or"
 refine B2 ?_ ?_
 ·refine V0 PassesOwn.never rfl ?_ ?_ ?_
  ·exact (yi9 rfl T.z_enumerate (A6 (pv 0) B0))
  ·exact (wj1 rfl (Q0 (E1 (i := 2) S.nd rfl (Or.inl rfl)) (Q0 (E1 (i := 3) S.nd rfl (Or.inl rfl)) qt5)))
  ·refine B2 ?_ ?_
   ·refine C9 (i := 4) S.nd rfl (Or.inl rfl) ?_ rfl ?_
    ·refine T8 qh3 ?_ ?_ (C8 _)
     ·refine C1 (qq0 T) (hr.mono (by walk_at "le")) rfl T.f_row_of.m T.f_row_of.F.kp T.f_row_of.b .nil E5 ?_
      refine A6 ?_ ?_
      ·exact (Q1 qp1 (pv 0) S5 (S6 (pv 2)))
      refine A6 ?_ ?_
      ·exact (D7 (B9 (C6 hr)) (pv 3) (E3 rfl T.g_NAME.1 T.g_NAME.2) (fun _ _ => rfl))
      exact B0
     ·exact M6
    ·walk_at "or"
   refine B4 ?_
   refine G4 ?_ ?_ ?_
   ·exact (PW.pt (Z9 (U8 (pv 4)) (U9 (qi1 (U8 (C1 (yu1 T) (hr.mono (by walk_at "le")) rfl T.f_fits.m T.f_fits.F.kp T.f_fits.b .nil E5 (A6 (pv 1) (A6 (pv 3) B0))))))))
   ·refine B4 ?_
    exact (C7 (pv 2))
   ·exact D0
 refine B4 ?_
 exact (C7 M6)
theorem xq9 (T : Txt K mg t) : N5 P w K mg base CX0 7 t.f_is_book.a t.f_is_book.d ["rows"] (qj8 K) := by
 refine T.f_is_book.F.ok wp8 (xj3 K) (fun cdv A outer s H vs Q E hr h => ⟨qp7 K, ?_, xq1 h⟩)
 have S := wp8
 refine B2 ?_ ?_
 ·refine G4 ?_ ?_ ?_
  ·exact (PW.pt (Z9 (C0 wy5 (D6 G9 rfl T.z_len boot_len (A6 (pv 0) B0)) (E3 rfl T.g_MOST_ROWS.1 T.g_MOST_ROWS.2) (C8 _)) (U9 (qi1 (U8 (D6 (qp0 rfl) rfl T.z_all boot_all (A6 (P9 rfl (G6 (osc := B8 qp9) (ON := ["rows"]) (N := ["row"]) (fr := [none]) (by decide +kernel) rfl rfl) (Q8 (pv 0)) (fun _ _ _ _ _ _ => (E1 (i := 0) (show List.Nodup (["row"] : List Str) by decide +kernel) rfl (Or.inl rfl))) O5 (fun _ _ _ _ _ _ => R7) (fun _ _ _ _ _ _ => (C1 (xl2 T) (hr.mono (by walk_at "le")) rfl T.f_has_form.m T.f_has_form.F.kp T.f_has_form.b .nil E5 (A6 (pv 0) B0)))) B0)))))))
  ·refine B4 ?_
   exact (C7 Z0)
  ·exact D0
 refine B4 ?_
 exact (C7 (T8 qr6 (C1 (qa5 T) (hr.mono (by walk_at "le")) rfl T.f_first_misfit.m T.f_first_misfit.F.kp T.f_first_misfit.b .nil E5 (A6 (pv 0) B0)) M6 (C8 _)))
theorem xe5 (T : Txt K mg t) : N5 P w K mg base CX0 7 t.f_read_book.a t.f_read_book.d ["text"] (qb8 K) := by
 refine T.f_read_book.F.ok qc6 (wt5 K) (fun cdv A outer s H vs Q E hr h => ⟨qf4 K, ?_, xc6 h⟩)
 have S := qc6
 refine B2 ?_ ?_
 ·refine G4 ?_ ?_ ?_
  ·exact (qi1 (U8 (D6 X7 rfl T.z_isinstance boot_isinstance (A6 (pv 0) (A6 (xr0 rfl T.z_str boot_str rfl) B0)))))
  ·refine B4 ?_
   exact wj0
  ·exact D0
 refine B2 ?_ ?_
 ·refine C9 (i := 1) S.nd rfl (Or.inl rfl) ?_ rfl ?_
  ·exact (qh1 (C0 (M7 (R0 hr)) (pv 0) D4 (C8 _)) (E9 B0) (C1 (xe4 T) (hr.mono (by walk_at "le")) rfl T.f_read_rows.m T.f_read_rows.F.kp T.f_read_rows.b .nil E5 (A6 (pv 0) B0)))
  ·walk_at "or"
 refine B2 ?_ ?_
 ·refine C9 (i := 2) S.nd rfl (Or.inl rfl) ?_ rfl ?_
  ·exact (C1 (qa5 T) (hr.mono (by walk_at "le")) rfl T.f_first_misfit.m T.f_first_misfit.F.kp T.f_first_misfit.b .nil E5 (A6 (pv 1) B0))
  ·walk_at "or"
 refine B2 ?_ ?_
 ·refine G4 ?_ ?_ ?_
  ·exact (C0 qh3 (pv 2) M6 (C8 _))
  ·refine B4 ?_
   exact wj0
  ·exact D0
 refine B4 ?_
 exact (C7 (N0 P5 rfl T.z_tuple boot_tuple (A6 (pv 1) B0)))
theorem wu5 (T : Txt K mg t) : N5 P w K mg base (Fly P w) 7 t.f_read_book.a t.f_read_book.d ["text"] (Y7 K t.k_NoText t.k_NoBook) := by
 refine T.f_read_book.F.okX qc6 (wo6 K _ _) (fun cdv A outer s H vs Q E hr h => ⟨qb9 K t.k_NoText t.k_NoBook E, ?_, wt6 T.se_NoText T.se_NoBook h⟩)
 have S := qc6
 refine B2 ?_ ?_
 ·refine G4 ?_ ?_ ?_
  ·exact (qi1 (U8 (D6 X7 rfl T.z_isinstance boot_isinstance (A6 (pv 0) (A6 (xr0 rfl T.z_str boot_str rfl) B0)))))
  ·refine B4 ?_
   exact (wa4 T.m_i_NoText (we9 T) (hr.mono (by walk_at "le")) T.b_i_NoText qr9 rfl rfl (A6 B5 B0))
  ·exact D0
 refine B2 ?_ ?_
 ·refine C9 (i := 1) S.nd rfl (Or.inl rfl) ?_ rfl ?_
  ·exact (qh1 (C0 (M7 (R0 hr)) (pv 0) D4 (C8 _)) (E9 B0) (C1 (wu4 T) (hr.mono (by walk_at "le")) rfl T.f_read_rows.m T.f_read_rows.F.kp T.f_read_rows.b .nil xz6 (A6 (pv 0) B0)))
  ·walk_at "or"
 refine B2 ?_ ?_
 ·refine C9 (i := 2) S.nd rfl (Or.inl rfl) ?_ rfl ?_
  ·exact (C1 (qa5 T) (hr.mono (by walk_at "le")) rfl T.f_first_misfit.m T.f_first_misfit.F.kp T.f_first_misfit.b .nil E5 (A6 (pv 1) B0))
  ·walk_at "or"
 refine B2 ?_ ?_
 ·refine G4 ?_ ?_ ?_
  ·exact (C0 qh3 (pv 2) M6 (C8 _))
  ·refine B4 ?_
   exact (wa4 T.m_i_NoBook (xk9 T) (hr.mono (by walk_at "le")) T.b_i_NoBook qr9 rfl rfl (A6 (pv 2) B0))
  ·exact D0
 refine B4 ?_
 exact (C7 (N0 P5 rfl T.z_tuple boot_tuple (A6 (pv 1) B0)))
theorem xe6 (T : Txt K mg t) : N5 P w K mg base CX0 8 t.f__law_told.a t.f__law_told.d ["_law_text"] (qc3 K) := by
 refine T.f__law_told.F.ok qz2 (wu1 K) (fun cdv A outer s H vs Q E hr h => ⟨qg0 K t.k_NoText t.k_NoBook, ?_, xd3 T.ei_NoBook T.ei_NoText T.er h⟩)
 have S := qz2
 refine B2 ?_ ?_
 ·refine C9 (i := 1) S.nd rfl (Or.inl rfl) ?_ rfl ?_
  ·exact M6
  ·walk_at "or"
 refine B2 ?_ ?_
 ·refine C9 (i := 2) S.nd rfl (Or.inl rfl) ?_ rfl ?_
  ·exact M6
  ·walk_at "or"
 refine B2 ?_ ?_
 ·exact (yr6 (Cs := [t.k_NoText, t.k_NoBook]) (i := 3) (j := 2) (yq6 (wu5 T) (hr.mono (by walk_at "le")) rfl T.f_read_book.m T.f_read_book.F.kp T.f_read_book.b .nil (fun _ => (A6 (pv 0) B0))) rfl T.n_TagError (all_cons T.y_NoText_TagError (all_cons T.y_NoBook_TagError yr5)) S.nd rfl rfl rfl rfl (fun _ _ => (B4 (C9 (i := 1) S.nd rfl (Or.inl rfl) (pv 3)))))
 refine B2 ?_ ?_
 ·refine G4 ?_ ?_ ?_
  ·exact (C0 qr6 (pv 1) M6 (C8 _))
  ·refine B4 ?_
   exact (C7 (E9 (A6 D4 (A6 (pv 2) B0))))
  ·exact D0
 refine B2 ?_ ?_
 ·refine G4 ?_ ?_ ?_
  ·exact (C0 (M7 (R0 hr)) (D6 X9 rfl T.z_isinstance boot_isinstance (A6 (pv 1) (A6 (E3 rfl T.n_NoText rfl) B0))) (D6 X9 rfl T.z_isinstance boot_isinstance (A6 (pv 1) (A6 (E3 rfl T.n_NoBook rfl) B0))) (C8 _))
  ·refine B4 ?_
   exact (C7 (E9 (A6 D4 (A6 B5 B0))))
  ·exact D0
 refine B4 ?_
 exact (C7 (E9 (A6 (D7 (B9 (C6 hr)) (E9 (A6 D4 (A6 D4 B0))) (N0 wa0 rfl T.z_int boot_int (A6 (D6 X9 rfl T.z_isinstance boot_isinstance (A6 (pv 1) (A6 (E3 rfl T.n_NoText rfl) B0))) B0)) (fun _ _ => rfl)) (A6 (zb0 (pv 1) rfl) B0))))
theorem zd4 (T : Txt K mg t) : N5 P w K mg base CX0 9 t.f_law.a t.f_law.d ["_law_script"] (wc5 K) := by
 refine T.f_law.F.ok yn5 (yt8 K) (fun cdv A outer s H vs Q E hr h => ⟨xv7 K, ?_, zc8 h⟩)
 have S := yn5
 refine B2 ?_ ?_
 ·refine C9 (i := 1) S.nd rfl (Or.inr rfl) ?_ rfl ?_
  ·refine C1 (wq3 T) (hr.mono (by walk_at "le")) rfl T.f__law_family.m T.f__law_family.F.kp T.f__law_family.b .nil E5 ?_
   refine A6 ?_ ?_
   ·exact (C1 (U6 T) (hr.mono (by walk_at "le")) rfl T.f__law_cell_at.m T.f__law_cell_at.F.kp T.f__law_cell_at.b .nil E5 (A6 (pv 0) (A6 B5 B0)))
   refine A6 ?_ ?_
   ·exact (C1 (U6 T) (hr.mono (by walk_at "le")) rfl T.f__law_cell_at.m T.f__law_cell_at.F.kp T.f__law_cell_at.b .nil E5 (A6 (pv 0) (A6 B5 B0)))
   exact B0
  ·walk_at "or"
 refine B2 ?_ ?_
 ·refine C9 (i := 1) S.nd rfl (Or.inr rfl) ?_ rfl ?_
  ·exact (P9 rfl (G6 (osc := B8 qy5) (ON := ["_law_script", "_law_names", "_law_count", "_law_start", "_law_lines", "_law_due_here", "_law_text"]) (N := ["_law_name"]) (fr := [none]) (by decide +kernel) rfl rfl) (Q8 (pv 1)) (fun _ _ _ _ _ _ => (E1 (i := 0) (show List.Nodup (["_law_name"] : List Str) by decide +kernel) rfl (Or.inl rfl))) O5 (fun _ _ _ _ _ _ => R7) (fun _ _ _ _ _ _ => (D7 (B9 (C6 hr)) (E9 (A6 (pv 0) (A6 (L9 L8 (pv 0) D4) B0))) (N0 wa0 rfl T.z_int boot_int (A6 (T8 (X6 (C6 hr)) (pv 0) (E9 (A6 D4 (A6 D4 B0))) (by with_unfolding_all rfl)) B0)) (fun _ _ => rfl))))
  ·walk_at "or"
 refine B2 ?_ ?_
 ·refine C9 (i := 2) S.nd rfl (Or.inl rfl) ?_ rfl ?_
  ·exact (L9 L8 B5 (L9 qm0 (C1 (U6 T) (hr.mono (by walk_at "le")) rfl T.f__law_cell_at.m T.f__law_cell_at.F.kp T.f__law_cell_at.b .nil E5 (A6 (pv 0) (A6 B5 B0))) B5))
  ·walk_at "or"
 refine B2 ?_ ?_
 ·refine V0 PassesOwn.never rfl ?_ ?_ ?_
  ·exact (ya7 rfl T.z_range (A6 B5 (A6 (D6 (xz3 rfl) rfl T.z_max boot_max (A6 B5 (A6 (D6 (xz2 rfl) rfl T.z_min boot_min (A6 (D6 G9 rfl T.z_len boot_len (A6 (pv 0) B0)) (A6 B5 B0))) B0))) (A6 (pv 2) B0))))
  ·exact (E1 (i := 3) S.nd rfl (Or.inr rfl))
  ·refine B2 ?_ ?_
   ·exact (wy3 (i := 4) S.nd rfl rfl rfl (G6 (osc := B8 qy5) (ON := ["_law_script", "_law_names", "_law_count", "_law_start", "_law_lines", "_law_due_here", "_law_text"]) (N := ["_law_names", "_law_script", "_law_start", "_law_k"]) (fr := [some 1, some 0, some 3, none]) (by decide +kernel) rfl rfl) (V2 rfl T.z_range (A6 (pv 2) B0)) (fun _ _ _ _ _ _ => (E1 (i := 3) (show List.Nodup (["_law_names", "_law_script", "_law_start", "_law_k"] : List Str) by decide +kernel) rfl (Or.inl rfl))) O5 (fun _ _ _ _ _ _ => R7) (fun _ _ _ _ _ _ => (C1 (wd1 T) (hr.mono (by walk_at "le")) rfl T.f__law_words_of.m T.f__law_words_of.F.kp T.f__law_words_of.b .nil E5 (A6 (pv 0) (A6 (C1 (U6 T) (hr.mono (by walk_at "le")) rfl T.f__law_cell_at.m T.f__law_cell_at.F.kp T.f__law_cell_at.b .nil E5 (A6 (pv 1) (A6 (L9 L8 (pv 2) (pv 3)) B0))) B0)))))
   refine B2 ?_ ?_
   ·refine C9 (i := 5) S.nd rfl (Or.inl rfl) ?_ rfl ?_
    ·exact (C1 (xl3 T) (hr.mono (by walk_at "le")) rfl T.f__law_due.m T.f__law_due.F.kp T.f__law_due.b .nil E5 (A6 (pv 4) B0))
    ·walk_at "or"
   refine B2 ?_ ?_
   ·refine C9 (i := 6) S.nd rfl (Or.inl rfl) ?_ rfl ?_
    ·exact (T6 PySem.F.plainAttrs_str PySem.F.slot_str_join PySem.F.type_str_join wh1 D4 (A6 (P9 rfl (G6 (osc := B8 qy5) (ON := ["_law_script", "_law_names", "_law_count", "_law_start", "_law_lines", "_law_due_here", "_law_text"]) (N := ["_law_found"]) (fr := [none]) (by decide +kernel) rfl rfl) (Q8 (pv 4)) (fun _ _ _ _ _ _ => (E1 (i := 0) (show List.Nodup (["_law_found"] : List Str) by decide +kernel) rfl (Or.inl rfl))) O5 (fun _ _ _ _ _ _ => R7) (fun _ _ _ _ _ _ => (T6 PySem.F.plainAttrs_str PySem.F.slot_str_join PySem.F.type_str_join wh1 D4 (A6 (pv 0) B0)))) B0))
    ·walk_at "or"
   refine B2 ?_ ?_
   ·refine G4 ?_ ?_ ?_
    ·exact (C0 (M7 (R0 hr)) (pv 6) D4 (C8 _))
    ·refine B4 ?_
     refine C9 (i := 5) S.nd rfl (Or.inl rfl) ?_ rfl ?_
     ·exact (E9 (A6 D4 (A6 (wj4 B0) B0)))
     ·walk_at "or"
    ·exact D0
   refine B2 ?_ ?_
   ·refine G4 ?_ ?_ ?_
    ·exact (C0 (qg6 (R0 hr)) (C1 (xe6 T) (hr.mono (by walk_at "le")) rfl T.f__law_told.m T.f__law_told.F.kp T.f__law_told.b .nil E5 (A6 (pv 6) B0)) (pv 5) (C8 _))
    ·refine B4 ?_
     exact (C7 Z0)
    ·exact D0
   refine B4 ?_
   refine G4 ?_ ?_ ?_
   ·exact (C0 (M7 (R0 hr)) (D7 (B9 (C6 hr)) (pv 5) B5 (fun _ _ => rfl)) D4 (C8 _))
   ·refine B4 ?_
    refine G4 ?_ ?_ ?_
    ·exact (PW.pt (Z9 (C0 ya2 (C1 (xq9 T) (hr.mono (by walk_at "le")) rfl T.f_is_book.m T.f_is_book.F.kp T.f_is_book.b .nil E5 (A6 (D7 (B9 (C6 hr)) (pv 5) B5 (fun _ _ => rfl)) B0)) Z0 (C8 _)) (U9 (C0 (qg6 (R0 hr)) (C1 (xe5 T) (hr.mono (by walk_at "le")) rfl T.f_read_book.m T.f_read_book.F.kp T.f_read_book.b .nil E5 (A6 (C1 (xe1 T) (hr.mono (by walk_at "le")) rfl T.f_show_book.m T.f_show_book.F.kp T.f_show_book.b .nil E5 (A6 (D7 (B9 (C6 hr)) (pv 5) B5 (fun _ _ => rfl)) B0)) B0)) (D7 (B9 (C6 hr)) (pv 5) B5 (fun _ _ => rfl)) (C8 _)))))
    ·refine B4 ?_
     exact (C7 Z0)
    ·exact D0
   ·exact D0
 refine B4 ?_
 exact (C7 Z0)
end
theorem ln1 {us : List Value} (h : us.length = 1) : ∃ x0, us = [x0] := by
 rcases us with _ | ⟨x0, _ | ⟨y, us⟩⟩
 ·cases h
 ·exact ⟨x0, rfl⟩
 ·cases h
theorem ln2 {us : List Value} (h : us.length = 2) : ∃ x0 x1, us = [x0, x1] := by
 rcases us with _ | ⟨x0, _ | ⟨x1, _ | ⟨y, us⟩⟩⟩
 ·cases h
 ·cases h
 ·exact ⟨x0, x1, rfl⟩
 ·cases h
theorem all_mk {l : PySem.W.OpenLaw} {w : World} {h : Heap} {fa f0 f1 f2 f3 f4 f5 f6 f7 f8 f9 f10 f11 f12 f13 f14 f15 f16 f17 f18 f19 f20 f21 f22 f23 f24 f25 f26 f27 f28 f29 f30 f31 f32 f33 f34 f35 f36 f37 : Addr} (X : K.In h) (G : h.Ns mainGlobals mg) (hfa : mg "law" = some (.ref fa)) {d0 d1 d2 d3 d4 d5 d6 d7 d8 d9 d10 d11 d12 d13 d14 d15 d16 d17 d18 d19 d20 d21 d22 d23 d24 d25 d26 d27 d28 d29 d30 d31 d32 d33 d34 d35 d36 d37 : FuncData} {k_LONGEST_NAME k_MOST_ROWS k_NAME k_SORT k_HOST k_SHUTS k_BARS : Tok} {d_SORTS : Option Addr} {n_SORTS : Nat} {sl_SORTS : Array (Option Value)} {k_SORTS_0 k_SORTS_1 k_SORTS_2 k_SORTS_3 k_SORTS_4 : Tok} {c_HOST_SORTS : Addr} {d_HOST_SORTS : Option Addr} {n_HOST_SORTS : Nat} {sl_HOST_SORTS : Array (Option Value)} {k_HOST_SORTS_0 k_HOST_SORTS_1 : Tok} {c_SHUT_OR_BARRED_SORTS : Addr} {d_SHUT_OR_BARRED_SORTS : Option Addr} {n_SHUT_OR_BARRED_SORTS : Nat} {sl_SHUT_OR_BARRED_SORTS : Array (Option Value)} {k_SHUT_OR_BARRED_SORTS_0 k_SHUT_OR_BARRED_SORTS_1 : Tok} {c_KEYWORDS : Addr} {d_KEYWORDS : Option Addr} {n_KEYWORDS : Nat} {sl_KEYWORDS : Array (Option Value)} {k_KEYWORDS_0 k_KEYWORDS_1 : Tok} (eNoBook : PySem.W.nsIn K mainGlobals "NoBook" = some (some (.ref k_NoBook))) (eNoText : PySem.W.nsIn K mainGlobals "NoText" = some (some (.ref k_NoText))) (eTagError : PySem.W.nsIn K mainGlobals "TagError" = some (some (.ref k_TagError))) (a0 : PySem.W.nsIn K mainGlobals "is_name" = some (some (.ref f0))) (F0 : Fun K "is_name" "is_name" wc7 f0 d0) (a1 : PySem.W.nsIn K mainGlobals "has_letters_of_name" = some (some (.ref f1))) (F1 : Fun K "has_letters_of_name" "has_letters_of_name" O8 f1 d1) (a2 : PySem.W.nsIn K mainGlobals "is_rising" = some (some (.ref f2))) (F2 : Fun K "is_rising" "is_rising" qg2 f2 d2) (a3 : PySem.W.nsIn K mainGlobals "has_form" = some (some (.ref f3))) (F3 : Fun K "has_form" "has_form" qs5 f3 d3) (a4 : PySem.W.nsIn K mainGlobals "is_book" = some (some (.ref f4))) (F4 : Fun K "is_book" "is_book" qp9 f4 d4) (a5 : PySem.W.nsIn K mainGlobals "row_of" = some (some (.ref f5))) (F5 : Fun K "row_of" "row_of" wp6 f5 d5) (a6 : PySem.W.nsIn K mainGlobals "sort_of" = some (some (.ref f6))) (F6 : Fun K "sort_of" "sort_of" wc8 f6 d6) (a7 : PySem.W.nsIn K mainGlobals "host_of" = some (some (.ref f7))) (F7 : Fun K "host_of" "host_of" wc9 f7 d7) (a8 : PySem.W.nsIn K mainGlobals "frame_of" = some (some (.ref f8))) (F8 : Fun K "frame_of" "frame_of" qs6 f8 d8) (a9 : PySem.W.nsIn K mainGlobals "first_misfit" = some (some (.ref f9))) (F9 : Fun K "first_misfit" "first_misfit" qd9 f9 d9) (a10 : PySem.W.nsIn K mainGlobals "first_rows" = some (some (.ref f10))) (F10 : Fun K "first_rows" "first_rows" qk5 f10 d10) (a11 : PySem.W.nsIn K mainGlobals "fits" = some (some (.ref f11))) (F11 : Fun K "fits" "fits" xq8 f11 d11) (a12 : PySem.W.nsIn K mainGlobals "host_fits" = some (some (.ref f12))) (F12 : Fun K "host_fits" "host_fits" qn8 f12 d12) (a13 : PySem.W.nsIn K mainGlobals "comes_back" = some (some (.ref f13))) (F13 : Fun K "comes_back" "comes_back" qk6 f13 d13) (a14 : PySem.W.nsIn K mainGlobals "shuts_fit" = some (some (.ref f14))) (F14 : Fun K "shuts_fit" "shuts_fit" qg3 f14 d14) (a15 : PySem.W.nsIn K mainGlobals "bars_fit" = some (some (.ref f15))) (F15 : Fun K "bars_fit" "bars_fit" qs7 f15 d15) (a16 : PySem.W.nsIn K mainGlobals "may_be_named" = some (some (.ref f16))) (F16 : Fun K "may_be_named" "may_be_named" X2 f16 d16) (a17 : PySem.W.nsIn K mainGlobals "read_book" = some (some (.ref f17))) (F17 : Fun K "read_book" "read_book" qn9 f17 d17) (a18 : PySem.W.nsIn K mainGlobals "read_rows" = some (some (.ref f18))) (F18 : Fun K "read_rows" "read_rows" qo0 f18 d18) (a19 : PySem.W.nsIn K mainGlobals "read_row" = some (some (.ref f19))) (F19 : Fun K "read_row" "read_row" qs8 f19 d19) (a20 : PySem.W.nsIn K mainGlobals "names_behind" = some (some (.ref f20))) (F20 : Fun K "names_behind" "names_behind" qe0 f20 d20) (a21 : PySem.W.nsIn K mainGlobals "words_for" = some (some (.ref f21))) (F21 : Fun K "words_for" "words_for" qo1 f21 d21) (a22 : PySem.W.nsIn K mainGlobals "show_book" = some (some (.ref f22))) (F22 : Fun K "show_book" "show_book" qg4 f22 d22) (a23 : PySem.W.nsIn K mainGlobals "show_row" = some (some (.ref f23))) (F23 : Fun K "show_row" "show_row" qs9 f23 d23) (a24 : PySem.W.nsIn K mainGlobals "keyed" = some (some (.ref f24))) (F24 : Fun K "keyed" "keyed" xd9 f24 d24) (a25 : PySem.W.nsIn K mainGlobals "_law_cell_at" = some (some (.ref f25))) (F25 : Fun K "_law_cell_at" "_law_cell_at" qe1 f25 d25) (a26 : PySem.W.nsIn K mainGlobals "_law_pot" = some (some (.ref f26))) (F26 : Fun K "_law_pot" "_law_pot" qt0 f26 d26) (a27 : PySem.W.nsIn K mainGlobals "_law_take" = some (some (.ref f27))) (F27 : Fun K "_law_take" "_law_take" qo2 f27 d27) (a28 : PySem.W.nsIn K mainGlobals "_law_family" = some (some (.ref f28))) (F28 : Fun K "_law_family" "_law_family" Y9 f28 d28) (a29 : PySem.W.nsIn K mainGlobals "_law_words_of" = some (some (.ref f29))) (F29 : Fun K "_law_words_of" "_law_words_of" U5 f29 d29) (a30 : PySem.W.nsIn K mainGlobals "_law_is_name" = some (some (.ref f30))) (F30 : Fun K "_law_is_name" "_law_is_name" X3 f30 d30) (a31 : PySem.W.nsIn K mainGlobals "_law_row" = some (some (.ref f31))) (F31 : Fun K "_law_row" "_law_row" qt1 f31 d31) (a32 : PySem.W.nsIn K mainGlobals "_law_is_wrong" = some (some (.ref f32))) (F32 : Fun K "_law_is_wrong" "_law_is_wrong" N9 f32 d32) (a33 : PySem.W.nsIn K mainGlobals "_law_due" = some (some (.ref f33))) (F33 : Fun K "_law_due" "_law_due" Y2 f33 d33) (a34 : PySem.W.nsIn K mainGlobals "_law_told" = some (some (.ref f34))) (F34 : Fun K "_law_told" "_law_told" qo3 f34 d34) (a35 : PySem.W.nsIn K mainGlobals "law" = some (some (.ref f35))) (F35 : Fun K "law" "law" qy5 f35 d35) (a36 : PySem.W.findIn K (.ref k_NoBook) "__init__" = some (some (.ref f36))) (F36 : Fun K "__init__" "NoBook.__init__" qt2 f36 d36) (a37 : PySem.W.findIn K (.ref k_NoText) "__init__" = some (some (.ref f37))) (F37 : Fun K "__init__" "NoText.__init__" qt3 f37 d37) (uLONGEST_NAME : PySem.W.nsIn K mainGlobals "LONGEST_NAME" = some (some (.int 8 k_LONGEST_NAME))) (uMOST_ROWS : PySem.W.nsIn K mainGlobals "MOST_ROWS" = some (some (.int 12 k_MOST_ROWS))) (uNAME : PySem.W.nsIn K mainGlobals "NAME" = some (some (.int 0 k_NAME))) (uSORT : PySem.W.nsIn K mainGlobals "SORT" = some (some (.int 1 k_SORT))) (uHOST : PySem.W.nsIn K mainGlobals "HOST" = some (some (.int 2 k_HOST))) (uSHUTS : PySem.W.nsIn K mainGlobals "SHUTS" = some (some (.int 3 k_SHUTS))) (uBARS : PySem.W.nsIn K mainGlobals "BARS" = some (some (.int 4 k_BARS))) (uSORTS : PySem.W.nsIn K mainGlobals "SORTS" = some (some (.ref c_SORTS))) (wSORTS : K.lookup c_SORTS = some ⟨.type "tuple", d_SORTS, .seq #[.str ("bare" : Str) k_SORTS_0, .str ("plain" : Str) k_SORTS_1, .str ("anew" : Str) k_SORTS_2, .str ("room" : Str) k_SORTS_3, .str ("frame" : Str) k_SORTS_4] n_SORTS, sl_SORTS⟩) (uHOST_SORTS : PySem.W.nsIn K mainGlobals "HOST_SORTS" = some (some (.ref c_HOST_SORTS))) (wHOST_SORTS : K.lookup c_HOST_SORTS = some ⟨.type "tuple", d_HOST_SORTS, .seq #[.str ("plain" : Str) k_HOST_SORTS_0, .str ("frame" : Str) k_HOST_SORTS_1] n_HOST_SORTS, sl_HOST_SORTS⟩) (uSHUT_OR_BARRED_SORTS : PySem.W.nsIn K mainGlobals "SHUT_OR_BARRED_SORTS" = some (some (.ref c_SHUT_OR_BARRED_SORTS))) (wSHUT_OR_BARRED_SORTS : K.lookup c_SHUT_OR_BARRED_SORTS = some ⟨.type "tuple", d_SHUT_OR_BARRED_SORTS, .seq #[.str ("plain" : Str) k_SHUT_OR_BARRED_SORTS_0, .str ("anew" : Str) k_SHUT_OR_BARRED_SORTS_1] n_SHUT_OR_BARRED_SORTS, sl_SHUT_OR_BARRED_SORTS⟩) (uKEYWORDS : PySem.W.nsIn K mainGlobals "KEYWORDS" = some (some (.ref c_KEYWORDS))) (wKEYWORDS : K.lookup c_KEYWORDS = some ⟨.type "tuple", d_KEYWORDS, .seq #[.str ("shuts" : Str) k_KEYWORDS_0, .str ("bars" : Str) k_KEYWORDS_1] n_KEYWORDS, sl_KEYWORDS⟩) (qNoBook : wf4 K k_NoBook = true) (tfNoBook : PySem.W.typeIn K (.ref f36) = some (.type "function")) (kpNoBook : PySem.W.keepIn K (.ref k_NoBook) = true) (bxNoBook : PySem.W.subIn K (.ref k_NoBook) (.type "BaseException") = some true) (obNoBook : PySem.W.subIn K (.ref k_NoBook) (.type "object") = some true) (icNoBook : PySem.W.isClsIn K k_NoBook = true) (itNoBook : PySem.W.typeIn K (.ref k_NoBook) = some (.type "type")) (gaNoBook : PySem.W.findIn K (.ref k_NoBook) "__getattribute__" = some (some (.builtin "BaseException.__getattribute__"))) (gnNoBook : PySem.W.findIn K (.ref k_NoBook) "__getattr__" = some none) (clNoBook : PySem.W.findIn K (.ref k_NoBook) "__class__" = some (some (.builtin "object.__class__"))) (saNoBook : PySem.W.findIn K (.ref k_NoBook) "__setattr__" = some (some (.builtin "object.__setattr__"))) (hyNoBook : PySem.W.findIn K (.ref k_NoBook) "row" = some none) (qNoText : wf4 K k_NoText = true) (tfNoText : PySem.W.typeIn K (.ref f37) = some (.type "function")) (kpNoText : PySem.W.keepIn K (.ref k_NoText) = true) (bxNoText : PySem.W.subIn K (.ref k_NoText) (.type "BaseException") = some true) (obNoText : PySem.W.subIn K (.ref k_NoText) (.type "object") = some true) (icNoText : PySem.W.isClsIn K k_NoText = true) (itNoText : PySem.W.typeIn K (.ref k_NoText) = some (.type "type")) (gaNoText : PySem.W.findIn K (.ref k_NoText) "__getattribute__" = some (some (.builtin "BaseException.__getattribute__"))) (gnNoText : PySem.W.findIn K (.ref k_NoText) "__getattr__" = some none) (clNoText : PySem.W.findIn K (.ref k_NoText) "__class__" = some (some (.builtin "object.__class__"))) (saNoText : PySem.W.findIn K (.ref k_NoText) "__setattr__" = some (some (.builtin "object.__setattr__"))) (hyNoText : PySem.W.findIn K (.ref k_NoText) "row" = some none) (bgTagError : PySem.W.specialIn K (.ref k_TagError) "__getattribute__" = some (some (.builtin "type.__getattribute__"))) (brTagError : PySem.W.readsIn K k_TagError (.type "type") = true) (beTagError : PySem.W.findCls K (.ref k_TagError) (.type "type") "__init__" = some (.val (.builtin "ValueError.__init__"))) (rga_NoBook : PySem.W.findIn K (.ref k_NoBook) "__getattribute__" = some (some (.builtin "BaseException.__getattribute__"))) (rgn_NoBook : PySem.W.findIn K (.ref k_NoBook) "__getattr__" = some none) (rcl_NoBook : PySem.W.findIn K (.ref k_NoBook) "__class__" = some (some (.builtin "object.__class__"))) (rbx_NoBook : PySem.W.subIn K (.ref k_NoBook) (.type "BaseException") = some true) (rob_NoBook : PySem.W.subIn K (.ref k_NoBook) (.type "object") = some true) (rve_NoBook : PySem.W.subIn K (.ref k_NoBook) (.type "ValueError") = some true) (rs_NoBook_NoBook : PySem.W.subIn K (.ref k_NoBook) (.ref k_NoBook) = some true) (rs_NoBook_NoText : PySem.W.subIn K (.ref k_NoBook) (.ref k_NoText) = some false) (rga_NoText : PySem.W.findIn K (.ref k_NoText) "__getattribute__" = some (some (.builtin "BaseException.__getattribute__"))) (rgn_NoText : PySem.W.findIn K (.ref k_NoText) "__getattr__" = some none) (rcl_NoText : PySem.W.findIn K (.ref k_NoText) "__class__" = some (some (.builtin "object.__class__"))) (rbx_NoText : PySem.W.subIn K (.ref k_NoText) (.type "BaseException") = some true) (rob_NoText : PySem.W.subIn K (.ref k_NoText) (.type "object") = some true) (rve_NoText : PySem.W.subIn K (.ref k_NoText) (.type "ValueError") = some true) (rs_NoText_NoBook : PySem.W.subIn K (.ref k_NoText) (.ref k_NoBook) = some false) (rs_NoText_NoText : PySem.W.subIn K (.ref k_NoText) (.ref k_NoText) = some true) (ric_NoBook : PySem.W.isClsIn K k_NoBook = true) (rit_NoBook : PySem.W.typeIn K (.ref k_NoBook) = some (.type "type")) (ric_NoText : PySem.W.isClsIn K k_NoText = true) (rit_NoText : PySem.W.typeIn K (.ref k_NoText) = some (.type "type")) (yNoBook_TagError : PySem.W.exmOne K (.ref k_NoBook) (.ref k_TagError) = some true) (yNoText_TagError : PySem.W.exmOne K (.ref k_NoText) (.ref k_TagError) = some true) (zall : PySem.W.nsIn K mainGlobals "all" = some none) (zenumerate : PySem.W.nsIn K mainGlobals "enumerate" = some none) (zint : PySem.W.nsIn K mainGlobals "int" = some none) (zisinstance : PySem.W.nsIn K mainGlobals "isinstance" = some none) (zlen : PySem.W.nsIn K mainGlobals "len" = some none) (zlist : PySem.W.nsIn K mainGlobals "list" = some none) (zmax : PySem.W.nsIn K mainGlobals "max" = some none) (zmin : PySem.W.nsIn K mainGlobals "min" = some none) (zrange : PySem.W.nsIn K mainGlobals "range" = some none) (zset : PySem.W.nsIn K mainGlobals "set" = some none) (zsorted : PySem.W.nsIn K mainGlobals "sorted" = some none) (zstr : PySem.W.nsIn K mainGlobals "str" = some none) (ztuple : PySem.W.nsIn K mainGlobals "tuple" = some none) (zzip : PySem.W.nsIn K mainGlobals "zip" = some none) :
 ∃ fd : FuncData, (∀ (s : Shared) (v : Value), BindsTo s fd ⟨[v], []⟩ [("_law_script", v)]) /\ ∀ base : Heap, K.In base -> base.Ns mainGlobals mg -> N5 l.prog w K mg base CX0 9 fa fd ["_law_script"] (wc5 K) := by
 have e := hfa.symm.trans (PySem.W.mg_of X G a35)
 have e : f35 = fa := by cases e; rfl
 subst e
 obtain ⟨_, _, kV, dc, pm, an, cd, ct, _, rfl, _, _⟩ := id F35.ex
 have b0 := F0.binds (ps := ["word"]) fun _ _ _ _ _ _ us hl => by obtain ⟨_, rfl⟩ := ln1 hl; rfl
 have b1 := F1.binds (ps := ["word"]) fun _ _ _ _ _ _ us hl => by obtain ⟨_, rfl⟩ := ln1 hl; rfl
 have b2 := F2.binds (ps := ["names"]) fun _ _ _ _ _ _ us hl => by obtain ⟨_, rfl⟩ := ln1 hl; rfl
 have b3 := F3.binds (ps := ["row"]) fun _ _ _ _ _ _ us hl => by obtain ⟨_, rfl⟩ := ln1 hl; rfl
 have b4 := F4.binds (ps := ["rows"]) fun _ _ _ _ _ _ us hl => by obtain ⟨_, rfl⟩ := ln1 hl; rfl
 have b5 := F5.binds (ps := ["rows", "name"]) fun _ _ _ _ _ _ us hl => by obtain ⟨_, _, rfl⟩ := ln2 hl; rfl
 have b6 := F6.binds (ps := ["book", "name"]) fun _ _ _ _ _ _ us hl => by obtain ⟨_, _, rfl⟩ := ln2 hl; rfl
 have b7 := F7.binds (ps := ["book", "name"]) fun _ _ _ _ _ _ us hl => by obtain ⟨_, _, rfl⟩ := ln2 hl; rfl
 have b8 := F8.binds (ps := ["book", "name"]) fun _ _ _ _ _ _ us hl => by obtain ⟨_, _, rfl⟩ := ln2 hl; rfl
 have b9 := F9.binds (ps := ["rows"]) fun _ _ _ _ _ _ us hl => by obtain ⟨_, rfl⟩ := ln1 hl; rfl
 have b10 := F10.binds (ps := ["rows"]) fun _ _ _ _ _ _ us hl => by obtain ⟨_, rfl⟩ := ln1 hl; rfl
 have b11 := F11.binds (ps := ["rows", "row"]) fun _ _ _ _ _ _ us hl => by obtain ⟨_, _, rfl⟩ := ln2 hl; rfl
 have b12 := F12.binds (ps := ["rows", "row"]) fun _ _ _ _ _ _ us hl => by obtain ⟨_, _, rfl⟩ := ln2 hl; rfl
 have b13 := F13.binds (ps := ["rows", "name"]) fun _ _ _ _ _ _ us hl => by obtain ⟨_, _, rfl⟩ := ln2 hl; rfl
 have b14 := F14.binds (ps := ["rows", "row"]) fun _ _ _ _ _ _ us hl => by obtain ⟨_, _, rfl⟩ := ln2 hl; rfl
 have b15 := F15.binds (ps := ["rows", "row"]) fun _ _ _ _ _ _ us hl => by obtain ⟨_, _, rfl⟩ := ln2 hl; rfl
 have b16 := F16.binds (ps := ["rows", "names"]) fun _ _ _ _ _ _ us hl => by obtain ⟨_, _, rfl⟩ := ln2 hl; rfl
 have b17 := F17.binds (ps := ["text"]) fun _ _ _ _ _ _ us hl => by obtain ⟨_, rfl⟩ := ln1 hl; rfl
 have b18 := F18.binds (ps := ["text"]) fun _ _ _ _ _ _ us hl => by obtain ⟨_, rfl⟩ := ln1 hl; rfl
 have b19 := F19.binds (ps := ["words"]) fun _ _ _ _ _ _ us hl => by obtain ⟨_, rfl⟩ := ln1 hl; rfl
 have b20 := F20.binds (ps := ["keyword", "words"]) fun _ _ _ _ _ _ us hl => by obtain ⟨_, _, rfl⟩ := ln2 hl; rfl
 have b21 := F21.binds (ps := ["names"]) fun _ _ _ _ _ _ us hl => by obtain ⟨_, rfl⟩ := ln1 hl; rfl
 have b22 := F22.binds (ps := ["book"]) fun _ _ _ _ _ _ us hl => by obtain ⟨_, rfl⟩ := ln1 hl; rfl
 have b23 := F23.binds (ps := ["row"]) fun _ _ _ _ _ _ us hl => by obtain ⟨_, rfl⟩ := ln1 hl; rfl
 have b24 := F24.binds (ps := ["keyword", "names"]) fun _ _ _ _ _ _ us hl => by obtain ⟨_, _, rfl⟩ := ln2 hl; rfl
 have b25 := F25.binds (ps := ["_law_script", "_law_k"]) fun _ _ _ _ _ _ us hl => by obtain ⟨_, _, rfl⟩ := ln2 hl; rfl
 have b26 := F26.binds (ps := ["_law_cell"]) fun _ _ _ _ _ _ us hl => by obtain ⟨_, rfl⟩ := ln1 hl; rfl
 have b27 := F27.binds (ps := ["_law_pot_here", "_law_most"]) fun _ _ _ _ _ _ us hl => by obtain ⟨_, _, rfl⟩ := ln2 hl; rfl
 have b28 := F28.binds (ps := ["_law_cell", "_law_where"]) fun _ _ _ _ _ _ us hl => by obtain ⟨_, _, rfl⟩ := ln2 hl; rfl
 have b29 := F29.binds (ps := ["_law_names", "_law_cell"]) fun _ _ _ _ _ _ us hl => by obtain ⟨_, _, rfl⟩ := ln2 hl; rfl
 have b30 := F30.binds (ps := ["_law_word"]) fun _ _ _ _ _ _ us hl => by obtain ⟨_, rfl⟩ := ln1 hl; rfl
 have b31 := F31.binds (ps := ["_law_found"]) fun _ _ _ _ _ _ us hl => by obtain ⟨_, rfl⟩ := ln1 hl; rfl
 have b32 := F32.binds (ps := ["_law_rows", "_law_k"]) fun _ _ _ _ _ _ us hl => by obtain ⟨_, _, rfl⟩ := ln2 hl; rfl
 have b33 := F33.binds (ps := ["_law_lines"]) fun _ _ _ _ _ _ us hl => by obtain ⟨_, rfl⟩ := ln1 hl; rfl
 have b34 := F34.binds (ps := ["_law_text"]) fun _ _ _ _ _ _ us hl => by obtain ⟨_, rfl⟩ := ln1 hl; rfl
 have b35 := F35.binds (ps := ["_law_script"]) fun _ _ _ _ _ _ us hl => by obtain ⟨_, rfl⟩ := ln1 hl; rfl
 have b36 := F36.binds (ps := ["self", "row"]) fun _ _ _ _ _ _ us hl => by obtain ⟨_, _, rfl⟩ := ln2 hl; rfl
 have b37 := F37.binds (ps := ["self", "row"]) fun _ _ _ _ _ _ us hl => by obtain ⟨_, _, rfl⟩ := ln2 hl; rfl
 let t : Adr := { f_is_name := ⟨f0, d0⟩, f_has_letters_of_name := ⟨f1, d1⟩, f_is_rising := ⟨f2, d2⟩, f_has_form := ⟨f3, d3⟩, f_is_book := ⟨f4, d4⟩, f_row_of := ⟨f5, d5⟩, f_sort_of := ⟨f6, d6⟩, f_host_of := ⟨f7, d7⟩, f_frame_of := ⟨f8, d8⟩, f_first_misfit := ⟨f9, d9⟩, f_first_rows := ⟨f10, d10⟩, f_fits := ⟨f11, d11⟩, f_host_fits := ⟨f12, d12⟩, f_comes_back := ⟨f13, d13⟩, f_shuts_fit := ⟨f14, d14⟩, f_bars_fit := ⟨f15, d15⟩, f_may_be_named := ⟨f16, d16⟩, f_read_book := ⟨f17, d17⟩, f_read_rows := ⟨f18, d18⟩, f_read_row := ⟨f19, d19⟩, f_names_behind := ⟨f20, d20⟩, f_words_for := ⟨f21, d21⟩, f_show_book := ⟨f22, d22⟩, f_show_row := ⟨f23, d23⟩, f_keyed := ⟨f24, d24⟩, f__law_cell_at := ⟨f25, d25⟩, f__law_pot := ⟨f26, d26⟩, f__law_take := ⟨f27, d27⟩, f__law_family := ⟨f28, d28⟩, f__law_words_of := ⟨f29, d29⟩, f__law_is_name := ⟨f30, d30⟩, f__law_row := ⟨f31, d31⟩, f__law_is_wrong := ⟨f32, d32⟩, f__law_due := ⟨f33, d33⟩, f__law_told := ⟨f34, d34⟩, f_law := ⟨f35, PySem.W.fnOf "law" "law" (qu1 qy5) (qi4 qy5) (B8 qy5) .none kV dc pm an cd ct⟩, a_i_NoBook := f36, d_i_NoBook := d36, a_i_NoText := f37, d_i_NoText := d37, v_LONGEST_NAME := .int 8 k_LONGEST_NAME, v_MOST_ROWS := .int 12 k_MOST_ROWS, v_NAME := .int 0 k_NAME, v_SORT := .int 1 k_SORT, v_HOST := .int 2 k_HOST, v_SHUTS := .int 3 k_SHUTS, v_BARS := .int 4 k_BARS, c_SORTS := c_SORTS, c_HOST_SORTS := c_HOST_SORTS, c_SHUT_OR_BARRED_SORTS := c_SHUT_OR_BARRED_SORTS, c_KEYWORDS := c_KEYWORDS, k_NoBook := k_NoBook, k_NoText := k_NoText, k_TagError := k_TagError }
 have T : Txt K mg t := ⟨⟨F0, b0, PySem.W.mg_of X G a0⟩, ⟨F1, b1, PySem.W.mg_of X G a1⟩, ⟨F2, b2, PySem.W.mg_of X G a2⟩, ⟨F3, b3, PySem.W.mg_of X G a3⟩, ⟨F4, b4, PySem.W.mg_of X G a4⟩, ⟨F5, b5, PySem.W.mg_of X G a5⟩, ⟨F6, b6, PySem.W.mg_of X G a6⟩, ⟨F7, b7, PySem.W.mg_of X G a7⟩, ⟨F8, b8, PySem.W.mg_of X G a8⟩, ⟨F9, b9, PySem.W.mg_of X G a9⟩, ⟨F10, b10, PySem.W.mg_of X G a10⟩, ⟨F11, b11, PySem.W.mg_of X G a11⟩, ⟨F12, b12, PySem.W.mg_of X G a12⟩, ⟨F13, b13, PySem.W.mg_of X G a13⟩, ⟨F14, b14, PySem.W.mg_of X G a14⟩, ⟨F15, b15, PySem.W.mg_of X G a15⟩, ⟨F16, b16, PySem.W.mg_of X G a16⟩, ⟨F17, b17, PySem.W.mg_of X G a17⟩, ⟨F18, b18, PySem.W.mg_of X G a18⟩, ⟨F19, b19, PySem.W.mg_of X G a19⟩, ⟨F20, b20, PySem.W.mg_of X G a20⟩, ⟨F21, b21, PySem.W.mg_of X G a21⟩, ⟨F22, b22, PySem.W.mg_of X G a22⟩, ⟨F23, b23, PySem.W.mg_of X G a23⟩, ⟨F24, b24, PySem.W.mg_of X G a24⟩, ⟨F25, b25, PySem.W.mg_of X G a25⟩, ⟨F26, b26, PySem.W.mg_of X G a26⟩, ⟨F27, b27, PySem.W.mg_of X G a27⟩, ⟨F28, b28, PySem.W.mg_of X G a28⟩, ⟨F29, b29, PySem.W.mg_of X G a29⟩, ⟨F30, b30, PySem.W.mg_of X G a30⟩, ⟨F31, b31, PySem.W.mg_of X G a31⟩, ⟨F32, b32, PySem.W.mg_of X G a32⟩, ⟨F33, b33, PySem.W.mg_of X G a33⟩, ⟨F34, b34, PySem.W.mg_of X G a34⟩, ⟨F35, b35, PySem.W.mg_of X G a35⟩, F36, b36, ⟨PySem.W.mg_of X G eNoBook, qNoBook, a36, tfNoBook, kpNoBook, bxNoBook, ⟨icNoBook, itNoBook⟩⟩, F37, b37, ⟨PySem.W.mg_of X G eNoText, qNoText, a37, tfNoText, kpNoText, bxNoText, ⟨icNoText, itNoText⟩⟩, PySem.W.mg_of X G uSORTS, fun _ => .inr ⟨_, _, _, wSORTS, rfl, rfl, by rw [sizeLine_eq]; show 5 <= _; decide, (.cons ⟨_, rfl⟩ (.cons ⟨_, rfl⟩ (.cons ⟨_, rfl⟩ (.cons ⟨_, rfl⟩ (.cons ⟨_, rfl⟩ .nil)))))⟩, PySem.W.mg_of X G uHOST_SORTS, fun _ => .inr ⟨_, _, _, wHOST_SORTS, rfl, rfl, by rw [sizeLine_eq]; show 2 <= _; decide, (.cons ⟨_, rfl⟩ (.cons ⟨_, rfl⟩ .nil))⟩, PySem.W.mg_of X G uSHUT_OR_BARRED_SORTS, fun _ => .inr ⟨_, _, _, wSHUT_OR_BARRED_SORTS, rfl, rfl, by rw [sizeLine_eq]; show 2 <= _; decide, (.cons ⟨_, rfl⟩ (.cons ⟨_, rfl⟩ .nil))⟩, PySem.W.mg_of X G uKEYWORDS, fun _ => .inr ⟨_, _, _, wKEYWORDS, rfl, rfl, by rw [sizeLine_eq]; show 2 <= _; decide, (.cons ⟨_, rfl⟩ (.cons ⟨_, rfl⟩ .nil))⟩, ⟨PySem.W.mg_of X G uLONGEST_NAME, ⟨_, rfl⟩⟩, ⟨PySem.W.mg_of X G uMOST_ROWS, ⟨_, rfl⟩⟩, ⟨PySem.W.mg_of X G uNAME, ⟨_, rfl⟩⟩, ⟨PySem.W.mg_of X G uSORT, ⟨_, rfl⟩⟩, ⟨PySem.W.mg_of X G uHOST, ⟨_, rfl⟩⟩, ⟨PySem.W.mg_of X G uSHUTS, ⟨_, rfl⟩⟩, ⟨PySem.W.mg_of X G uBARS, ⟨_, rfl⟩⟩, PySem.W.mg_none_of X G zall, PySem.W.mg_none_of X G zenumerate, PySem.W.mg_none_of X G zint, PySem.W.mg_none_of X G zisinstance, PySem.W.mg_none_of X G zlen, PySem.W.mg_none_of X G zlist, PySem.W.mg_none_of X G zmax, PySem.W.mg_none_of X G zmin, PySem.W.mg_none_of X G zrange, PySem.W.mg_none_of X G zset, PySem.W.mg_none_of X G zsorted, PySem.W.mg_none_of X G zstr, PySem.W.mg_none_of X G ztuple, PySem.W.mg_none_of X G zzip, PySem.W.mg_of X G eNoBook, PySem.W.mg_of X G eNoText, PySem.W.mg_of X G eTagError, ⟨rga_NoBook, rgn_NoBook, rcl_NoBook, rbx_NoBook, rob_NoBook, rve_NoBook, rs_NoBook_NoBook, rs_NoBook_NoText, rga_NoText, rgn_NoText, rcl_NoText, rbx_NoText, rob_NoText, rve_NoText, rs_NoText_NoBook, rs_NoText_NoText, ric_NoBook, rit_NoBook, ric_NoText, rit_NoText⟩, yNoBook_TagError, yNoText_TagError, ⟨qNoBook, saNoBook, hyNoBook⟩, ⟨⟨gaNoBook, gnNoBook, clNoBook, bxNoBook, obNoBook⟩, qNoBook, hyNoBook⟩, ⟨qNoText, saNoText, hyNoText⟩, ⟨⟨gaNoText, gnNoText, clNoText, bxNoText, obNoText⟩, qNoText, hyNoText⟩, ⟨PySem.W.mg_of X G eTagError, bgTagError, brTagError, beTagError⟩⟩
 exact ⟨_, fun s v => .of_eq rfl, fun base _ _ => zd4 T⟩
theorem walk {l : PySem.W.OpenLaw} {loose : List Str} {XP : (Str -> Option Value) -> Heap -> Prop} {as : List Addr} {z t : Nat} {d : DefRec} {K : Params -> Fg} (hn : l.most = some 63) (hdf : d.params.defaults = []) (hk : ∀ P, as = (K P).map (·.1)) (h0 : 0 < t) (F : ∀ (w : World) (mg : Str -> Option Value) (fa : Addr) (h : Heap), (K w.params).In h -> h.Ns mainGlobals mg -> mg d.name = some (.ref fa) ->
  ∃ fd : FuncData, (∀ (s : Shared) (u : Value), BindsTo s fd ⟨[u], []⟩ [("_law_script", u)]) /\ ∀ base : Heap, (K w.params).In base -> base.Ns mainGlobals mg -> N5 l.prog w (K w.params) mg base CX0 9 fa fd ["_law_script"] (wc5 (K w.params))) :
 PySem.W.WalkX q loose XP (PySem.W.X.obsZ as) (PySem.W.X.valZ K z t) l.row.toRowW d [] (fun f vs => PySem.call f vs) :=
 L2.yp1 (n := 63) (k := 9) (x := "_law_script") (CX := fun _ => CX0) (sp := fun w => wc5 (K w.params)) hn (by decide) hdf ⟨rfl, by decide, by decide⟩ hk h0 F (fun _ _ a ns hl _ hS => ⟨a, ns, rfl, hS, hl, fun _ => rfl⟩) fun _ _ _ _ _ z => z
end
end My
open PySem PySem.W PyProof.Rows
local macro_rules | `(tactic| x_go) => `(tactic| (refine' L2.yy6 ?l ?c ?k; (case l => k_is); (case c => k_is); (case k => k_is)))
set_option maxRecDepth 100000 in
set_option maxHeartbeats 0 in
theorem PySem.Challenge.cw_tagmend_k06_whole_rows_of_words_holds : PySem.Challenge.rw_tagmend_k06_whole_rows_of_words.Holds := by
 w_on; o_law; z_head; (case hw => w_witness2)
 k_fill
 refine My.walk (l := PySem.Challenge.rw_tagmend_k06_whole_rows_of_words) rfl rfl (fun _ => rfl) (by decide) ?F
 case F =>
  intro w mg fa h KX G hmg
  refine' My.all_mk KX G hmg ?eNoBook ?eNoText ?eTagError ?a0 ?F0 ?a1 ?F1 ?a2 ?F2 ?a3 ?F3 ?a4 ?F4 ?a5 ?F5 ?a6 ?F6 ?a7 ?F7 ?a8 ?F8 ?a9 ?F9 ?a10 ?F10 ?a11 ?F11 ?a12 ?F12 ?a13 ?F13 ?a14 ?F14 ?a15 ?F15 ?a16 ?F16 ?a17 ?F17 ?a18 ?F18 ?a19 ?F19 ?a20 ?F20 ?a21 ?F21 ?a22 ?F22 ?a23 ?F23 ?a24 ?F24 ?a25 ?F25 ?a26 ?F26 ?a27 ?F27 ?a28 ?F28 ?a29 ?F29 ?a30 ?F30 ?a31 ?F31 ?a32 ?F32 ?a33 ?F33 ?a34 ?F34 ?a35 ?F35 ?a36 ?F36 ?a37 ?F37 ?uSORTS ?wSORTS ?uHOST_SORTS ?wHOST_SORTS ?uSHUT_OR_BARRED_SORTS ?wSHUT_OR_BARRED_SORTS ?uKEYWORDS ?wKEYWORDS ?uLONGEST_NAME ?uMOST_ROWS ?uNAME ?uSORT ?uHOST ?uSHUTS ?uBARS ?qNoBook ?tfNoBook ?kpNoBook ?bxNoBook ?obNoBook ?icNoBook ?itNoBook ?gaNoBook ?gnNoBook ?clNoBook ?saNoBook ?hyNoBook ?qNoText ?tfNoText ?kpNoText ?bxNoText ?obNoText ?icNoText ?itNoText ?gaNoText ?gnNoText ?clNoText ?saNoText ?hyNoText ?bgTagError ?brTagError ?beTagError ?rga_NoBook ?rgn_NoBook ?rcl_NoBook ?rbx_NoBook ?rob_NoBook ?rve_NoBook ?rs_NoBook_NoBook ?rs_NoBook_NoText ?rga_NoText ?rgn_NoText ?rcl_NoText ?rbx_NoText ?rob_NoText ?rve_NoText ?rs_NoText_NoBook ?rs_NoText_NoText ?ric_NoBook ?rit_NoBook ?ric_NoText ?rit_NoText ?yNoBook_TagError ?yNoText_TagError ?zall ?zenumerate ?zint ?zisinstance ?zlen ?zlist ?zmax ?zmin ?zrange ?zset ?zsorted ?zstr ?ztuple ?zzip
  (case eNoBook => k_is); (case eNoText => k_is); (case eTagError => k_is); (case a0 => k_is)
  (case F0 => x_go); (case a1 => k_is); (case F1 => x_go); (case a2 => k_is)
  (case F2 => x_go); (case a3 => k_is); (case F3 => x_go); (case a4 => k_is)
  (case F4 => x_go); (case a5 => k_is); (case F5 => x_go); (case a6 => k_is)
  (case F6 => x_go); (case a7 => k_is); (case F7 => x_go); (case a8 => k_is)
  (case F8 => x_go); (case a9 => k_is); (case F9 => x_go); (case a10 => k_is)
  (case F10 => x_go); (case a11 => k_is); (case F11 => x_go); (case a12 => k_is)
  (case F12 => x_go); (case a13 => k_is); (case F13 => x_go); (case a14 => k_is)
  (case F14 => x_go); (case a15 => k_is); (case F15 => x_go); (case a16 => k_is)
  (case F16 => x_go); (case a17 => k_is); (case F17 => x_go); (case a18 => k_is)
  (case F18 => x_go); (case a19 => k_is); (case F19 => x_go); (case a20 => k_is)
  (case F20 => x_go); (case a21 => k_is); (case F21 => x_go); (case a22 => k_is)
  (case F22 => x_go); (case a23 => k_is); (case F23 => x_go); (case a24 => k_is)
  (case F24 => x_go); (case a25 => k_is); (case F25 => x_go); (case a26 => k_is)
  (case F26 => x_go); (case a27 => k_is); (case F27 => x_go); (case a28 => k_is)
  (case F28 => x_go); (case a29 => k_is); (case F29 => x_go); (case a30 => k_is)
  (case F30 => x_go); (case a31 => k_is); (case F31 => x_go); (case a32 => k_is)
  (case F32 => x_go); (case a33 => k_is); (case F33 => x_go); (case a34 => k_is)
  (case F34 => x_go); (case a35 => k_is); (case F35 => x_go); (case a36 => k_is)
  (case F36 => x_go); (case a37 => k_is); (case F37 => x_go); (case uSORTS => k_is)
  (case wSORTS => k_is); (case uHOST_SORTS => k_is); (case wHOST_SORTS => k_is); (case uSHUT_OR_BARRED_SORTS => k_is)
  (case wSHUT_OR_BARRED_SORTS => k_is); (case uKEYWORDS => k_is); (case wKEYWORDS => k_is); (case uLONGEST_NAME => k_is)
  (case uMOST_ROWS => k_is); (case uNAME => k_is); (case uSORT => k_is); (case uHOST => k_is)
  (case uSHUTS => k_is); (case uBARS => k_is); (case qNoBook => kernel_rfl); (case tfNoBook => k_is)
  (case kpNoBook => k_is); (case bxNoBook => k_is); (case obNoBook => k_is); (case icNoBook => k_is)
  (case itNoBook => k_is); (case gaNoBook => k_is); (case gnNoBook => k_is); (case clNoBook => k_is)
  (case saNoBook => k_is); (case hyNoBook => k_is); (case qNoText => kernel_rfl); (case tfNoText => k_is)
  (case kpNoText => k_is); (case bxNoText => k_is); (case obNoText => k_is); (case icNoText => k_is)
  (case itNoText => k_is); (case gaNoText => k_is); (case gnNoText => k_is); (case clNoText => k_is)
  (case saNoText => k_is); (case hyNoText => k_is); (case bgTagError => k_is); (case brTagError => k_is)
  (case beTagError => k_is); (case rga_NoBook => k_is); (case rgn_NoBook => k_is); (case rcl_NoBook => k_is)
  (case rbx_NoBook => k_is); (case rob_NoBook => k_is); (case rve_NoBook => k_is); (case rs_NoBook_NoBook => k_is)
  (case rs_NoBook_NoText => k_is); (case rga_NoText => k_is); (case rgn_NoText => k_is); (case rcl_NoText => k_is)
  (case rbx_NoText => k_is); (case rob_NoText => k_is); (case rve_NoText => k_is); (case rs_NoText_NoBook => k_is)
  (case rs_NoText_NoText => k_is); (case ric_NoBook => k_is); (case rit_NoBook => k_is); (case ric_NoText => k_is)
  (case rit_NoText => k_is); (case yNoBook_TagError => kts_exm); (case yNoText_TagError => kts_exm); (case zall => k_is)
  (case zenumerate => k_is); (case zint => k_is); (case zisinstance => k_is); (case zlen => k_is)
  (case zlist => k_is); (case zmax => k_is); (case zmin => k_is); (case zrange => k_is)
  (case zset => k_is); (case zsorted => k_is); (case zstr => k_is); (case ztuple => k_is)
  (case zzip => k_is)
end
