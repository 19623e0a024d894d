import PyProof.Rows.All
import Wide.All
import OpenK.AllK
import Wide.FinOn
import Lean
import PyProof.EqAt
import PyProof.EqKinds
import PyProof.TupleCall
import PyProof.NeData
import PyProof.Rows.StrJoin2
import PyProof.Rows.SortStr
import PyProof.Rows.SortWalk
import KE.KRevIter
import PyProof.Rows.RuleN_isinstance
import PyProof.StrReplace2
import PyProof.StrWalks
import PyProof.Draws
import PyProof.EnumMake
import PyProof.Rows.StrNews2
import PyProof.StrLawsTight
import PyProof.StrLawsReplace
import PyProof.ConsumeWalk
import PyProof.StrLawsFrom
import PyProof.DictValues
import PyProof.Rows.SumAny
import PyProof.SeqI3
import PyProof.NoPylong
import PySem.Challenge.RW_tagmend_k25_the_first_fault
set_option Elab.async false
set_option linter.all false
set_option compiler.extract_closed false
set_option genSizeOf false
set_option hygiene false in
local macro_rules | `(tactic| walk_at "tk") => `(tactic| first | exact Nat.succ_pos _ | assumption | exact L2.Inv.tk ‹_› | omega)
set_option hygiene false in
local macro_rules | `(tactic| walk_at "z") => `(tactic| first | exact Nat.le_of_ble_eq_true rfl | simp)
noncomputable section
set_option maxRecDepth 100000
set_option hygiene false in
local macro_rules | `(tactic| omega) => `(tactic| lia)
namespace L2
open PySem PySem.Spec PyProof.Rows
theorem au (_ : True := by rfl) (_ : True := by decide) (_ : True := by walk_at "tk") (_ : True := by intro _; rfl) (_ : True := by first | exact .inl rfl | exact .inr rfl | assumption) (_ : True := by with_unfolding_all rfl) : True := True.intro
abbrev Key := Sum Int Str
noncomputable def keyIs : Key → Value → Bool
  | .inl k, v => Value.isInt k v
  | .inr x, v => Value.isStrOf x v
noncomputable def keyH (w : World) : Key → Int
  | .inl k => hashInt k
  | .inr x => hashStr w x
theorem keyIs_shape : ∀ {k : Key} {v : Value}, keyIs k v = true → (∃ i t, k = Sum.inl i ∧ v = Value.int i t) ∨ (∃ x t, k = Sum.inr x ∧ v = Value.str x t)
  | .inl i, v, h => by
    obtain ⟨t, e⟩ := Value.isInt_shape (k := i) (v := v) h
    exact .inl ⟨i, t, rfl, e⟩
  | .inr x, v, h => by
    obtain ⟨t, e⟩ := Value.isStrOf_shape (x := x) (v := v) h
    exact .inr ⟨x, t, rfl, e⟩
theorem keyIs_int (i : Int) (t : Tok) : keyIs (.inl i) (.int i t) = true := by simp [keyIs, Value.isInt]
theorem keyIs_str (x : Str) (t : Tok) : keyIs (.inr x) (.str x t) = true := by simp [keyIs, Value.isStrOf]
theorem key_ll (a b : Int) : decide ((Sum.inl a : Key) = Sum.inl b) = (a == b) := by
  by_cases e : a = b
  · subst e; simp
  · have h : ¬ (Sum.inl a : Key) = Sum.inl b := fun q => e (Sum.inl.inj q)
    rw [decide_eq_false h]
    exact (beq_eq_false_iff_ne.mpr e).symm
theorem key_rr (a b : Str) : decide ((Sum.inr a : Key) = Sum.inr b) = decide (a = b) := by
  by_cases e : a = b
  · subst e; simp
  · have h : ¬ (Sum.inr a : Key) = Sum.inr b := fun q => e (Sum.inr.inj q)
    rw [decide_eq_false h, decide_eq_false e]
theorem key_lr (a : Int) (b : Str) : decide ((Sum.inl a : Key) = Sum.inr b) = false := decide_eq_false (fun q => nomatch q)
theorem key_rl (a : Str) (b : Int) : decide ((Sum.inr a : Key) = Sum.inl b) = false := decide_eq_false (fun q => nomatch q)
noncomputable def mixKind (prog : Program) (w : World) : PySem.KeyKind prog w Key where
  is := keyIs
  hash := keyH w
  inj := fun v a b ha hb => by
    rcases keyIs_shape ha with ⟨i, t, rfl, rfl⟩ | ⟨x, t, rfl, rfl⟩
    · rcases keyIs_shape hb with ⟨j, u, rfl, e⟩ | ⟨y, u, rfl, e⟩
      · injection e with e1 _; rw [e1]
      · exact nomatch e
    · rcases keyIs_shape hb with ⟨j, u, rfl, e⟩ | ⟨y, u, rfl, e⟩
      · exact nomatch e
      · injection e with e1 _; rw [e1]
  byValue := fun k v h => by
    rcases keyIs_shape h with ⟨i, t, rfl, rfl⟩ | ⟨x, t, rfl, rfl⟩ <;> rfl
  pyHash := fun hv h => by
    rcases keyIs_shape hv with ⟨i, t, rfl, rfl⟩ | ⟨x, t, rfl, rfl⟩
    · exact wpAny_pyHash_int h
    · exact wpAny_pyHash_str h
  eqBool := fun hu hv h => by
    rcases keyIs_shape hu with ⟨i, t, rfl, rfl⟩ | ⟨x, t, rfl, rfl⟩
    · rcases keyIs_shape hv with ⟨j, u, rfl, rfl⟩ | ⟨y, u, rfl, rfl⟩
      · rw [key_ll] at h; exact wpAny_eqBool_int h
      · rw [key_lr] at h; exact SeqAt.EqAt.int_str i t y u _ _ _ _ h
    · rcases keyIs_shape hv with ⟨j, u, rfl, rfl⟩ | ⟨y, u, rfl, rfl⟩
      · rw [key_rl] at h; exact SeqAt.EqAt.str_int x t j u _ _ _ _ h
      · rw [key_rr] at h; exact wpAny_eqBool_str h
  «strs» := fun k x t v h => by
    rcases keyIs_shape h with ⟨i, u, rfl, e⟩ | ⟨y, u, rfl, e⟩
    · exact nomatch e
    · injection e with e1 _
      subst e1
      cases v <;> rfl
theorem mixKind_int (prog : Program) (w : World) (i : Int) (t : Tok) : (mixKind prog w).is (.inl i) (.int i t) = true := keyIs_int i t
theorem mixKind_str (prog : Program) (w : World) (x : Str) (t : Tok) : (mixKind prog w).is (.inr x) (.str x t) = true := keyIs_str x t
end L2
namespace L2
open PySem PySem.Spec PyProof.Rows
inductive V where
  | non | bl (b : Bool) | int (i : Int) | str (x : Str) | byt (b : Array UInt8) | flt (b : UInt64) | ref (a : Addr) | ty (n : String)
  deriving DecidableEq
def RelV : V → Value → Prop
  | .non, u => u = Value.none
  | .bl b, u => u = Value.bool b
  | .int i, u => ∃ t, u = Value.int i t
  | .str x, u => ∃ t, u = Value.str x t
  | .byt b, u => ∃ t, u = Value.bytes b t
  | .flt b, u => ∃ t, u = Value.float b t
  | .ref a, u => u = Value.ref a
  | .ty n, u => u = Value.type n
abbrev Vals : List V → List Value → Prop := Paired RelV
theorem Vals.length {xs : List V} {us : List Value} (r : Vals xs us) : xs.length = us.length := Paired.length r
theorem Vals.get : ∀ {xs : List V} {us : List Value} {i : Nat} {x : V}, Vals xs us → xs[i]? = some x → ∃ u, us[i]? = some u ∧ RelV x u
  | _, _, _, _, .nil, e => by simp at e
  | _, _, 0, _, .cons r _, e => by simp at e; subst e; exact ⟨_, rfl, r⟩
  | _, _, i + 1, x, .cons _ t, e => by
    obtain ⟨u, h1, h2⟩ := Vals.get (i := i) (x := x) t (by simpa using e)
    exact ⟨u, by simpa using h1, h2⟩
theorem Vals.set {x : V} {u : Value} (r : RelV x u) : ∀ {xs : List V} {us : List Value} (i : Nat), Vals xs us → Vals (xs.set i x) (us.set i u)
  | _, _, _, .nil => .nil
  | _, _, 0, .cons _ t => .cons r t
  | _, _, i + 1, .cons q t => .cons q (Vals.set r i t)
theorem Vals.append : ∀ {xs ys : List V} {us ws : List Value}, Vals xs us → Vals ys ws → Vals (xs ++ ys) (us ++ ws)
  | _, _, _, _, .nil, s => s
  | _, _, _, _, .cons r t, s => .cons r (Vals.append t s)
theorem Vals.take : ∀ {xs : List V} {us : List Value} (n : Nat), Vals xs us → Vals (xs.take n) (us.take n)
  | _, _, 0, _ => .nil
  | _, _, _ + 1, .nil => .nil
  | _, _, n + 1, .cons r t => .cons r (Vals.take n t)
theorem Vals.drop : ∀ {xs : List V} {us : List Value} (n : Nat), Vals xs us → Vals (xs.drop n) (us.drop n)
  | _, _, 0, r => r
  | _, _, _ + 1, .nil => .nil
  | _, _, n + 1, .cons _ t => Vals.drop n t
def RelO : Option V → Option Value → Prop
  | some v, some u => RelV v u
  | none, none => True
  | _, _ => False
def KV {κ : Type} : List (κ × V) → List (κ × Value) → Prop := Paired fun (p : κ × V) (q : κ × Value) => p.1 = q.1 ∧ RelV p.2 q.2
noncomputable def kV : Key → V
  | .inl i => .int i
  | .inr x => .str x
set_option genInjectivity false in
inductive HO where
  /-- a list -/
  | lst (xs : List V)
  /-- a tuple (never changes) -/
  | tup (xs : List V)
  /-- a dict whose keys are ints and texts; one whose keys are tuples of ints and texts (the empty one is both) -/
  | dK (kvs : List (Key × V)) | dT (kvs : List (List Key × V))
  /-- a set of ints: its members, its size -/
  | set (S : Int → Bool) (n : Nat)
  /-- an instance of the class at C, its dict at dx, its attributes -/
  | ins (C dx : Addr) (fs : List (Str × V))
  /-- the dict of the instance at x -/
  | own (x : Addr)
  /-- the dict of an exception -/
  | xd (fs : List (Str × V))
  /-- a bound method, f of x -/
  | met (f x : Addr)
  /-- a range object lo, lo + 1, .. below hi -/
  | rng (lo hi : Int)
  /-- a thing that is known to the object (the script; a dict while a loop walks it): read, never written while it is so -/
  | frz (o : Obj) (u : HO)
  /-- a code object's table -/
  | tbl (ps : Array Value)
  /-- any other thing, by what is true of its one object (a def of one's own: SetO a S n := HO.ext fun h => ..) -/
  | ext (φ : Heap → Prop)
abbrev Hp := Addr → Option HO
noncomputable def upd (H : Hp) (a : Addr) (o : HO) : Hp := fun b => if b = a then some o else H b
theorem upd_same {H : Hp} {a : Addr} {o : HO} : upd H a o a = some o := by unfold upd; rw [if_pos rfl]
theorem upd_ne {H : Hp} {a b : Addr} {o : HO} (h : b ≠ a) : upd H a o b = H b := by unfold upd; rw [if_neg h]
theorem ne_of {H : Hp} {a b : Addr} {o u : HO} (h : H a = some o) (h' : H b = some u) (d : o ≠ u) : a ≠ b := by
  intro e; subst e; rw [h] at h'; exact d (Option.some.inj h')
theorem ne_of_none {H : Hp} {a b : Addr} {o : HO} (h : H a = some o) (h' : H b = none) : a ≠ b := by
  intro e; subst e; rw [h] at h'; cases h'
section
variable (P : Program) (w : World)
def ObjOk (H : Hp) (h : Heap) (a : Addr) : HO → Prop
  | .lst xs => xs.length ≤ sizeLine ∧ ∃ (its : List Value) (n : Nat), Vals xs its ∧ h.get? a = some { cls := .type "list", data := .seq its.toArray n }
  | .tup xs => xs.length ≤ sizeLine ∧ ∃ its : List Value, Vals xs its ∧ IsTup h a its.toArray
  | .dK kvs => kvs.length ≤ sizeLine ∧ (a == sysModules) = false ∧ ∃ vs, KV kvs vs ∧ h.DictOf (mixKind P w) a vs
  | .dT kvs => kvs.length ≤ sizeLine ∧ (a == sysModules) = false ∧ ∃ xs : List (List Key × Addr × Value),
      Paired (fun (p : List Key × V) (q : List Key × Addr × Value) => p.1 = q.1 ∧ H q.2.1 = some (.tup (p.1.map kV)) ∧ RelV p.2 q.2.2) kvs xs ∧
      ∃ o es ep, h.get? a = some o ∧ o.ExactDict ∧ o.data = .dict es ep ∧ es.toList = xs.map (entryOfKey (tupleKind (mixKind P w))) ∧ (xs.map (·.1)).Nodup
  | .set S n => h.SetOf (intKind P w) a S n
  | .ins C dx fs => H dx = some (.own a) ∧ fs.length ≤ 1000 ∧ dx ≠ a ∧ h.get? a = some (PySem.W.instObj C dx) ∧
      ∃ mA, h.Ns1 dx mA ∧ (∀ f, RelO (fs.lookup f) (mA f)) ∧ PySem.Within mA (fs.map (·.1))
  | .own _ => ∃ o, h.get? a = some o
  | .xd fs => ∃ mA, h.Ns1 a mA ∧ ∀ f, RelO (fs.lookup f) (mA f)
  | .rng lo hi => ∃ t u v, h.get? a = some { cls := .type "range", data := .fields #[.int lo t, .int hi u, .int 1 v] }
  | .frz o u => h.get? a = some o ∧ ObjOk H h a u
  | .tbl ps => h.get? a = some { cls := .none, data := .fields ps }
  | .met f x => h.get? a = some (PySem.W.methodObj (.ref f) (.ref x))
  | .ext φ => φ h ∧ (∃ o, h.get? a = some o) ∧ ∀ h1 h2 : Heap, φ h1 → (∀ o, h1.get? a = some o → h2.get? a = some o) → φ h2
def HOk (H : Hp) (h : Heap) : Prop := ∀ a o, H a = some o → ObjOk P w H h a o
end
section
variable {P : Program} {w : World} {H H' : Hp} {h h' : Heap} {a : Addr} {o : HO}
theorem ObjOk.lt (x : ObjOk P w H h a o) : a < h.objs.size := by
  cases o with
  | lst xs => obtain ⟨_, _, _, _, e⟩ := x; exact Heap.lt_size e
  | tup xs => obtain ⟨_, _, _, p⟩ := x; exact p.lt
  | dK kvs => obtain ⟨_, _, _, _, o, _, _, e, _⟩ := x; exact Heap.lt_size e
  | dT kvs => obtain ⟨_, _, _, _, o, _, _, e, _⟩ := x; exact Heap.lt_size e
  | set S n => obtain ⟨o, _, _, _, e, _⟩ := x; exact Heap.lt_size e
  | ins C dx fs => obtain ⟨_, _, _, e, _⟩ := x; exact Heap.lt_size e
  | own y => obtain ⟨_, e⟩ := x; exact Heap.lt_size e
  | xd fs => obtain ⟨_, ⟨_, _, _, e, _⟩, _⟩ := x; exact Heap.lt_size e
  | rng lo hi => obtain ⟨_, _, _, e⟩ := x; exact Heap.lt_size e
  | frz ob u => obtain ⟨e, _⟩ := x; exact Heap.lt_size e
  | tbl ps => exact Heap.lt_size (show h.get? a = some _ from x)
  | met f y => exact Heap.lt_size (show h.get? a = some _ from x)
  | ext φ => obtain ⟨_, ⟨_, e⟩, _⟩ := x; exact Heap.lt_size e
theorem Paired.mapP {α β : Type} {F G : α → β → Prop} : ∀ {l₁ : List α} {l₂ : List β}, Paired F l₁ l₂ → (∀ a b, F a b → G a b) → Paired G l₁ l₂
  | _, _, .nil, _ => .nil
  | _, _, .cons r t, f => .cons (f _ _ r) (Paired.mapP t f)
theorem ObjOk.stay (x : ObjOk P w H h a o) (k : ∀ b u, (b = a ∨ H b = some (.own a)) → h.get? b = some u → h'.get? b = some u)
    (ho : ∀ b, H b = some (.own a) → H' b = some (.own a)) (ht : ∀ b xs, H b = some (.tup xs) → H' b = some (.tup xs)) : ObjOk P w H' h' a o := by
  induction o with
  | lst xs => obtain ⟨z, its, n, r, e⟩ := x; exact ⟨z, its, n, r, k _ _ (.inl rfl) e⟩
  | tup xs => obtain ⟨z, its, r, ob, e, c⟩ := x; exact ⟨z, its, r, ob, k _ _ (.inl rfl) e, c⟩
  | dK kvs => obtain ⟨z, y, vs, r, ob, es, ep, e, c⟩ := x; exact ⟨z, y, vs, r, ob, es, ep, k _ _ (.inl rfl) e, c⟩
  | dT kvs =>
    obtain ⟨z, y, xs, r, ob, es, ep, e, c⟩ := x
    exact ⟨z, y, xs, Paired.mapP r fun p q z => ⟨z.1, ht _ _ z.2.1, z.2.2⟩, ob, es, ep, k _ _ (.inl rfl) e, c⟩
  | set S n => obtain ⟨ob, es, ep, t, e, c⟩ := x; exact ⟨ob, es, ep, t, k _ _ (.inl rfl) e, c⟩
  | ins C dx fs =>
    obtain ⟨d, z, ne, e, mA, ⟨od, es, ep, e2, c⟩, r⟩ := x
    exact ⟨ho _ d, z, ne, k _ _ (.inl rfl) e, mA, ⟨od, es, ep, k _ _ (.inr d) e2, c⟩, r⟩
  | own y => obtain ⟨ob, e⟩ := x; exact ⟨ob, k _ _ (.inl rfl) e⟩
  | xd fs => obtain ⟨mA, ⟨od, es, ep, e, c⟩, r⟩ := x; exact ⟨mA, ⟨od, es, ep, k _ _ (.inl rfl) e, c⟩, r⟩
  | rng lo hi => obtain ⟨t, u, v, e⟩ := x; exact ⟨t, u, v, k _ _ (.inl rfl) e⟩
  | frz ob u ih => obtain ⟨e, q⟩ := x; exact ⟨k _ _ (.inl rfl) e, ih q⟩
  | tbl ps =>
    have e : h.get? a = some { cls := .none, data := .fields ps } := x
    show h'.get? a = some { cls := .none, data := .fields ps }
    exact k a _ (.inl rfl) e
  | met f y =>
    have e : h.get? a = some (PySem.W.methodObj (.ref f) (.ref y)) := x
    show h'.get? a = some (PySem.W.methodObj (.ref f) (.ref y))
    exact k a _ (.inl rfl) e
  | ext φ => obtain ⟨p, ⟨o, e⟩, st⟩ := x; exact ⟨st _ _ p fun o q => k _ _ (.inl rfl) q, ⟨o, k _ _ (.inl rfl) e⟩, st⟩
theorem HOk.lt (x : HOk P w H h) (e : H a = some o) : a < h.objs.size := (x a o e).lt
theorem HOk.fresh (x : HOk P w H h) (e : h.objs.size ≤ a) : H a = none := by
  cases q : H a with
  | none => rfl
  | some u => exact absurd (Nat.lt_of_lt_of_le (x.lt q) e) (Nat.lt_irrefl _)
theorem HOk.kept (x : HOk P w H h) (k : ∀ b u, h.get? b = some u → h'.get? b = some u) : HOk P w H h' := fun a o e =>
  (x a o e).stay (fun b u _ q => k b u q) (fun _ q => q) fun _ _ q => q
theorem HOk.laid (x : HOk P w H h) (k : ∀ b u, h.get? b = some u → h'.get? b = some u) (hp : h.objs.size ≤ a) (new : ObjOk P w (upd H a o) h' a o) : HOk P w (upd H a o) h' := fun b u e => by
  have hn := x.fresh hp
  by_cases hb : b = a
  · subst hb; rw [upd_same] at e; cases e; exact new
  · rw [upd_ne hb] at e
    exact (x b u e).stay (fun c v _ q => k c v q) (fun c q => by rw [upd_ne (ne_of_none q hn)]; exact q) fun c xs q => by rw [upd_ne (ne_of_none q hn)]; exact q
end
def Rd (H : Hp) (a : Addr) (u : HO) : Prop := H a = some u ∨ ∃ o, H a = some (.frz o u)
theorem Rd.ok {P : Program} {w : World} {H : Hp} {h : Heap} {a : Addr} {u : HO} (r : Rd H a u) (x : HOk P w H h) : ObjOk P w H h a u := by
  rcases r with r | ⟨o, r⟩
  · exact x a u r
  · obtain ⟨_, q⟩ := x a _ r
    exact q
def Mut : Option HO → Prop
  | some (.lst _) => True
  | some (.dK _) => True
  | some (.dT _) => True
  | some (.set _ _) => True
  | some (.ins _ _ _) => True
  | some (.ext _) => True
  | _ => False
section
variable {P : Program} {w : World} {H : Hp} {h h' : Heap} {x e : Addr} {o' : HO}
theorem HOk.write (ok : HOk P w H h) (mu : Mut (H x)) (he : e = x ∨ H e = some (.own x)) (k : ∀ b u, b ≠ e → h.get? b = some u → h'.get? b = some u) (heo : ∃ u, h'.get? e = some u)
    (new : ObjOk P w (upd H x o') h' x o') : HOk P w (upd H x o') h' := fun b u q => by
  have nown : ∀ c y, H c = some (.own y) → c ≠ x := fun c y r z => by subst z; rw [r] at mu; exact mu
  have ntup : ∀ c xs, H c = some (.tup xs) → c ≠ x := fun c xs r z => by subst z; rw [r] at mu; exact mu
  by_cases hb : b = x
  · subst hb; rw [upd_same] at q; cases q; exact new
  · rw [upd_ne hb] at q
    by_cases hbe : b = e
    · have q' : H b = some (.own x) := by
        rcases he with z | z
        · exact absurd (hbe.trans z) hb
        · rw [hbe]; exact z
      rw [q] at q'; cases q'
      obtain ⟨v, hv⟩ := heo
      exact ⟨v, by rw [hbe]; exact hv⟩
    · refine (ok b u q).stay (fun c v hc r => k c v ?_ r) (fun c r => by rw [upd_ne (nown c b r)]; exact r) fun c xs r => by rw [upd_ne (ntup c xs r)]; exact r
      rcases hc with rfl | hc
      · exact hbe
      · rintro rfl
        rcases he with z | z
        · exact nown c b hc z
        · rw [hc] at z; cases z; exact hb rfl
end
structure Un (fs ex : List Addr) (H H' : Hp) (h h' : Heap) : Prop where
  keep : ∀ b o, h.get? b = some o → H b = none → b ∉ fs → b ∉ ex → h'.get? b = some o
  slot : ∀ b o, h.get? b = some o → H b = none → b ∈ fs → b ∉ ex → ∃ sl, h'.get? b = some { o with slots := sl }
  free : ∀ b o, h.get? b = some o → H b = none → b ∉ ex → H' b = none
  there : ∀ b o, h.get? b = some o → b ∉ ex → ∃ o', h'.get? b = some o'
  tups : ∀ b xs, H b = some (.tup xs) → H' b = some (.tup xs)
  frzs : ∀ b o u, H b = some (.frz o u) → H' b = some (.frz o u)
  tbls : ∀ b ps, H b = some (.tbl ps) → ∃ more, H' b = some (.tbl (ps ++ more))
section
variable {fs fs' ex ex' : List Addr} {H H1 H2 : Hp} {h h1 h2 h' : Heap} {a x e : Addr} {o : HO}
theorem Un.any (u : Un fs ex H H1 h h1) {b : Addr} {ob : Obj} (q : h.get? b = some ob) (n : H b = none) (hx : b ∉ ex) : ∃ sl, h1.get? b = some { ob with slots := sl } := by
  by_cases hb : b ∈ fs
  · exact u.slot b ob q n hb hx
  · exact ⟨ob.slots, u.keep b ob q n hb hx⟩
theorem Un.kept (k : ∀ b u, h.get? b = some u → h'.get? b = some u) : Un fs ex H H h h' :=
  ⟨fun b ob q _ _ _ => k b ob q, fun b ob q _ _ _ => ⟨ob.slots, k b ob q⟩, fun _ _ _ n _ => n, fun b ob q _ => ⟨ob, k b ob q⟩, fun _ _ q => q, fun _ _ _ q => q, fun _ ps q => ⟨#[], by rw [q]; simp⟩⟩
theorem Un.refl : Un fs ex H H h h := Un.kept fun _ _ q => q
theorem Un.laid (k : ∀ b u, h.get? b = some u → h'.get? b = some u) (hp : h.objs.size ≤ a) (hn : H a = none) : Un fs ex H (upd H a o) h h' where
  keep := fun b u q _ _ _ => k b u q
  slot := fun b u q _ _ _ => ⟨u.slots, k b u q⟩
  free := fun b u q n _ => by rw [upd_ne (Nat.ne_of_lt (Nat.lt_of_lt_of_le (Heap.lt_size q) hp))]; exact n
  there := fun b u q _ => ⟨u, k b u q⟩
  tups := fun b xs q => by rw [upd_ne (ne_of_none q hn)]; exact q
  frzs := fun b u xs q => by rw [upd_ne (ne_of_none q hn)]; exact q
  tbls := fun b ps q => ⟨#[], by rw [upd_ne (ne_of_none q hn), q]; simp⟩
theorem Un.write (mu : Mut (H x)) (he : e = x ∨ H e = some (.own x)) (k : ∀ b u, b ≠ e → h.get? b = some u → h'.get? b = some u) (heo : ∃ u, h'.get? e = some u) : Un fs ex H (upd H x o) h h' := by
  have hx : ∀ b, H b = none → b ≠ x := fun b n z => by subst z; rw [n] at mu; exact mu
  have hb : ∀ b, H b = none → b ≠ e := fun b n z => by
    subst z
    rcases he with r | r
    · exact hx b n r
    · rw [n] at r; cases r
  have hm : ∀ b u, H b = some u → ¬ Mut (some u) → b ≠ x := fun b u q nm z => by subst z; rw [q] at mu; exact nm mu
  refine ⟨fun b u q n _ _ => k b u (hb b n) q, fun b u q n _ _ => ⟨u.slots, k b u (hb b n) q⟩, fun b u q n _ => by rw [upd_ne (hx b n)]; exact n, fun b u q _ => ?_,
    fun b xs q => by rw [upd_ne (hm b _ q fun z => z)]; exact q, fun b u xs q => by rw [upd_ne (hm b _ q fun z => z)]; exact q, fun b ps q => ⟨#[], by rw [upd_ne (hm b _ q fun z => z), q]; simp⟩⟩
  by_cases hbe : b = e
  · subst hbe; exact heo
  · exact ⟨u, k b u hbe q⟩
end
noncomputable def trk (h : Heap) (H : Hp) : List Addr := (List.range h.objs.size).filter fun a => (H a).isSome
noncomputable def hidT (h : Heap) (H : Hp) : Heap := PySem.W.hideAll h (trk h H)
theorem hidT_size (h : Heap) (H : Hp) : (hidT h H).objs.size = h.objs.size := PySem.W.hideAll_size _ _
theorem hidT_get {h : Heap} {H : Hp} {b : Addr} {o : Obj} (e : h.get? b = some o) (n : H b = none) : (hidT h H).get? b = some o :=
  PySem.W.hideAll_get _ e fun hm => by
    have q : (H b).isSome = true := (List.mem_filter.mp hm).2
    rw [n] at q; simp at q
theorem of_hidT {h : Heap} {H : Hp} {b : Addr} {o : Obj} (e : (hidT h H).get? b = some o) : h.get? b = some o ∧ H b = none := by
  have e' : h.get? b = some o := PySem.W.of_hideAll (trk h H) e
  refine ⟨e', ?_⟩
  cases q : H b with
  | none => rfl
  | some x =>
    have hm : b ∈ trk h H := List.mem_filter.mpr ⟨List.mem_range.mpr (Heap.lt_size e'), by simp [q]⟩
    have z : (hidT h H).get? b = none := PySem.W.hideAll_none (trk h H) hm
    rw [z] at e; cases e
end L2
namespace L2
open PySem PySem.Spec PyProof.Rows
structure Mod (K : PySem.W.Frag) (mg : Str → Option Value) (base : Heap) : Prop where
  kin : K.In base
  glob : base.Ns mainGlobals mg
  blt : ∃ mb, base.Ns builtinsNs mb ∧ ∀ x : Str, x ≠ "__name__" → mb x = bootBuiltins x
  nolimit : base.NoLimit
set_option genInjectivity false in
structure Cx where
  prog : Program
  w : World
  K : PySem.W.Frag
  mg : Str → Option Value
  base : Heap
  A : Around
  N : List Str
  s₀ : Shared
  H₀ : Hp
  env : Env
  outer : List Env
  stack : List Env
  ex : List Addr
  fn : Str → Bool
  calm : Bool
  pn : List (Addr × Obj)
  xe : Value → Shared → Prop
noncomputable def frs (l : List Env) : List Addr := l.filterMap (·.frame)
noncomputable abbrev Cx.fs (X : Cx) : List Addr := frs X.outer
def Vis (sc : Scope) (x : Str) : Prop := sc.names.lookup x = some .local ∨ sc.names.lookup x = some .cell ∨ sc.names.lookup x = some .free
def Loc (sc : Scope) (x : Str) : Prop := sc.names.lookup x = some .local ∨ sc.names.lookup x = some .cell
def Look (env : Env) (h : Heap) (m : Str → Option Value) (x : Str) (u : Value) : Prop :=
  (env.kindOf x = some .local ∧ m x = some u) ∨ ((env.kindOf x = some .cell ∨ env.kindOf x = some .free) ∧ ∃ c, env.cells.lookup x = some c ∧ h.IsCell c (some u))
structure Cx.Ok (X : Cx) : Prop where
  mod : Mod X.K X.mg X.base
  kind : X.env.scope.kind = .function
  glob : X.env.globals = mainGlobals
  blt : X.env.builtins = builtinsNs
  above : X.s₀.heap.objs.size ≤ X.env.locals
  inj : ∀ x y c, X.env.cells.lookup x = some c → X.env.cells.lookup y = some c → x = y
  has : ∀ x, (X.env.kindOf x = some .cell ∨ X.env.kindOf x = some .free) → ∃ c, X.env.cells.lookup x = some c
  cab : ∀ x c, X.fn x = true → X.env.cells.lookup x = some c → X.s₀.heap.objs.size ≤ c
  hd : X.calm = true → X.A.handled = none
  frames : X.A.frames = some X.stack
  stk : X.stack = X.outer ∨ (X.stack = X.env :: X.outer ∧ X.env.frame = some X.env.locals)
  exf : ∀ b ∈ X.ex, b ≠ X.env.locals ∧ ∀ x c, X.env.cells.lookup x = some c → c ≠ b
  bs : ∀ b o, X.base.get? b = some o → X.s₀.heap.get? b = some o ∧ X.H₀ b = none
  bsz : X.base.objs.size ≤ X.s₀.heap.objs.size
  noex : ∀ b o, X.base.get? b = some o → b ∉ X.ex
  exfs : ∀ b ∈ X.ex, b ∉ X.fs
  funs : X.s₀.heap.FunFrames X.base X.outer
  frf : ∀ b ∈ X.fs, X.H₀ b = none
structure Inv (X : Cx) (pins : List (Addr × Obj)) (σ : List (Option V)) (H : Hp) (s : Shared) : Prop where
  ok : X.Ok
  os : s.os = X.s₀.os
  bare : AllBare s.gens
  base : Un X.fs X.ex X.H₀ H X.s₀.heap s.heap
  loc : ∃ m, s.heap.Ns X.env.locals m ∧ ∀ (i : Nat) (x : Str) (v : V), X.N[i]? = some x → σ[i]? = some (some v) → Vis X.env.scope x → ∃ u, RelV v u ∧ Look X.env s.heap m x u
  cell : ∀ x c, X.env.cells.lookup x = some c → ∃ v, s.heap.IsCell c v
  free : H X.env.locals = none
  freeC : ∀ x c, X.env.cells.lookup x = some c → H c = none
  pin : ∀ p ∈ X.pn ++ pins, s.heap.get? p.1 = some p.2 ∧ H p.1 = none ∧ p.1 ≠ X.env.locals ∧ p.1 ∉ X.fs ∧ ∀ v, p.2.data ≠ .cell v
  hok : HOk X.prog X.w H s.heap
  len : σ.length = X.N.length
  tk : 0 < s.toks
section
variable {X : Cx} {pins : List (Addr × Obj)} {σ : List (Option V)} {H H' : Hp} {s : Shared} {h' : Heap}
theorem Cx.Ok.nofr (ok : X.Ok) {b : Addr} {o : Obj} (e : X.base.get? b = some o) : b ∉ X.fs := fun hb => by
  have := (ok.funs.mem hb).1
  rw [e] at this; cases this
theorem Inv.bs (I : Inv X pins σ H s) : ∀ b o, X.base.get? b = some o → s.heap.get? b = some o ∧ H b = none := fun b o e =>
  ⟨I.base.keep b o (I.ok.bs b o e).1 (I.ok.bs b o e).2 (I.ok.nofr e) (I.ok.noex b o e), I.base.free b o (I.ok.bs b o e).1 (I.ok.bs b o e).2 (I.ok.noex b o e)⟩
theorem Inv.bk (I : Inv X pins σ H s) : ∀ b o, X.base.get? b = some o → s.heap.get? b = some o := fun b o e => (I.bs b o e).1
theorem Inv.mod (I : Inv X pins σ H s) : Mod X.K X.mg X.base := I.ok.mod
theorem Inv.kIn (I : Inv X pins σ H s) : X.K.In s.heap := I.ok.mod.kin.keeps I.bk
theorem Inv.lt (I : Inv X pins σ H s) : X.env.locals < s.heap.objs.size := let ⟨_, hn, _⟩ := I.loc; hn.lt
theorem Inv.sz (I : Inv X pins σ H s) : X.s₀.heap.objs.size ≤ s.heap.objs.size := Nat.le_trans I.ok.above (Nat.le_of_lt I.lt)
theorem Inv.nofs (I : Inv X pins σ H s) {a : Addr} (h : s.heap.objs.size ≤ a) : a ∉ X.fs := fun hb => by
  obtain ⟨_, o, ho, _⟩ := I.ok.funs.mem hb
  exact absurd (Nat.lt_of_lt_of_le (Heap.lt_size ho) (Nat.le_trans I.sz h)) (Nat.lt_irrefl _)
theorem Inv.cne (I : Inv X pins σ H s) : ∀ x c, X.env.cells.lookup x = some c → c ≠ X.env.locals := fun x c e z => by
  obtain ⟨v, o, ho, hd⟩ := I.cell x c e
  obtain ⟨m, ⟨o', es, ep, ho', hd', _⟩, _⟩ := I.loc
  rw [z, ho'] at ho; cases ho; rw [hd'] at hd; cases hd
theorem Inv.funs (I : Inv X pins σ H s) : s.heap.FunFrames X.base X.outer := by
  have all : ∀ (l : List Env), (∀ b ∈ frs l, b ∈ X.fs) → X.s₀.heap.FunFrames X.base l → s.heap.FunFrames X.base l := by
    intro l
    induction l with
    | nil => intro _ _; trivial
    | cons env r ih =>
      intro hs hl
      obtain ⟨hk, ⟨L, o, hf, hn, ho, hd⟩, hr⟩ := hl
      have hL : L ∈ X.fs := hs L (by unfold frs; rw [List.filterMap_cons, hf]; exact List.mem_cons_self)
      obtain ⟨sl, e⟩ := I.base.slot L o ho (I.ok.frf L hL) hL fun z => I.ok.exfs L z hL
      exact ⟨hk, ⟨L, _, hf, hn, e, hd⟩, ih (fun b hb => hs b (by unfold frs; rw [List.filterMap_cons, hf]; exact List.mem_cons_of_mem _ hb)) hr⟩
  exact all X.outer (fun _ hb => hb) I.ok.funs
theorem Inv.stack (I : Inv X pins σ H s) : s.heap.FunFrames X.base X.stack := by
  rcases I.ok.stk with e | ⟨e, hf⟩
  · rw [e]; exact I.funs
  · rw [e]
    obtain ⟨m, hn, _⟩ := I.loc
    refine .cons (by rw [I.ok.kind]; decide) hf hn ?_ I.funs
    exact Heap.get?_none_of_le (Nat.le_trans I.ok.bsz I.ok.above)
theorem Inv.stkSub (I : Inv X pins σ H s) : ∀ b ∈ frs X.stack, b ∈ X.env.locals :: X.fs := fun b hb => by
  rcases I.ok.stk with e | ⟨e, hf⟩
  · rw [e] at hb; exact List.mem_cons_of_mem _ hb
  · rw [e] at hb
    unfold frs at hb
    rw [List.filterMap_cons, hf] at hb
    exact hb
theorem Inv.stkFree (I : Inv X pins σ H s) : ∀ b ∈ frs X.stack, H b = none := fun b hb => by
  rcases List.mem_cons.mp (I.stkSub b hb) with e | hb
  · rw [e]; exact I.free
  · obtain ⟨_, o, ho, _⟩ := I.ok.funs.mem hb
    exact I.base.free b o ho (I.ok.frf b hb) fun z => I.ok.exfs b z hb
theorem Inv.step {g' : Array GenState} {t' : Nat} {d' : Drawn} {ch : List Addr} (I : Inv X pins σ H s)
    (hch : ∀ b ∈ ch, (b ∈ X.ex ∨ X.s₀.heap.objs.size ≤ b) ∧ b ≠ X.env.locals ∧ (∀ x c, X.env.cells.lookup x = some c → c ≠ b) ∧ ∀ p ∈ X.pn ++ pins, p.1 ≠ b)
    (keep : ∀ b o, b ≠ X.env.locals → b ∉ X.fs → b ∉ ch → s.heap.get? b = some o → H b = none → h'.get? b = some o)
    (slot : ∀ b o, b ≠ X.env.locals → b ∈ X.fs → b ∉ ch → s.heap.get? b = some o → H b = none → ∃ sl, h'.get? b = some { o with slots := sl }) (free : ∀ b o, b ∉ ch → s.heap.get? b = some o → H b = none → H' b = none)
    (there : ∀ b o, b ∉ ch → s.heap.get? b = some o → ∃ o', h'.get? b = some o')
    (tups : ∀ b xs, H b = some (.tup xs) → H' b = some (.tup xs)) (frzs : ∀ b o u, H b = some (.frz o u) → H' b = some (.frz o u)) (tbls : ∀ b ps, H b = some (.tbl ps) → ∃ more, H' b = some (.tbl (ps ++ more)))
    (ns : ∀ m, s.heap.Ns X.env.locals m → h'.Ns X.env.locals m) (hok : HOk X.prog X.w H' h') (hg : AllBare g') (ht : autoParam (0 < t') L2.au._auto_3) :
    Inv X pins σ H' { s with heap := h', gens := g', drawn := d', toks := t' } := by
  have neL : ∀ b o, X.s₀.heap.get? b = some o → b ≠ X.env.locals := fun b o e => Nat.ne_of_lt (Nat.lt_of_lt_of_le (Heap.lt_size e) I.ok.above)
  have neC : ∀ b o, X.s₀.heap.get? b = some o → b ∉ X.ex → b ∉ ch := fun b o e hx hb => by
    rcases (hch b hb).1 with z | z
    · exact hx z
    · exact absurd (Nat.lt_of_lt_of_le (Heap.lt_size e) z) (Nat.lt_irrefl _)
  have cellK : ∀ x c, X.env.cells.lookup x = some c → ∀ v, s.heap.IsCell c v → h'.IsCell c v := fun x c e v ⟨o, ho, hd⟩ => by
    have nch : c ∉ ch := fun z => (hch c z).2.2.1 x c e rfl
    by_cases hc : c ∈ X.fs
    · obtain ⟨sl, q⟩ := slot c o (I.cne x c e) hc nch ho (I.freeC x c e)
      exact ⟨_, q, hd⟩
    · exact ⟨o, keep c o (I.cne x c e) hc nch ho (I.freeC x c e), hd⟩
  refine ⟨I.ok, I.os, hg, ⟨fun b o e n hb hx => ?_, fun b o e n hb hx => ?_, fun b o e n hx => ?_, fun b o e hx => ?_, fun b xs e => tups b xs (I.base.tups b xs e), fun b o xs e => frzs b o xs (I.base.frzs b o xs e), fun b ps e => ?_⟩, ?_, fun x c e => ?_, ?_, fun x c e => ?_, fun p hp => ?_, hok, I.len, ht⟩
  · exact keep b o (neL b o e) hb (neC b o e hx) (I.base.keep b o e n hb hx) (I.base.free b o e n hx)
  · obtain ⟨sl, e1⟩ := I.base.slot b o e n hb hx
    obtain ⟨sl', e2⟩ := slot b _ (neL b o e) hb (neC b o e hx) e1 (I.base.free b o e n hx)
    exact ⟨sl', e2⟩
  · obtain ⟨o', e1⟩ := I.base.there b o e hx
    exact free b o' (neC b o e hx) e1 (I.base.free b o e n hx)
  · obtain ⟨o', e1⟩ := I.base.there b o e hx
    exact there b o' (neC b o e hx) e1
  · obtain ⟨m1, e1⟩ := I.base.tbls b ps e
    obtain ⟨m2, e2⟩ := tbls b _ e1
    exact ⟨m1 ++ m2, by rw [e2, Array.append_assoc]⟩
  · obtain ⟨m, hn, hl⟩ := I.loc
    refine ⟨m, ns m hn, fun i x v e1 e2 e3 => ?_⟩
    obtain ⟨u, r, l⟩ := hl i x v e1 e2 e3
    refine ⟨u, r, ?_⟩
    rcases l with l | ⟨k, c, e, z⟩
    · exact .inl l
    · exact .inr ⟨k, c, e, cellK x c e _ z⟩
  · obtain ⟨v, z⟩ := I.cell x c e
    exact ⟨v, cellK x c e v z⟩
  · obtain ⟨m, ⟨o, _, _, ho, _⟩, _⟩ := I.loc
    exact free _ o (fun z => (hch _ z).2.1 rfl) ho I.free
  · obtain ⟨v, o, ho, hd⟩ := I.cell x c e
    exact free c o (fun z => (hch c z).2.2.1 x c e rfl) ho (I.freeC x c e)
  · obtain ⟨e, n, ne, nf, d⟩ := I.pin p hp
    have nch : p.1 ∉ ch := fun z => (hch p.1 z).2.2.2 p hp rfl
    exact ⟨keep p.1 p.2 ne nf nch e n, free p.1 p.2 nch e n, ne, nf, d⟩
theorem Inv.un {t' : Nat} (I : Inv X pins σ H s) (u : Un X.fs [] H H' s.heap h') (hok : HOk X.prog X.w H' h') (ht : autoParam (0 < t') L2.au._auto_3) : Inv X pins σ H' { s with heap := h', toks := t' } := by
  obtain ⟨m, ⟨o, es, ep, ho, r⟩, _⟩ := id I.loc
  obtain ⟨sl, hL⟩ := u.any ho I.free (by simp)
  exact I.step (g' := s.gens) (d' := s.drawn) (ch := []) (fun _ z => nomatch z) (fun b o _ hb _ e n => u.keep b o e n hb (by simp)) (fun b o _ hb _ e n => u.slot b o e n hb (by simp)) (fun b o _ e n => u.free b o e n (by simp)) (fun b o _ e => u.there b o e (by simp)) u.tups u.frzs u.tbls (fun m' hm => by
    obtain ⟨o', es', ep', ho', r'⟩ := hm
    rw [ho] at ho'; cases ho'
    exact ⟨_, es', ep', hL, r'⟩) hok I.bare
theorem Inv.call {g' : Array GenState} {t' : Nat} {d' : Drawn} {ch : List Addr} (I : Inv X pins σ H s) (u : Un (frs X.stack) ch H H' s.heap h') (hok : HOk X.prog X.w H' h') (hg : AllBare g')
    (hch : ∀ b ∈ ch, (b ∈ X.ex ∨ X.s₀.heap.objs.size ≤ b) ∧ b ≠ X.env.locals ∧ (∀ x c, X.env.cells.lookup x = some c → c ≠ b) ∧ ∀ p ∈ X.pn ++ pins, p.1 ≠ b) (ht : autoParam (0 < t') L2.au._auto_3) :
    Inv X pins σ H' { s with heap := h', gens := g', drawn := d', toks := t' } := by
  obtain ⟨m, ⟨o, es, ep, ho, r⟩, _⟩ := id I.loc
  obtain ⟨sl, hL⟩ := u.any ho I.free fun z => (hch _ z).2.1 rfl
  exact I.step (ch := ch) hch (fun b o hL hb hc e n => u.keep b o e n (fun z => (List.mem_cons.mp (I.stkSub b z)).elim hL hb) hc) (fun b o _ _ hc e n => u.any e n hc) (fun b o hc e n => u.free b o e n hc) (fun b o hc e => u.there b o e hc) u.tups u.frzs u.tbls (fun m' hm => by
    obtain ⟨o', es', ep', ho', r'⟩ := hm
    rw [ho] at ho'; cases ho'
    exact ⟨_, es', ep', hL, r'⟩) hok hg
theorem Inv.turned {t' : Nat} {it : Addr} (I : Inv X pins σ H s) (k : ∀ b o, b ≠ it → s.heap.get? b = some o → h'.get? b = some o) (hn : H it = none) (hL : it ≠ X.env.locals)
    (h1 : it ∈ X.ex ∨ X.s₀.heap.objs.size ≤ it) (h2 : ∀ x c, X.env.cells.lookup x = some c → c ≠ it) (h3 : ∀ p ∈ X.pn ++ pins, p.1 ≠ it) (ht : autoParam (0 < t') L2.au._auto_3) : Inv X pins σ H { s with heap := h', toks := t' } := by
  have nit : ∀ b u, H b = some u → b ≠ it := fun b u e z => by rw [z, hn] at e; cases e
  refine I.step (g' := s.gens) (d' := s.drawn) (ch := [it]) (fun b hb => ?_) (fun b o _ _ hc e _ => k b o (fun z => hc (by simp [z])) e) (fun b o _ _ hc e _ => ⟨o.slots, k b o (fun z => hc (by simp [z])) e⟩) (fun _ _ _ _ n => n)
    (fun b o hc e => ⟨o, k b o (fun z => hc (by simp [z])) e⟩) (fun _ _ e => e) (fun _ _ _ e => e) (fun b ps e => ⟨#[], by rw [e]; simp⟩) (fun m hm => ?_) (fun b u e => ?_) I.bare
  · have e : b = it := by simpa using hb
    subst e
    exact ⟨h1, hL, h2, h3⟩
  · obtain ⟨o, es, ep, ho, r⟩ := hm
    exact ⟨o, es, ep, k _ o (Ne.symm hL) ho, r⟩
  · refine (I.hok b u e).stay (fun c v hc q => k c v ?_ q) (fun _ q => q) fun _ _ q => q
    rcases hc with z | z
    · rw [z]; exact nit b u e
    · exact nit c _ z
theorem Inv.tok (I : Inv X pins σ H s) (t' : Nat) (ht : autoParam (0 < t') L2.au._auto_3) : Inv X pins σ H { s with toks := t' } := I.un (h' := s.heap) (t' := t') Un.refl I.hok
theorem Inv.kept {t' : Nat} (I : Inv X pins σ H s) (k : ∀ b u, s.heap.get? b = some u → h'.get? b = some u) (ht : autoParam (0 < t') L2.au._auto_3) : Inv X pins σ H { s with heap := h', toks := t' } := I.un (Un.kept k) (I.hok.kept k)
theorem Inv.laid {a : Addr} {o : HO} {t' : Nat} (I : Inv X pins σ H s) (k : ∀ b u, s.heap.get? b = some u → h'.get? b = some u) (hp : s.heap.objs.size ≤ a) (new : ObjOk X.prog X.w (upd H a o) h' a o) (ht : autoParam (0 < t') L2.au._auto_3) :
    Inv X pins σ (upd H a o) { s with heap := h', toks := t' } := I.un (Un.laid k hp (I.hok.fresh hp)) (I.hok.laid k hp new)
theorem Inv.write {x e : Addr} {o : HO} {t' : Nat} (I : Inv X pins σ H s) (mu : Mut (H x)) (he : e = x ∨ H e = some (.own x)) (k : ∀ b u, b ≠ e → s.heap.get? b = some u → h'.get? b = some u) (heo : ∃ u, h'.get? e = some u)
    (new : ObjOk X.prog X.w (upd H x o) h' x o) (ht : autoParam (0 < t') L2.au._auto_3) : Inv X pins σ (upd H x o) { s with heap := h', toks := t' } := I.un (Un.write mu he k heo) (I.hok.write mu he k heo new)
theorem Inv.weak {σ' : List (Option V)} (I : Inv X pins σ H s) (hl : σ'.length = σ.length) (w : ∀ (i : Nat) v, σ'[i]? = some (some v) → σ[i]? = some (some v)) : Inv X pins σ' H s :=
  ⟨I.ok, I.os, I.bare, I.base, let ⟨m, hn, hl'⟩ := I.loc; ⟨m, hn, fun i x v e1 e2 e3 => hl' i x v e1 (w i v e2) e3⟩, I.cell, I.free, I.freeC, I.pin, I.hok, hl.trans I.len, I.tk⟩
theorem Inv.pins_of {pins' : List (Addr × Obj)} (I : Inv X pins σ H s) (h : ∀ p ∈ pins', s.heap.get? p.1 = some p.2 ∧ H p.1 = none ∧ p.1 ≠ X.env.locals ∧ p.1 ∉ X.fs ∧ ∀ v, p.2.data ≠ .cell v) : Inv X pins' σ H s :=
  ⟨I.ok, I.os, I.bare, I.base, I.loc, I.cell, I.free, I.freeC, fun p hp => (List.mem_append.mp hp).elim (fun z => I.pin p (List.mem_append_left _ z)) (h p), I.hok, I.len, I.tk⟩
theorem nodup_ix {N : List Str} (hN : N.Nodup) {i j : Nat} {x : Str} (a : N[i]? = some x) (b : N[j]? = some x) : i = j := by
  obtain ⟨h1, e1⟩ := List.getElem?_eq_some_iff.mp a
  obtain ⟨h2, e2⟩ := List.getElem?_eq_some_iff.mp b
  exact (List.getElem_inj hN).mp (e1.trans e2.symm)
theorem store_ok2 {M : Model} {A : Around} {E : Value → Shared → Prop} {i : Nat} {x : Str} {v : V} {u : Value} {Q : Unit → Shared → Prop} (I : Inv X pins σ H s) (hN : X.N.Nodup) (hi : X.N[i]? = some x) (hx : Loc X.env.scope x) (r : RelV v u)
    (h : ∀ s', Inv X pins (σ.set i (some v)) H s' → (∃ a, Heap.SameBut a s.heap s'.heap ∧ (a = X.env.locals ∨ X.env.cells.lookup x = some a)) → Q () s') (hf : autoParam (X.fn x = true ∨ X.env.scope.names.lookup x = some .local) L2.au._auto_5) : wpAny M A (storeName X.env x u) Q E s := by
  obtain ⟨m, hn, hl⟩ := id I.loc
  have hcls : (X.env.scope.kind == .class || (X.env.scope.kind == .module && X.env.locals != X.env.globals)) = false := by rw [I.ok.kind]; rfl
  have hiσ : i < σ.length := by rw [I.len]; exact (List.getElem?_eq_some_iff.mp hi).1
  have cne := I.cne
  have tracked : ∀ {a : Addr} {h' : Heap}, (∃ o, s.heap.get? a = some o ∧ H a = none) → Heap.SameBut a s.heap h' → HOk X.prog X.w H h' := fun {a h'} ha hs b ob e => by
    obtain ⟨_, _, hfree⟩ := ha
    refine (I.hok b ob e).stay (fun c w' hc q => (hs.2 c ?_).trans q) (fun _ q => q) fun _ _ q => q
    rintro rfl
    rcases hc with rfl | hc
    · rw [hfree] at e; cases e
    · rw [hfree] at hc; cases hc
  rcases hx with hk | hk
  · refine wpAny_storeName_local hk hn (fun h' hn' hs => ?_) hcls
    obtain ⟨oL, _, _, hoL, _⟩ := id hn
    refine h _ ⟨I.ok, I.os, I.bare, ⟨fun b o e n hb hx => ?_, fun b o e n hb hx => ?_, I.base.free, fun b o e hx => ?_, I.base.tups, I.base.frzs, I.base.tbls⟩, ⟨_, hn', fun j y v' e1 e2 e3 => ?_⟩, fun y c e => ?_, I.free, I.freeC, fun p hp => ?_, tracked ⟨oL, hoL, I.free⟩ hs, by simpa using I.len, by first | exact I.tk | exact Nat.succ_pos _⟩ ⟨_, hs, .inl rfl⟩
    · exact (hs.2 b (Nat.ne_of_lt (Nat.lt_of_lt_of_le (Heap.lt_size e) I.ok.above))).trans (I.base.keep b o e n hb hx)
    · obtain ⟨sl, e1⟩ := I.base.slot b o e n hb hx
      exact ⟨sl, (hs.2 b (Nat.ne_of_lt (Nat.lt_of_lt_of_le (Heap.lt_size e) I.ok.above))).trans e1⟩
    · obtain ⟨o', e1⟩ := I.base.there b o e hx
      exact ⟨o', (hs.2 b (Nat.ne_of_lt (Nat.lt_of_lt_of_le (Heap.lt_size e) I.ok.above))).trans e1⟩
    · by_cases hj : j = i
      · subst hj
        rw [hi] at e1; cases e1
        rw [List.getElem?_set_self hiσ] at e2
        cases e2
        exact ⟨u, r, .inl ⟨hk, by simp⟩⟩
      · rw [List.getElem?_set_ne (Ne.symm hj)] at e2
        obtain ⟨u', r', q⟩ := hl j y v' e1 e2 e3
        refine ⟨u', r', ?_⟩
        rcases q with ⟨k, e⟩ | ⟨k, c, e, z⟩
        · refine .inl ⟨k, ?_⟩
          have : y ≠ x := fun e => hj (nodup_ix hN e1 (e ▸ hi))
          simp [this, e]
        · exact .inr ⟨k, c, e, z.sameBut hs (cne y c e)⟩
    · obtain ⟨w', z⟩ := I.cell y c e
      exact ⟨w', z.sameBut hs (cne y c e)⟩
    · obtain ⟨e, n, ne, nf, d⟩ := I.pin p hp
      exact ⟨(hs.2 p.1 ne).trans e, n, ne, nf, d⟩
  · have hfn : X.fn x = true := by
      rcases hf with z | z
      · exact z
      · rw [z] at hk; cases hk
    obtain ⟨c, hc⟩ := I.ok.has x (.inl hk)
    obtain ⟨w', z⟩ := I.cell x c hc
    refine wpAny_storeName_cell I.ok.kind hk hc z (fun h' hc' hs => ?_)
    obtain ⟨oc, hoc, hocd⟩ := id z
    refine h { s with heap := h' } ⟨I.ok, I.os, I.bare, ⟨fun b o e n hb hx => ?_, fun b o e n hb hx => ?_, I.base.free, fun b o e hx => ?_, I.base.tups, I.base.frzs, I.base.tbls⟩, ⟨m, hn.sameBut hs (Ne.symm (cne x c hc)), fun j y v' e1 e2 e3 => ?_⟩, fun y c' e => ?_, I.free, I.freeC, fun p hp => ?_, tracked ⟨oc, hoc, I.freeC x c hc⟩ hs, by simpa using I.len, by first | exact I.tk | exact Nat.succ_pos _⟩ ⟨c, hs, .inr hc⟩
    · exact (hs.2 b (Nat.ne_of_lt (Nat.lt_of_lt_of_le (Heap.lt_size e) (I.ok.cab x c hfn hc)))).trans (I.base.keep b o e n hb hx)
    · obtain ⟨sl, e1⟩ := I.base.slot b o e n hb hx
      exact ⟨sl, (hs.2 b (Nat.ne_of_lt (Nat.lt_of_lt_of_le (Heap.lt_size e) (I.ok.cab x c hfn hc)))).trans e1⟩
    · obtain ⟨o', e1⟩ := I.base.there b o e hx
      exact ⟨o', (hs.2 b (Nat.ne_of_lt (Nat.lt_of_lt_of_le (Heap.lt_size e) (I.ok.cab x c hfn hc)))).trans e1⟩
    · by_cases hj : j = i
      · subst hj
        rw [hi] at e1; cases e1
        rw [List.getElem?_set_self hiσ] at e2
        cases e2
        exact ⟨u, r, .inr ⟨.inl hk, c, hc, hc'⟩⟩
      · rw [List.getElem?_set_ne (Ne.symm hj)] at e2
        obtain ⟨u', r', q⟩ := hl j y v' e1 e2 e3
        refine ⟨u', r', ?_⟩
        rcases q with q | ⟨k, c', e, z'⟩
        · exact .inl q
        · refine .inr ⟨k, c', e, z'.sameBut hs ?_⟩
          rintro rfl
          exact hj (nodup_ix hN e1 (I.ok.inj _ _ _ e hc ▸ hi))
    · by_cases hcc : c' = c
      · subst hcc; exact ⟨_, hc'⟩
      · obtain ⟨w2, z2⟩ := I.cell y c' e
        exact ⟨w2, z2.sameBut hs hcc⟩
    · obtain ⟨e, n, ne, nf, d⟩ := I.pin p hp
      refine ⟨(hs.2 p.1 ?_).trans e, n, ne, nf, d⟩
      intro q
      rw [q, hoc] at e
      have q' : oc = p.2 := Option.some.inj e
      exact d w' (by rw [← q']; exact hocd)
theorem store_ok {M : Model} {A : Around} {E : Value → Shared → Prop} {i : Nat} {x : Str} {v : V} {u : Value} {Q : Unit → Shared → Prop} (I : Inv X pins σ H s) (hN : X.N.Nodup) (hi : X.N[i]? = some x) (hx : Loc X.env.scope x) (r : RelV v u)
    (h : ∀ s', Inv X pins (σ.set i (some v)) H s' → Q () s') (hf : autoParam (X.fn x = true ∨ X.env.scope.names.lookup x = some .local) L2.au._auto_5) : wpAny M A (storeName X.env x u) Q E s :=
  store_ok2 I hN hi hx r (fun s' I' _ => h s' I') hf
end
abbrev XK := Value → Option Addr → Hp → Prop
abbrev St := List (Option V)
abbrev VK := V → Hp → Prop
abbrev TE := St → Hp → VK → Prop
abbrev TT := St → Hp → (Bool → Hp → Prop) → Prop
abbrev TA := St → Hp → (List V → Hp → Prop) → Prop
set_option genInjectivity false in
structure Ends where
  nx : St → Hp → Prop
  rt : VK
  bk : St → Hp → Prop := fun _ _ => False
  ct : St → Hp → Prop := fun _ _ => False
abbrev TS := Ends → St → Hp → Prop
@[reducible] def Ends.sq (D : Ends) (u : TS) : Ends := { D with nx := u D }
@[reducible] def Ends.lp (D : Ends) (N : St → Hp → Prop) : Ends := { D with nx := N, ct := N, bk := D.nx }
def EP (X : Cx) (pins : List (Addr × Obj)) (σ : St) (Q : VK) (u : Value) (s' : Shared) : Prop := ∃ v H', Inv X pins σ H' s' ∧ RelV v u ∧ Q v H'
def TP (X : Cx) (pins : List (Addr × Obj)) (σ : St) (Q : Bool → Hp → Prop) (b : Bool) (s' : Shared) : Prop := ∃ H', Inv X pins σ H' s' ∧ Q b H'
def AP (X : Cx) (pins : List (Addr × Obj)) (σ : St) (Q : List V → Hp → Prop) (us : List Value) (s' : Shared) : Prop := ∃ vs H', Inv X pins σ H' s' ∧ Vals vs us ∧ Q vs H'
def SP (X : Cx) (pins : List (Addr × Obj)) (D : Ends) (f : Flow) (s' : Shared) : Prop :=
  match f with
  | .next => ∃ σ' H', Inv X pins σ' H' s' ∧ D.nx σ' H'
  | .brk => ∃ σ' H', Inv X pins σ' H' s' ∧ D.bk σ' H'
  | .cont => ∃ σ' H', Inv X pins σ' H' s' ∧ D.ct σ' H'
  | .ret u => ∃ v σ' H', Inv X pins σ' H' s' ∧ RelV v u ∧ D.rt v H'
def PE (X : Cx) (e : Expr) (t : TE) : Prop :=
  ∀ (pins : List (Addr × Obj)) (s : Shared) (σ : St) (H : Hp) (Q : VK), Inv X pins σ H s → t σ H Q → wpAny (model X.prog X.w) X.A (eval e X.env) (EP X pins σ Q) X.xe s
def PT (X : Cx) (e : Expr) (t : TT) : Prop :=
  ∀ (pins : List (Addr × Obj)) (s : Shared) (σ : St) (H : Hp) (Q : Bool → Hp → Prop), Inv X pins σ H s → t σ H Q → wpAny (model X.prog X.w) X.A (isTrue e X.env (eval e X.env)) (TP X pins σ Q) X.xe s
def PW (X : Cx) (e : Expr) (t : TT) : Prop :=
  ∀ (whole : Sem Value) (pins : List (Addr × Obj)) (s : Shared) (σ : St) (H : Hp) (Q : Bool → Hp → Prop), Inv X pins σ H s → t σ H Q → wpAny (model X.prog X.w) X.A (isTrue e X.env whole) (TP X pins σ Q) X.xe s
theorem PW.pt {X : Cx} {e : Expr} {t : TT} (h : PW X e t) : PT X e t := h _
def PA (X : Cx) (es : List Expr) (t : TA) : Prop :=
  ∀ (pos : Pos) (pins : List (Addr × Obj)) (s : Shared) (σ : St) (H : Hp) (Q : List V → Hp → Prop), Inv X pins σ H s → t σ H Q → wpAny (model X.prog X.w) X.A (spliced (backTo pos (starEach es X.env))) (AP X pins σ Q) X.xe s
def PS (X : Cx) (st : Stmt) (t : TS) : Prop :=
  ∀ (pins : List (Addr × Obj)) (s : Shared) (σ : St) (H : Hp) (D : Ends), Inv X pins σ H s → t D σ H → wpAny (model X.prog X.w) X.A (exec st X.env) (SP X pins D) X.xe s
def PSs (X : Cx) (st : List Stmt) (t : TS) : Prop :=
  ∀ (pins : List (Addr × Obj)) (s : Shared) (σ : St) (H : Hp) (D : Ends), Inv X pins σ H s → t D σ H → wpAny (model X.prog X.w) X.A (execs st X.env) (SP X pins D) X.xe s
theorem thn {α : Type} {t : Sem α} {Q Q' : α → Shared → Prop} {M : Model} {A : Around} {E : Value → Shared → Prop} {s : Shared} (h : wpAny M A t Q E s) (hQ : ∀ a s, Q a s → Q' a s) : wpAny M A t Q' E s := wpAny_mono h hQ fun _ _ x => x
end L2
namespace L2
open PySem PySem.Spec PyProof.Rows
section
variable {X : Cx}
def tVar (i : Nat) : TE := fun σ H Q => ∃ v, σ[i]? = some (some v) ∧ Q v H
def tC (v : V) : TE := fun _ H Q => Q v H
theorem pe_var {i : Nat} {x : Str} {pos : Pos} (hN : X.N[i]? = some x) (hv : Vis X.env.scope x) (hd : autoParam ((x == ("__debug__" : Str)) = false) L2.au._auto_2) (hcd : autoParam ((x == ("__classdict__" : Str)) = false) L2.au._auto_2) : PE X (.Name x pos) (tVar i) := by
  intro pins s σ H Q I h
  obtain ⟨v, e, h⟩ := h
  obtain ⟨m, hn, hl⟩ := I.loc
  obtain ⟨u, r, l⟩ := hl i x v hN e hv
  have fin : EP X pins σ Q u s := ⟨v, H, I, r, h⟩
  rcases l with ⟨hk, hm⟩ | ⟨hk, c, hc, hcell⟩
  · exact wpAny_Name (wpAny_loadName_local I.ok.kind hk hn hm fin) hd
  · rcases hk with hk | hk
    · exact wpAny_Name (wpAny_loadName_cell I.ok.kind hk hc hcell fin) hd
    · exact wpAny_Name (wpAny_loadName_free I.ok.kind hk hc hcell fin hcd) hd
theorem pe_int {i j pos} : PE X (.Constant (.int i) j pos) (tC (.int i)) := fun _ _ _ H _ I h => wpAny_Constant_int ⟨.int i, H, I.tok _, ⟨_, rfl⟩, h⟩
theorem pe_bl {b j pos} : PE X (.Constant (.bool b) j pos) (tC (.bl b)) := fun _ _ _ H _ I h => Constant_bool ⟨.bl b, H, I, rfl, h⟩
theorem pe_non {j pos} : PE X (.Constant .none j pos) (tC .non) := fun _ _ _ H _ I h => Constant_none ⟨.non, H, I, rfl, h⟩
theorem pe_str {x j pos} : PE X (.Constant (.str x) j pos) (tC (.str x)) := fun _ _ _ H _ I h => Calls.Constant_str ⟨.str x, H, I.tok _, ⟨_, rfl⟩, h⟩
def Gl (X : Cx) (x : Str) : Prop := X.env.kindOf x = some .globalImplicit
theorem ld_glob {E : Value → Shared → Prop} {pins : List (Addr × Obj)} {s : Shared} {σ : St} {H : Hp} {x : Str} {u : Value} {pos : Pos} {Q : Value → Shared → Prop} (I : Inv X pins σ H s) (hg : Gl X x) (hm : X.mg x = some u) (h : Q u s)
    (hd : autoParam ((x == ("__debug__" : Str)) = false) L2.au._auto_2) : wpAny (model X.prog X.w) X.A (eval (.Name x pos) X.env) Q E s :=
  Calls.Name_function_global I.ok.kind hg (Calls.loadGlobal_global (by rw [I.ok.glob]; exact I.mod.glob.keeps I.bk) hm h) hd
theorem ld_blt {E : Value → Shared → Prop} {pins : List (Addr × Obj)} {s : Shared} {σ : St} {H : Hp} {x : Str} {u : Value} {pos : Pos} {Q : Value → Shared → Prop} (I : Inv X pins σ H s) (hg : Gl X x) (hm : X.mg x = none) (hv : bootBuiltins x = some u) (h : Q u s)
    (hn : autoParam (x ≠ "__name__") L2.au._auto_2) (hd : autoParam ((x == ("__debug__" : Str)) = false) L2.au._auto_2) : wpAny (model X.prog X.w) X.A (eval (.Name x pos) X.env) Q E s := by
  obtain ⟨mb, h1, h2⟩ := I.mod.blt
  exact Calls.Name_function_global I.ok.kind hg (Calls.loadGlobal_builtin (by rw [I.ok.glob]; exact I.mod.glob.keeps I.bk) hm (by rw [I.ok.blt]; exact h1.keeps I.bk) ((h2 x hn).trans hv) h) hd
theorem pe_glob {x : Str} {v : V} {u : Value} {pos : Pos} (hg : Gl X x) (hm : X.mg x = some u) (r : RelV v u) (hd : autoParam ((x == ("__debug__" : Str)) = false) L2.au._auto_2) : PE X (.Name x pos) (tC v) :=
  fun _ _ _ H _ I h => ld_glob I hg hm ⟨v, H, I, r, h⟩ hd
theorem pe_bltn {x : Str} {v : V} {u : Value} {pos : Pos} (hg : Gl X x) (hm : X.mg x = none) (hv : bootBuiltins x = some u) (r : RelV v u) (hn : autoParam (x ≠ "__name__") L2.au._auto_2) (hd : autoParam ((x == ("__debug__" : Str)) = false) L2.au._auto_2) : PE X (.Name x pos) (tC v) :=
  fun _ _ _ H _ I h => ld_blt I hg hm hv ⟨v, H, I, r, h⟩ hn hd
variable {a b : Expr} {ta tb : TE} {pos : Pos}
def tB (t : TE) : TT := fun σ H Q => t σ H fun x H1 => ∃ c, x = .bl c ∧ Q c H1
theorem pt_val {e : Expr} {t : TE} (h : PE X e t) (he : autoParam (∀ whole, isTrue e X.env whole = (do let v ← whole; standAt e.pos; holding [v] (truthy v))) L2.au._auto_4) : PT X e (tB t) := by
  intro pins s σ H Q I hw
  refine isTrue_plain (thn (h pins s σ H _ I hw) fun v s1 ⟨x, H1, I1, r1, q1⟩ => ?_) (he _)
  obtain ⟨d, rfl, q⟩ := q1
  cases r1
  exact wpAny_truthy_bool ⟨H1, I1, q⟩
variable {tA tB' : TT} {rest : List Expr}
def tAnd (t u : TT) : TT := fun σ H Q => t σ H fun c H1 => if c = true then u σ H1 Q else Q false H1
def tOr (t u : TT) : TT := fun σ H Q => t σ H fun c H1 => if c = true then Q true H1 else u σ H1 Q
def tNot (t : TT) : TT := fun σ H Q => t σ H fun c H1 => Q (!c) H1
theorem pw_and1 (ha : PT X a tA) : PW X (.BoolOp .And [a] pos) tA := by
  intro wh pins s σ H Q I h
  refine isTrue_and (thn (ha pins s σ H Q I h) fun c s1 e => ?_)
  cases c with
  | true => exact isTrue_and_nil e
  | false => exact e
theorem pw_or1 (ha : PT X a tA) : PW X (.BoolOp .Or [a] pos) tA := by
  intro wh pins s σ H Q I h
  refine isTrue_or (thn (ha pins s σ H Q I h) fun c s1 e => ?_)
  cases c with
  | false => exact isTrue_or_nil e
  | true => exact e
theorem pw_and (ha : PT X a tA) (hb : PW X (.BoolOp .And (b :: rest) pos) tB') : PW X (.BoolOp .And (a :: b :: rest) pos) (tAnd tA tB') := by
  intro wh pins s σ H Q I h
  refine isTrue_and (thn (ha pins s σ H _ I h) fun c s1 ⟨H1, I1, q1⟩ => ?_)
  cases c with
  | true => exact hb wh pins s1 σ H1 Q I1 q1
  | false => exact ⟨H1, I1, q1⟩
theorem pw_or (ha : PT X a tA) (hb : PW X (.BoolOp .Or (b :: rest) pos) tB') : PW X (.BoolOp .Or (a :: b :: rest) pos) (tOr tA tB') := by
  intro wh pins s σ H Q I h
  refine isTrue_or (thn (ha pins s σ H _ I h) fun c s1 ⟨H1, I1, q1⟩ => ?_)
  cases c with
  | true => exact ⟨H1, I1, q1⟩
  | false => exact hb wh pins s1 σ H1 Q I1 q1
theorem pt_not (ha : PT X a tA) : PT X (.UnaryOp .Not a pos) (tNot tA) := by
  intro pins s σ H Q I h
  exact isTrue_not (ha pins s σ H (fun c H1 => Q (!c) H1) I h)
def tAndV (ta tb : TE) : TE := fun σ H Q => ta σ H fun x H1 => ∃ c, x = .bl c ∧ if c = true then tb σ H1 Q else Q (.bl false) H1
def tNotV (ta : TE) : TE := fun σ H Q => ta σ H fun x H1 => ∃ c, x = .bl c ∧ Q (.bl (!c)) H1
theorem pe_one {op} {t : TE} (h : PE X a t) : PE X (.BoolOp op [a] pos) t := fun pins s σ H Q I hw => BoolOp_one (h pins s σ H Q I hw)
theorem pe_and (ha : PE X a ta) (hb : PE X (.BoolOp .And (b :: rest) pos) tb) : PE X (.BoolOp .And (a :: b :: rest) pos) (tAndV ta tb) := by
  intro pins s σ H Q I h
  refine BoolOp_and (thn (ha pins s σ H _ I h) fun v s1 ⟨x, H1, I1, r1, q1⟩ => ?_)
  obtain ⟨c, rfl, q1⟩ := q1
  cases r1
  refine wpAny_truthy_bool ?_
  cases c with
  | true => exact hb pins s1 σ H1 Q I1 q1
  | false => exact ⟨.bl false, H1, I1, rfl, q1⟩
theorem pe_not (ha : PE X a ta) : PE X (.UnaryOp .Not a pos) (tNotV ta) := by
  intro pins s σ H Q I h
  refine UnaryOp_ (thn (ha pins s σ H _ I h) fun v s1 ⟨x, H1, I1, r1, q1⟩ => ?_)
  obtain ⟨c, rfl, q1⟩ := q1
  cases r1
  exact not_of (wpAny_truthy_bool ⟨.bl (!c), H1, I1, rfl, q1⟩)
def tIf (t : TT) (ta tb : TE) : TE := fun σ H Q => t σ H fun c H1 => if c = true then ta σ H1 Q else tb σ H1 Q
theorem pe_ifExp {c : Expr} (hc : PT X c tA) (ha : PE X a ta) (hb : PE X b tb) : PE X (.IfExp c a b pos) (tIf tA ta tb) := by
  intro pins s σ H Q I h
  refine wpAny_IfExp (thn (hc pins s σ H _ I h) fun d s1 ⟨H1, I1, q1⟩ => ?_)
  cases d with
  | true => exact ha pins s1 σ H1 Q I1 q1
  | false => exact hb pins s1 σ H1 Q I1 q1
end
end L2
namespace L2
open PySem PySem.Spec PyProof.Rows
def SqL (K : PySem.W.Frag) (H : Hp) (a : Addr) (xs : List V) : Prop :=
  Rd H a (.lst xs) ∨
    ∃ (o : Obj) (its : Array Value) (n : Nat), K.lookup a = some o ∧ o.cls = .type "list" ∧ o.dict = none ∧ o.data = .seq its n ∧ its.size ≤ sizeLine ∧ Vals xs its.toList
def SqT (K : PySem.W.Frag) (H : Hp) (a : Addr) (xs : List V) : Prop :=
  Rd H a (.tup xs) ∨
    ∃ (o : Obj) (its : Array Value) (n : Nat), K.lookup a = some o ∧ o.cls = .type "tuple" ∧ o.data = .seq its n ∧ its.size ≤ sizeLine ∧ Vals xs its.toList
noncomputable def absV : Value → Option V
  | .none => some .non
  | .bool b => some (.bl b)
  | .int i _ => some (.int i)
  | .str x _ => some (.str x)
  | .bytes b _ => some (.byt b)
  | .float b _ => some (.flt b)
  | .ref a => some (.ref a)
  | .type n => some (.ty n)
  | _ => none
theorem RelV.abs {x : V} {u : Value} (r : RelV x u) : absV u = some x := by
  cases x with
  | non => cases r; rfl
  | bl _ => cases r; rfl
  | int _ => obtain ⟨t, rfl⟩ := r; rfl
  | str _ => obtain ⟨t, rfl⟩ := r; rfl
  | byt _ => obtain ⟨t, rfl⟩ := r; rfl
  | flt _ => obtain ⟨t, rfl⟩ := r; rfl
  | ref _ => cases r; rfl
  | ty _ => cases r; rfl
theorem RelV.inj {x y : V} {u : Value} (r : RelV x u) (q : RelV y u) : x = y := Option.some.inj (r.abs.symm.trans q.abs)
theorem Vals.inj : ∀ {xs ys : List V} {us : List Value}, Vals xs us → Vals ys us → xs = ys
  | _, _, _, .nil, .nil => rfl
  | _, _, _, .cons r t, .cons r' t' => by rw [r.inj r', Vals.inj t t']
section
variable {X : Cx} {pins : List (Addr × Obj)} {σ : St} {H : Hp} {s : Shared} {a : Addr} {xs ys : List V}
theorem SqL.of {K : PySem.W.Frag} (h : H a = some (.lst xs)) : SqL K H a xs := .inl (.inl h)
theorem SqT.of {K : PySem.W.Frag} (h : H a = some (.tup xs)) : SqT K H a xs := .inl (.inl h)
theorem Inv.list (I : Inv X pins σ H s) (h : SqL X.K H a xs) : ∃ its : List Value, Vals xs its ∧ PlainL s.heap a its.toArray ∧ xs.length ≤ sizeLine := by
  rcases h with h | ⟨o, its, n, hk, hc, hd, hs, hz, r⟩
  · obtain ⟨z, its, n, r, e⟩ := h.ok I.hok
    exact ⟨its, r, ⟨_, n, e, rfl, rfl, rfl⟩, z⟩
  · refine ⟨its.toList, r, ⟨o, n, I.kIn a o hk, hc, hd, by simpa using hs⟩, ?_⟩
    have e := r.length
    simp only [Array.length_toList] at e
    omega
theorem Inv.tuple (I : Inv X pins σ H s) (h : SqT X.K H a xs) : ∃ its : List Value, Vals xs its ∧ IsTup s.heap a its.toArray ∧ xs.length ≤ sizeLine := by
  rcases h with h | ⟨o, its, n, hk, hc, hs, hz, r⟩
  · obtain ⟨z, its, r, p⟩ := h.ok I.hok
    exact ⟨its, r, p, z⟩
  · refine ⟨its.toList, r, ⟨o, I.kIn a o hk, hc, n, by simpa using hs⟩, ?_⟩
    have e := r.length
    simp only [Array.length_toList] at e
    omega
theorem Inv.list_inj (I : Inv X pins σ H s) (h : SqL X.K H a xs) (h' : SqL X.K H a ys) : xs = ys := by
  obtain ⟨its, r, ⟨o, n, e, _, _, d⟩, _⟩ := I.list h
  obtain ⟨its', r', ⟨o', n', e', _, _, d'⟩, _⟩ := I.list h'
  rw [e] at e'; cases e'
  rw [d] at d'
  injection d' with d1 _
  have : its = its' := by simpa using congrArg Array.toList d1
  subst this
  exact r.inj r'
theorem Inv.tuple_inj (I : Inv X pins σ H s) (h : SqT X.K H a xs) (h' : SqT X.K H a ys) : xs = ys := by
  obtain ⟨its, r, ⟨o, e, _, n, d⟩, _⟩ := I.tuple h
  obtain ⟨its', r', ⟨o', e', _, n', d'⟩, _⟩ := I.tuple h'
  rw [e] at e'; cases e'
  rw [d] at d'
  injection d' with d1 _
  have : its = its' := by simpa using congrArg Array.toList d1
  subst this
  exact r.inj r'
end
noncomputable abbrev Cx.wish (X : Cx) (E : Value → Shared → Prop) : Cx := { X with xe := E }
noncomputable abbrev Cx.nox (X : Cx) : Cx := X.wish fun _ _ => False
theorem Cx.Ok.wish {X : Cx} (ok : X.Ok) (E : Value → Shared → Prop) : (X.wish E).Ok :=
  ⟨ok.mod, ok.kind, ok.glob, ok.blt, ok.above, ok.inj, ok.has, ok.cab, ok.hd, ok.frames, ok.stk, ok.exf, ok.bs, ok.bsz, ok.noex, ok.exfs, ok.funs, ok.frf⟩
theorem Cx.Ok.unwish {X : Cx} {E : Value → Shared → Prop} (ok : (X.wish E).Ok) : X.Ok :=
  ⟨ok.mod, ok.kind, ok.glob, ok.blt, ok.above, ok.inj, ok.has, ok.cab, ok.hd, ok.frames, ok.stk, ok.exf, ok.bs, ok.bsz, ok.noex, ok.exfs, ok.funs, ok.frf⟩
section
variable {X : Cx} {pins : List (Addr × Obj)} {σ : St} {H : Hp} {s : Shared} {E : Value → Shared → Prop}
theorem Inv.wish (I : Inv X pins σ H s) (E : Value → Shared → Prop) : Inv (X.wish E) pins σ H s := ⟨I.ok.wish E, I.os, I.bare, I.base, I.loc, I.cell, I.free, I.freeC, I.pin, I.hok, I.len, I.tk⟩
theorem Inv.unwish (I : Inv (X.wish E) pins σ H s) : Inv X pins σ H s := ⟨I.ok.unwish, I.os, I.bare, I.base, I.loc, I.cell, I.free, I.freeC, I.pin, I.hok, I.len, I.tk⟩
theorem SP.unwish {D : Ends} {f : Flow} {s' : Shared} (h : SP (X.wish E) pins D f s') : SP X pins D f s' := by
  cases f with
  | next => obtain ⟨σ', H', I, q⟩ := h; exact ⟨σ', H', I.unwish, q⟩
  | brk => obtain ⟨σ', H', I, q⟩ := h; exact ⟨σ', H', I.unwish, q⟩
  | cont => obtain ⟨σ', H', I, q⟩ := h; exact ⟨σ', H', I.unwish, q⟩
  | ret u => obtain ⟨v, σ', H', I, r, q⟩ := h; exact ⟨v, σ', H', I.unwish, r, q⟩
theorem PSs.nox {st : List Stmt} {t : TS} (h : PSs X.nox st t) : PSs X st t := fun pins s σ H D I hw =>
  wpAny_mono (h pins s σ H D (I.wish _) hw) (fun _ _ q => q.unwish) fun _ _ z => False.elim z
end
section
variable {X : Cx} {st : Stmt} {rest : List Stmt} {t u : TS} {e : Expr} {te : TE} {pos : Pos}
def tNext : TS := fun D σ H => D.nx σ H
def tSeq (t u : TS) : TS := fun D σ H => t (Ends.sq D u) σ H
theorem pss_nil : PSs X [] tNext := fun _ _ σ H _ I h => wpAny_execs_nil ⟨σ, H, I, h⟩
theorem pss_cons (h1 : PS X st t) (h2 : PSs X rest u) : PSs X (st :: rest) (tSeq t u) := by
  intro pins s σ H D I h
  refine wpAny_execs_cons (thn (h1 pins s σ H (Ends.sq D u) I h) fun f s1 q => ?_)
  cases f with
  | next =>
    obtain ⟨σ', H', I', q⟩ := q
    exact h2 pins s1 σ' H' D I' q
  | ret v => exact q
  | brk => exact q
  | cont => exact q
theorem pss_one (h1 : PS X st t) : PSs X [st] t := by
  intro pins s σ H D I h
  refine wpAny_execs_cons (thn (h1 pins s σ H D I h) fun f s1 q => ?_)
  cases f with
  | next => exact wpAny_execs_nil q
  | ret v => exact q
  | brk => exact q
  | cont => exact q
theorem Inv.quiet {pins : List (Addr × Obj)} {σ : St} {H : Hp} {s : Shared} (I : Inv X pins σ H s) : interactive X.env = false := by simp [interactive, I.ok.kind]
def tDrop (te : TE) : TS := fun D σ H => te σ H fun _ H1 => D.nx σ H1
theorem ps_expr (he : PE X e te) (hs : autoParam (swapsWith e none pos.line X.env = pure false) L2.au._auto_1) : PS X (.Expr e pos) (tDrop te) := by
  intro pins s σ H D I h
  exact wpAny_Expr_any (thn (he pins s σ H _ I h) fun v s1 ⟨x, H1, I1, r1, q1⟩ => ⟨σ, H1, I1, q1⟩) I.quiet hs
def tRet (te : TE) : TS := fun D σ H => te σ H D.rt
theorem ps_ret (he : PE X e te) : PS X (.Return (some e) pos) (tRet te) := by
  intro pins s σ H D I h
  exact wpAny_Return_some (thn (he pins s σ H _ I h) fun v s1 ⟨x, H1, I1, r1, q1⟩ => ⟨x, σ, H1, I1, r1, q1⟩)
def tIfS (c : TT) (t u : TS) : TS := fun D σ H => c σ H fun b H1 => if b = true then t D σ H1 else u D σ H1
theorem ps_if {c : Expr} {a b : List Stmt} {tc : TT} (hc : PT X c tc) (ha : PSs X a t) (hb : PSs X b u) : PS X (.If c a b pos) (tIfS tc t u) := by
  intro pins s σ H D I h
  refine wpAny_If (thn (hc pins s σ H _ I h) fun d s1 ⟨H1, I1, q1⟩ => ?_)
  cases d with
  | true => exact ha pins s1 σ H1 D I1 q1
  | false => exact hb pins s1 σ H1 D I1 q1
def tNever : TS := fun _ _ _ => False
theorem ps_never : PS X st tNever := fun _ _ _ _ _ _ h => h.elim
end
abbrev TG := V → St → Hp → (St → Hp → Prop) → Prop
abbrev TGs := List V → St → Hp → (St → Hp → Prop) → Prop
def PG (X : Cx) (target : Expr) (t : TG) : Prop :=
  ∀ (pins : List (Addr × Obj)) (s : Shared) (σ : St) (H : Hp) (v : V) (u : Value) (Q : St → Hp → Prop), Inv X pins σ H s → RelV v u → t v σ H Q →
    wpAny (model X.prog X.w) X.A (assign target X.env u) (fun _ s' => ∃ σ' H', Inv X pins σ' H' s' ∧ Q σ' H') X.xe s
def PGs (X : Cx) (ts : List Expr) (t : TGs) : Prop :=
  ∀ (pins : List (Addr × Obj)) (s : Shared) (σ : St) (H : Hp) (vs : List V) (us : List Value) (Q : St → Hp → Prop), Inv X pins σ H s → Vals vs us → t vs σ H Q →
    wpAny (model X.prog X.w) X.A (assignInOrder ((assignEach ts X.env).map (·.2)) us) (fun _ s' => ∃ σ' H', Inv X pins σ' H' s' ∧ Q σ' H') X.xe s
abbrev TSet := V → V → V → Hp → (Hp → Prop) → Prop
def PSet (X : Cx) (t : TSet) : Prop :=
  ∀ (pins : List (Addr × Obj)) (s : Shared) (σ : St) (H : Hp) (o i v : V) (ov iv u : Value) (Q : Hp → Prop), Inv X pins σ H s → RelV o ov → RelV i iv → RelV v u → t o i v H Q →
    wpAny (model X.prog X.w) X.A (setItem ov iv u) (fun _ s' => ∃ H', Inv X pins σ H' s' ∧ Q H') X.xe s
section
variable {X : Cx} {pos : Pos}
def gName (i : Nat) : TG := fun v σ H Q => Q (σ.set i (some v)) H
theorem pg_name {i : Nat} {x : Str} (hN : X.N.Nodup) (hi : X.N[i]? = some x) (hx : Loc X.env.scope x) (hf : autoParam (X.fn x = true ∨ X.env.scope.names.lookup x = some .local) L2.au._auto_5) : PG X (.Name x pos) (gName i) := by
  intro pins s σ H v u Q I r h
  exact wpAny_assign_Name (store_ok I hN hi hx r (fun s' I' => ⟨_, H, I', h⟩) hf)
def gNil : TGs := fun vs σ H Q => vs = [] ∧ Q σ H
def gCons (t : TG) (u : TGs) : TGs := fun vs σ H Q => ∃ v r, vs = v :: r ∧ t v σ H fun σ' H' => u r σ' H' Q
theorem pgs_nil : PGs X [] gNil := by
  intro pins s σ H vs us Q I r h
  obtain ⟨e, h⟩ := h
  subst e
  cases r
  exact assignInOrder_nil ⟨σ, H, I, h⟩
theorem pgs_cons {e : Expr} {es : List Expr} {t : TG} {u : TGs} (h1 : PG X e t) (h2 : PGs X es u)
    (hs : autoParam ((assignEach (e :: es) X.env).map (·.2) = assign e X.env :: (assignEach es X.env).map (·.2)) L2.au._auto_1) : PGs X (e :: es) (gCons t u) := by
  intro pins s σ H vs us Q I r h
  obtain ⟨v, vr, e1, h⟩ := h
  subst e1
  cases r with
  | cons r rr =>
    rw [hs]
    refine assignInOrder_cons (thn (h1 pins s σ H _ _ _ I r h) fun _ s1 ⟨σ1, H1, I1, q1⟩ => ?_)
    exact h2 pins s1 σ1 H1 _ _ Q I1 rr q1
def gTup (K : PySem.W.Frag) (n : Nat) (t : TGs) : TG := fun v σ H Q => ∃ a xs, v = .ref a ∧ SqT K H a xs ∧ xs.length = n ∧ t xs σ H Q
theorem pg_tup {es : List Expr} {k : Nat} {t : TGs} {n : Nat} (hc : X.calm = true) (h : PGs X es t)
    (hn : autoParam ((assignEach es X.env).length = n) L2.au._auto_1) (hst : autoParam ((assignEach es X.env).findIdx? (·.1) = none) L2.au._auto_1) : PG X (.Tuple es k pos) (gTup X.K n t) := by
  intro pins s σ H v u Q I r hw
  obtain ⟨a, xs, e1, hq, hl, hw⟩ := hw
  subst e1
  cases r
  obtain ⟨its, rv, ht, hz⟩ := I.tuple hq
  refine assign_Tuple_tuple (I.ok.hd hc) ht (by simp [hn, ← hl, rv.length]) hst fun h' hx => ?_
  have I1 : Inv X pins σ H { s with heap := h' } := I.kept (t' := s.toks) fun b o e => hx b o (Nat.ne_of_lt (Heap.lt_size e)) e
  exact h pins _ σ H xs _ Q I1 (by simpa using rv) hw
def gSub (to ti : TE) (t : TSet) : TG := fun v σ H Q => to σ H fun o H1 => ti σ H1 fun i H2 => t o i v H2 fun H3 => Q σ H3
theorem pg_sub {o i : Expr} {to ti : TE} {t : TSet} (ho : PE X o to) (hi : PE X i ti) (hs : PSet X t)
    (ha : autoParam (∀ v, assign (.Subscript o i pos) X.env v = (do
      let ov ← holding [v] (eval o X.env)
      let iv ← holding [v, ov] (eval i X.env)
      standAt pos
      holding [v, ov, iv] (setItem ov iv v)
      release [v, ov, iv] [])) L2.au._auto_4) : PG X (.Subscript o i pos) (gSub to ti t) := by
  intro pins s σ H v u Q I r h
  rw [ha]
  refine wpAny_bind (wpAny_holding (thn (ho pins s σ H _ I h) fun ov s1 ⟨x, H1, I1, r1, q1⟩ => ?_))
  refine wpAny_bind (wpAny_holding (thn (hi pins s1 σ H1 _ I1 q1) fun iv s2 ⟨y, H2, I2, r2, q2⟩ => ?_))
  refine wpAny_bind (wpAny_standAt (wpAny_bind (wpAny_holding (thn (hs pins s2 σ H2 x y v ov iv u _ I2 r1 r2 r q2) fun _ s3 ⟨H3, I3, q3⟩ => ?_))))
  exact wpAny_release ⟨σ, H3, I3, q3⟩
def tAsg (te : TE) (g : TG) : TS := fun D σ H => te σ H fun x H1 => g x σ H1 D.nx
theorem ps_asg {tg e : Expr} {te : TE} {g : TG} (he : PE X e te) (hg : PG X tg g) (hs : autoParam (swapsWithSole [tg] e pos.line X.env = pure false) L2.au._auto_1) (hw : autoParam (swappedStores [tg] e X.env = pure none) L2.au._auto_1)
    (h1 : autoParam ((assignEach [tg] X.env).map (·.2) = [assign tg X.env]) L2.au._auto_1) : PS X (.Assign [tg] e pos) (tAsg te g) := by
  intro pins s σ H D I h
  refine wpAny_Assign_stores (thn (he pins s σ H _ I h) fun v s1 ⟨x, H1, I1, r1, q1⟩ => ?_) hs hw
  rw [h1]
  exact thn (hg pins s1 σ H1 x v _ I1 r1 q1) fun _ s2 q => q
theorem ps_set {i : Nat} {x : Str} {e : Expr} {te : TE} {pos' : Pos} (hN : X.N.Nodup) (hi : X.N[i]? = some x) (hx : Loc X.env.scope x) (he : PE X e te) (hs : autoParam (swapsWith e (some (.Name x pos')) pos.line X.env = pure false) L2.au._auto_1) (hf : autoParam (X.fn x = true ∨ X.env.scope.names.lookup x = some .local) L2.au._auto_5) :
    PS X (.Assign [.Name x pos'] e pos) (tAsg te (gName i)) := by
  intro pins s σ H D I h
  refine wpAny_Assign_Name (thn (he pins s σ H _ I h) fun v s1 ⟨y, H1, I1, r1, q1⟩ => ?_) hs
  exact store_ok I1 hN hi hx r1 (fun s2 I2 => ⟨_, H1, I2, q1⟩) hf
end
section
variable {X : Cx} {pos : Pos}
def tWhile (c : TT) (tb : TS) : TS := fun D σ H => ∃ W : Nat → St → Hp → Prop, (∃ m, W m σ H) ∧ ∀ m σ H, W m σ H →
  c σ H fun b H1 => if b = true then ∃ N : St → Hp → Prop, (∀ σ' H', N σ' H' → ∃ m', m' < m ∧ W m' σ' H') ∧ tb (Ends.lp D (N)) σ H1 else D.nx σ H1
theorem ps_while {c : Expr} {body : List Stmt} {tc : TT} {tb : TS} (hp : PassesOwn (model X.prog X.w) X.A X.env X.xe) (hc : PT X c tc) (hb : PSs X body tb) : PS X (.While c body [] pos) (tWhile tc tb) := by
  intro pins s σ H D I h
  obtain ⟨W, ⟨m0, w0⟩, turn⟩ := h
  refine wpAny_While (codeAny_whileLoop (fun n s' => ∃ σ' H', Inv X pins σ' H' s' ∧ W n σ' H') ?_ m0 ⟨σ, H, I, w0⟩)
  rintro n s1 ⟨σ1, H1, I1, w1⟩
  refine wpAny_passesOwn hp (thn (hc pins s1 σ1 H1 _ I1 (turn n σ1 H1 w1)) fun b s2 ⟨H2, I2, q2⟩ => ?_)
  cases b with
  | true =>
    obtain ⟨N, hN, q2⟩ := q2
    rw [if_pos rfl]
    refine wpAny_passesOwn hp (thn (hb pins s2 σ1 H2 _ I2 q2) fun f s3 q3 => ?_)
    cases f with
    | next =>
      obtain ⟨σ3, H3, I3, n3⟩ := q3
      obtain ⟨m', hm, w3⟩ := hN σ3 H3 n3
      exact ⟨m', hm, σ3, H3, I3, w3⟩
    | cont =>
      obtain ⟨σ3, H3, I3, n3⟩ := q3
      obtain ⟨m', hm, w3⟩ := hN σ3 H3 n3
      exact ⟨m', hm, σ3, H3, I3, w3⟩
    | brk => exact q3
    | ret v => exact q3
  | false =>
    rw [if_neg Bool.false_ne_true]
    exact wpAny_execs_nil ⟨σ1, H2, I2, q2⟩
end
set_option genInjectivity false in
structure It where
  go : Nat → Hp → Prop
  yld : Nat → Hp → V → Hp → Prop
  stop : Nat → Hp → Prop
def FpOk (X : Cx) (pins : List (Addr × Obj)) (H : Hp) (b : Addr) : Prop :=
  H b = none ∧ b ≠ X.env.locals ∧ b ∉ X.fs ∧ (b ∈ X.ex ∨ X.s₀.heap.objs.size ≤ b) ∧ (∀ x c, X.env.cells.lookup x = some c → c ≠ b) ∧ ∀ p ∈ X.pn ++ pins, p.1 ≠ b
theorem Inv.fpOk {X : Cx} {pins : List (Addr × Obj)} {σ : St} {H H' : Hp} {s : Shared} {b : Addr} (I : Inv X pins σ H s) (hb : s.heap.objs.size ≤ b) (hn : H' b = none) : FpOk X pins H' b := by
  refine ⟨hn, Nat.ne_of_gt (Nat.lt_of_lt_of_le I.lt hb), I.nofs hb, .inr (Nat.le_trans I.sz hb), fun x c e z => ?_, fun p hp z => ?_⟩
  · obtain ⟨v, q⟩ := I.cell x c e
    exact absurd (Nat.lt_of_lt_of_le q.lt (by rw [z]; exact hb)) (Nat.lt_irrefl _)
  · exact absurd (Nat.lt_of_lt_of_le (Heap.lt_size (I.pin p hp).1) (by rw [z]; exact hb)) (Nat.lt_irrefl _)
structure Turn (P : Program) (w : World) (K : PySem.W.Frag) (tg : Expr) (J : It) (fp : List Addr) (it : Addr) (tn : Nat → Heap → Prop) : Prop where
  mem : it ∈ fp
  obj : ∀ i h, tn i h → ∀ b ∈ fp, ∃ o, h.get? b = some o ∧ ∀ v, o.data ≠ .cell v
  keep : ∀ i h h', tn i h → (∀ b ∈ fp, ∀ o, h.get? b = some o → h'.get? b = some o) → tn i h'
  item : ∀ (X : Cx), X.prog = P → X.w = w → X.K = K → X.calm = true → ∀ (i : Nat) (pins : List (Addr × Obj)) (s : Shared) (σ : St) (H : Hp) (E : Value → Shared → Prop), Inv X pins σ H s → (∀ b ∈ fp, FpOk X pins H b) → tn i s.heap → J.go i H →
    wpAny (model P w) X.A (pyNext (.ref it)) (fun r s1 => ∃ u, r = some u ∧
      wpAny (model P w) X.A (letOwnedTupleGo tg (.ref it) u) (fun _ s2 => ∃ x H', Inv X pins σ H' s2 ∧ RelV x u ∧ J.yld i H x H' ∧ tn (i + 1) s2.heap ∧ ∀ b ∈ fp, H' b = none) E s1) E s
  done : ∀ (X : Cx), X.prog = P → X.w = w → X.K = K → X.calm = true → ∀ (i : Nat) (pins : List (Addr × Obj)) (s : Shared) (σ : St) (H : Hp) (E : Value → Shared → Prop), Inv X pins σ H s → (∀ b ∈ fp, FpOk X pins H b) → tn i s.heap → J.stop i H →
    wpAny (model P w) X.A (pyNext (.ref it)) (fun r s1 => r = none ∧ Inv X pins σ H s1) E s
  self : ∀ (A : Around) (i : Nat) (s : Shared) (Q : Value → Shared → Prop) (E : Value → Shared → Prop), tn i s.heap → Q (.ref it) s → wpAny (model P w) A (pyIter (.ref it)) Q E s
abbrev TI := St → Hp → (It → Hp → Prop) → Prop
def PIE (X : Cx) (pins : List (Addr × Obj)) (σ : St) (tg : Expr) (R : It → Hp → Prop) (itv : Value) (s2 : Shared) : Prop :=
  ∃ (it : Addr) (fp : List Addr) (tn : Nat → Heap → Prop) (J : It) (H' : Hp), itv = .ref it ∧ Inv X pins σ H' s2 ∧ Turn X.prog X.w X.K tg J fp it tn ∧ tn 0 s2.heap ∧ (∀ b ∈ fp, FpOk X pins H' b) ∧ R J H'
def PI (X : Cx) (tg iter : Expr) (wi : TI) : Prop :=
  ∀ (pins : List (Addr × Obj)) (s : Shared) (σ : St) (H : Hp) (R : It → Hp → Prop), Inv X pins σ H s → wi σ H R →
    wpAny (model X.prog X.w) X.A (eval iter X.env) (fun v s1 => wpAny (model X.prog X.w) X.A (pyIter v) (PIE X pins σ tg R) X.xe s1) X.xe s
theorem go_of {M : Model} {A : Around} {E : Value → Shared → Prop} {s : Shared} {tg : Expr} {it : Addr} {u : Value} {o : Obj} {n : String} {vs : Array Value} {Q : Unit → Shared → Prop} (ho : s.heap.get? it = some o) (hc : o.cls = .type n) (hd : o.data = .fields vs)
    (hn : ["enumerate", "zip", "dict_itemiterator", "dict_reverseitemiterator", "odict_iterator", "itertools.zip_longest", "itertools.pairwise"].contains n = false) (hQ : Q () s) : wpAny M A (letOwnedTupleGo tg (.ref it) u) Q E s := by
  unfold letOwnedTupleGo
  cases tg <;> first
    | exact wpAny_pure hQ
    | (cases u <;> first
        | exact wpAny_pure hQ
        | (refine wpAny_bind (wpAny_load ho ?_)
           rw [hc, hd]
           show wpAny M A (if (["enumerate", "zip", "dict_itemiterator", "dict_reverseitemiterator", "odict_iterator", "itertools.zip_longest", "itertools.pairwise"].contains n && vs[0]? == some (rawInt _)) = true then _ else _) Q E s
           rw [if_neg (by intro h; rw [hn, Bool.false_and] at h; cases h)]
           exact wpAny_pure hQ))
noncomputable def Itl (K : PySem.W.Frag) (a : Addr) : It :=
  ⟨fun i H => ∃ xs x, SqL K H a xs ∧ xs[i]? = some x, fun i H x H' => H' = H ∧ ∀ xs, SqL K H a xs → xs[i]? = some x, fun i H => ∃ xs, SqL K H a xs ∧ xs.length ≤ i⟩
noncomputable def Itt (K : PySem.W.Frag) (a : Addr) : It :=
  ⟨fun i H => ∃ xs x, SqT K H a xs ∧ xs[i]? = some x, fun i H x H' => H' = H ∧ ∀ xs, SqT K H a xs → xs[i]? = some x, fun i H => ∃ xs, SqT K H a xs ∧ xs.length ≤ i⟩
noncomputable def Itr (lo : Int) (n : Nat) : It := ⟨fun i _ => i < n, fun i H x H' => H' = H ∧ x = .int (lo + i), fun i _ => n ≤ i⟩
theorem turn_list {P : Program} {w : World} {K : PySem.W.Frag} {tg : Expr} (a it : Addr) : Turn P w K tg (Itl K a) [it] it (fun i h => h.IsListIter it a i) where
  mem := by simp
  obj := fun i h st b hb => by
    have e : b = it := by simpa using hb
    subst e
    obtain ⟨o, e, c, d⟩ := st
    exact ⟨o, e, fun v z => by rw [d] at z; cases z⟩
  keep := fun i h h' st k => st.at fun o e => k it (by simp) o e
  item := by
    intro X hP hw hK hc i pins s σ H E I hf st hg
    subst hP hw hK
    obtain ⟨xs, x, hq, hx⟩ := hg
    obtain ⟨its, rv, p, hz⟩ := I.list hq
    obtain ⟨u, hu, ru⟩ := rv.get hx
    obtain ⟨f0, f1, f2, f3, f4, f5⟩ := hf it (by simp)
    refine wpAny_pyNext_list_item st p.isList (x := u) (by simpa using hu) fun h' st' sb => ?_
    have I1 : Inv X pins σ H { s with heap := h' } := I.turned (t' := s.toks) (fun b o hb e => (sb.2 b hb).trans e) f0 f1 f3 f4 f5
    obtain ⟨o, e, c, d⟩ := id st'
    exact ⟨u, rfl, go_of (s := { s with heap := h' }) e c d (by decide) ⟨x, H, I1, ru, ⟨rfl, fun ys hy => by rw [I.list_inj hy hq]; exact hx⟩, st', fun b hb => (hf b hb).1⟩⟩
  done := by
    intro X hP hw hK hc i pins s σ H E I hf st hg
    subst hP hw hK
    obtain ⟨xs, hq, hx⟩ := hg
    obtain ⟨its, rv, p, hz⟩ := I.list hq
    obtain ⟨f0, f1, f2, f3, f4, f5⟩ := hf it (by simp)
    have hl := rv.length
    exact wpAny_pyNext_list_end (I.ok.hd hc) st p.isList (by simp; omega) fun h' eb => ⟨rfl, I.turned (t' := s.toks) (fun b o hb e => eb b o hb e) f0 f1 f3 f4 f5⟩
  self := fun _ _ _ _ _ st h => wpAny_pyIter_listiter st h
theorem turn_tuple {P : Program} {w : World} {K : PySem.W.Frag} {tg : Expr} (a it : Addr) : Turn P w K tg (Itt K a) [it] it (fun i h => h.IsTupleIter it a i) where
  mem := by simp
  obj := fun i h st b hb => by
    have e : b = it := by simpa using hb
    subst e
    obtain ⟨o, e, c, d⟩ := st
    exact ⟨o, e, fun v z => by rw [d] at z; cases z⟩
  keep := fun i h h' st k => st.at fun o e => k it (by simp) o e
  item := by
    intro X hP hw hK hc i pins s σ H E I hf st hg
    subst hP hw hK
    obtain ⟨xs, x, hq, hx⟩ := hg
    obtain ⟨its, rv, p, hz⟩ := I.tuple hq
    obtain ⟨u, hu, ru⟩ := rv.get hx
    obtain ⟨f0, f1, f2, f3, f4, f5⟩ := hf it (by simp)
    refine wpAny_pyNext_tuple_item st (show s.heap.IsTuple a its.toArray from p) (x := u) (by simpa using hu) fun h' st' sb => ?_
    have I1 : Inv X pins σ H { s with heap := h' } := I.turned (t' := s.toks) (fun b o hb e => (sb.2 b hb).trans e) f0 f1 f3 f4 f5
    obtain ⟨o, e, c, d⟩ := id st'
    exact ⟨u, rfl, go_of (s := { s with heap := h' }) e c d (by decide) ⟨x, H, I1, ru, ⟨rfl, fun ys hy => by rw [I.tuple_inj hy hq]; exact hx⟩, st', fun b hb => (hf b hb).1⟩⟩
  done := by
    intro X hP hw hK hc i pins s σ H E I hf st hg
    subst hP hw hK
    obtain ⟨xs, hq, hx⟩ := hg
    obtain ⟨its, rv, p, hz⟩ := I.tuple hq
    obtain ⟨f0, f1, f2, f3, f4, f5⟩ := hf it (by simp)
    have hl := rv.length
    exact wpAny_pyNext_tuple_end (I.ok.hd hc) st (show s.heap.IsTuple a its.toArray from p) (by simp; omega) fun h' eb => ⟨rfl, I.turned (t' := s.toks) (fun b o hb e => eb b o hb e) f0 f1 f3 f4 f5⟩
  self := fun _ _ _ _ _ st h => wpAny_pyIter_tupleiter st h
theorem turn_range {P : Program} {w : World} {K : PySem.W.Frag} {tg : Expr} (it : Addr) (lo : Int) (n : Nat) : Turn P w K tg (Itr lo n) [it] it (fun i h => IsRangeIter h it (lo + (i : Nat) * 1) ((n : Int) - (i : Nat)) 1) where
  mem := by simp
  obj := fun i h st b hb => by
    have e : b = it := by simpa using hb
    subst e
    exact ⟨_, st, fun v z => by
      have z' : Data.fields _ = Data.cell v := z
      cases z'⟩
  keep := fun i h h' st k => k it (by simp) _ st
  item := by
    intro X hP hw hK hc i pins s σ H E I hf st hg
    subst hP hw hK
    obtain ⟨f0, f1, f2, f3, f4, f5⟩ := hf it (by simp)
    have W := Walks.range (prog := X.prog) (w := X.w) (I.ok.hd hc) it lo 1 n
    refine wpAny_with_toks (n := 1) I.tk (W.item i s _ _ hg st fun v h' tk hv st' kk ht => ?_)
    have ht : 0 < tk := ht
    obtain ⟨t, rfl⟩ := hv
    have I1 : Inv X pins σ H { s with heap := h', toks := tk } := I.turned (fun b o hb e => kk b o (by simpa using hb) e) f0 f1 f3 f4 f5
    refine ⟨_, rfl, go_of (s := { s with heap := h', toks := tk }) (n := "range_iterator") st' rfl rfl (by decide) ⟨.int (lo + i), H, I1, ⟨t, ?_⟩, ⟨rfl, rfl⟩, st', fun b hb => (hf b hb).1⟩⟩
    rw [Int.mul_one]
  done := by
    intro X hP hw hK hc i pins s σ H E I hf st hg
    subst hP hw hK
    obtain ⟨f0, f1, f2, f3, f4, f5⟩ := hf it (by simp)
    exact wpAny_pyNext_range_end (I.ok.hd hc) st (by have : n ≤ i := hg; omega) fun h' eb => ⟨rfl, I.turned (t' := s.toks) (fun b o hb e => eb b o hb e) f0 f1 f3 f4 f5⟩
  self := fun _ _ _ _ _ st h => wpAny_pyIter_rangeiter st h
end L2
namespace L2
open PySem PySem.Spec PyProof.Rows
section
variable {X : Cx} {tg : Expr}
theorem range_it {pins : List (Addr × Obj)} {σ : St} {H : Hp} {s : Shared} {R : It → Hp → Prop} {E : Value → Shared → Prop} {lo hi : Int} {t u v : Tok} {tk : Nat} (I : Inv X pins σ H s) (h1 : -(2 ^ 62) ≤ lo) (h2 : lo < 2 ^ 62) (h3 : -(2 ^ 62) ≤ hi) (h4 : hi < 2 ^ 62)
    (q : R (Itr lo (hi - lo).toNat) H) (ht : autoParam (0 < tk) L2.au._auto_3) : wpAny (model X.prog X.w) X.A (pyIter (.ref s.heap.objs.size)) (PIE X pins σ tg R) E { s with heap := s.heap.push { cls := .type "range", data := .fields #[.int lo t, .int hi u, .int 1 v] }, toks := tk } := by
  refine wpAny_pyIter_range (IsRange.new ..) (small_one h1 h2 h3 h4) ?_
  have I1 : Inv X pins σ H { s with heap := s.heap.push { cls := .type "range", data := .fields #[.int lo t, .int hi u, .int 1 v] }, toks := tk } := I.kept fun b o e => Heap.get?_push_of_some _ e
  refine ⟨(s.heap.push { cls := .type "range", data := .fields #[.int lo t, .int hi u, .int 1 v] }).objs.size, [(s.heap.push { cls := .type "range", data := .fields #[.int lo t, .int hi u, .int 1 v] }).objs.size], _, _, H, rfl,
    I1.kept (t' := tk) fun b o e => Heap.get?_push_of_some _ e, turn_range _ lo (hi - lo).toNat, ?_, fun b hb => ?_, q⟩
  · have e1 : lo + ((0 : Nat) : Int) * 1 = lo := by simp
    have e2 : (((hi - lo).toNat : Nat) : Int) - ((0 : Nat) : Int) = Builtin.Range.rangeSize lo hi 1 := by rw [rangeSize_one]; split <;> omega
    show IsRangeIter _ _ (lo + ((0 : Nat) : Int) * 1) ((((hi - lo).toNat : Nat) : Int) - ((0 : Nat) : Int)) 1
    rw [e1, e2]
    exact Heap.get?_push_size _ rfl
  · have e : b = (s.heap.push { cls := .type "range", data := .fields #[.int lo t, .int hi u, .int 1 v] }).objs.size := by simpa using hb
    subst e
    exact I1.fpOk (Nat.le_refl _) (I1.hok.fresh (Nat.le_refl _))
def iRng1 (ta : TA) : TI := fun σ H R => ta σ H fun vs H1 => ∃ j : Int, vs = [.int j] ∧ -(2 ^ 62) ≤ j ∧ j < 2 ^ 62 ∧ R (Itr 0 j.toNat) H1
def iRng2 (ta : TA) : TI := fun σ H R => ta σ H fun vs H1 => ∃ i j : Int, vs = [.int i, .int j] ∧ (-(2 ^ 62) ≤ i ∧ i < 2 ^ 62 ∧ -(2 ^ 62) ≤ j ∧ j < 2 ^ 62) ∧ R (Itr i (j - i).toNat) H1
theorem pi_range1 {a : Expr} {ta : TA} {p pos : Pos} (hg : Gl X "range") (hm : X.mg "range" = none) (ha : PA X [a] ta) (hs : autoParam (starEach [a] X.env = [(false, eval a X.env)]) L2.au._auto_1) : PI X tg (.Call (.Name "range" p) [a] [] pos) (iRng1 ta) := by
  intro pins s σ H R I h
  refine Call_ (ld_blt I hg hm boot_range (PyProof.Rows.callWith_type1 (thn (ha pos pins s σ H _ I h) fun us s1 ⟨vs, H1, I1, r1, q1⟩ => ?_) hs rfl))
  obtain ⟨j, e, q1, q2, q⟩ := q1
  subst e
  cases r1 with
  | cons r rr =>
    cases rr
    obtain ⟨t, rfl⟩ := r
    exact call_range_1 (range_it I1 (by omega) (by omega) q1 q2 (by simpa using q))
theorem pi_range2 {a b : Expr} {ta : TA} {p pos : Pos} (hg : Gl X "range") (hm : X.mg "range" = none) (ha : PA X [a, b] ta) (hs : autoParam (starEach [a, b] X.env = [(false, eval a X.env), (false, eval b X.env)]) L2.au._auto_1) (hs2 : autoParam (starEach [b] X.env = [(false, eval b X.env)]) L2.au._auto_1) :
    PI X tg (.Call (.Name "range" p) [a, b] [] pos) (iRng2 ta) := by
  intro pins s σ H R I h
  refine Call_ (ld_blt I hg hm boot_range (PyProof.Rows.callWith_type1 (thn (ha pos pins s σ H _ I h) fun us s1 ⟨vs, H1, I1, r1, q1⟩ => ?_) (by rw [hs, hs2]) (by rw [hs2]; rfl)))
  obtain ⟨i, j, e, ⟨q1, q2, q3, q4⟩, q⟩ := q1
  subst e
  cases r1 with
  | cons r rr =>
    cases rr with
    | cons r' rr =>
      cases rr
      obtain ⟨t, rfl⟩ := r
      obtain ⟨t', rfl⟩ := r'
      exact call_range_2 (range_it I1 q1 q2 q3 q4 q)
def tFor (wi : TI) (g : TG) (tb : TS) : TS := fun D σ H => wi σ H fun J H1 => ∃ W : Nat → Nat → St → Hp → Prop, (∃ m, W 0 m σ H1) ∧ ∀ i m σ H, W i m σ H →
  (J.stop i H ∧ D.nx σ H) ∨ (J.go i H ∧ ∃ N : St → Hp → Prop, (∀ σ' H', N σ' H' → ∃ m', m' < m ∧ W (i + 1) m' σ' H') ∧ ∀ x H', J.yld i H x H' → g x σ H' fun σ2 H2 => tb (Ends.lp D (N)) σ2 H2)
noncomputable def pinsAt (fp : List Addr) (h : Heap) : List (Addr × Obj) := fp.filterMap fun b => (h.get? b).map fun o => (b, o)
theorem mem_pinsAt {fp : List Addr} {h : Heap} {b : Addr} {o : Obj} (hb : b ∈ fp) (e : h.get? b = some o) : (b, o) ∈ pinsAt fp h := List.mem_filterMap.mpr ⟨b, hb, by rw [e]; rfl⟩
theorem of_pinsAt {fp : List Addr} {h : Heap} {p : Addr × Obj} (hp : p ∈ pinsAt fp h) : p.1 ∈ fp ∧ h.get? p.1 = some p.2 := by
  obtain ⟨b, hb, e⟩ := List.mem_filterMap.mp hp
  cases q : h.get? b with
  | none => rw [q] at e; cases e
  | some o =>
    rw [q] at e
    have e' : (b, o) = p := Option.some.inj e
    subst e'
    exact ⟨hb, q⟩
theorem Inv.pinned {pins : List (Addr × Obj)} {σ : St} {H : Hp} {s : Shared} {fp : List Addr} (I : Inv X pins σ H s) (hf : ∀ b ∈ fp, FpOk X pins H b) (ho : ∀ b ∈ fp, ∃ o, s.heap.get? b = some o ∧ ∀ v, o.data ≠ .cell v) : Inv X (pins ++ pinsAt fp s.heap) σ H s :=
  I.pins_of fun p hp => (List.mem_append.mp hp).elim (fun z => I.pin p (List.mem_append_right _ z)) fun z => by
    obtain ⟨hb, e⟩ := of_pinsAt z
    obtain ⟨f0, f1, f2, _⟩ := hf p.1 hb
    obtain ⟨o, e', d⟩ := ho p.1 hb
    rw [e] at e'; cases e'
    exact ⟨e, f0, f1, f2, d⟩
theorem Inv.unpinned {pins pl : List (Addr × Obj)} {σ : St} {H : Hp} {s : Shared} (I : Inv X (pins ++ pl) σ H s) : Inv X pins σ H s := I.pins_of fun p hp => I.pin p (List.mem_append_right _ (List.mem_append_left _ hp))
theorem ps_for {iter : Expr} {body : List Stmt} {wi : TI} {g : TG} {tb : TS} {pos : Pos} (hp : PassesOwn (model X.prog X.w) X.A X.env X.xe) (hc : X.calm = true) (hi : PI X tg iter wi) (hg : PG X tg g) (hb : PSs X body tb)
    (hs : autoParam (∀ x, foldedSetIterable iter X.env x = pure x) L2.au._auto_4) : PS X (.For tg iter body [] pos) (tFor wi g tb) := by
  intro pins s σ H D I h
  refine wpAny_For (thn (hi pins s σ H _ I h) fun v s1 h1 => thn h1 fun itv s2 h2 => ?_) hs
  obtain ⟨it, fp, tn, J, H2, e, I2, T, st2, f2, W, ⟨m0, w0⟩, turn⟩ := h2
  subst e
  have stat : ∀ {H' : Hp}, (∀ b ∈ fp, H' b = none) → ∀ b ∈ fp, FpOk X pins H' b := fun hn b hb => ⟨hn b hb, (f2 b hb).2⟩
  refine codeAny_forLoop_any (fun n s' => ∃ i σ' H', Inv X pins σ' H' s' ∧ tn i s'.heap ∧ (∀ b ∈ fp, H' b = none) ∧ W i n σ' H') ?_ m0 ⟨0, σ, H2, I2, st2, fun b hb => (f2 b hb).1, w0⟩
  rintro n s3 ⟨i, σ3, H3, I3, st3, fr3, w3⟩
  rcases turn i n σ3 H3 w3 with ⟨stop, qn⟩ | ⟨go, N, hN, step⟩
  · refine wpAny_passesOwn hp (thn (T.done X rfl rfl rfl hc i pins s3 σ3 H3 X.xe I3 (stat fr3) st3 stop) fun r s4 ⟨hr, I4⟩ => ?_)
    subst hr
    exact wpAny_execs_nil ⟨σ3, H3, I4, qn⟩
  · refine wpAny_passesOwn hp (thn (T.item X rfl rfl rfl hc i pins s3 σ3 H3 X.xe I3 (stat fr3) st3 go) fun r s4 ⟨u, hr, h4⟩ => ?_)
    subst hr
    refine wpAny_passesOwn hp (thn h4 fun _ s5 ⟨x, H5, I5, r5, y5, st5, fr5⟩ => ?_)
    have I5' := I5.pinned (stat fr5) (T.obj _ _ st5)
    refine wpAny_passesOwn hp (thn (hg _ s5 σ3 H5 x u _ I5' r5 (step x H5 y5)) fun _ s6 ⟨σ6, H6, I6, q6⟩ => ?_)
    refine wpAny_passesOwn hp (thn (hb _ s6 σ6 H6 _ I6 q6) fun f s7 q7 => ?_)
    have again : ∀ {σ7 : St} {H7 : Hp}, Inv X (pins ++ pinsAt fp s5.heap) σ7 H7 s7 → N σ7 H7 → ∃ m, m < n ∧ ∃ i σ' H', Inv X pins σ' H' s7 ∧ tn i s7.heap ∧ (∀ b ∈ fp, H' b = none) ∧ W i m σ' H' := fun {σ7 H7} I7 n7 => by
      obtain ⟨m', hm, w7⟩ := hN σ7 H7 n7
      refine ⟨m', hm, i + 1, σ7, H7, I7.unpinned, T.keep _ _ _ st5 fun b hb o e => (I7.pin (b, o) (List.mem_append_right _ (List.mem_append_right _ (mem_pinsAt hb e)))).1, fun b hb => ?_, w7⟩
      obtain ⟨o, e, d⟩ := T.obj _ _ st5 b hb
      exact (I7.pin (b, o) (List.mem_append_right _ (List.mem_append_right _ (mem_pinsAt hb e)))).2.1
    cases f with
    | next => obtain ⟨σ7, H7, I7, n7⟩ := q7; exact again I7 n7
    | cont => obtain ⟨σ7, H7, I7, n7⟩ := q7; exact again I7 n7
    | brk => obtain ⟨σ7, H7, I7, q7⟩ := q7; exact ⟨σ7, H7, I7.unpinned, q7⟩
    | ret v => obtain ⟨x7, σ7, H7, I7, r7, q7⟩ := q7; exact ⟨x7, σ7, H7, I7.unpinned, r7, q7⟩
end
@[reducible] def PAt {α : Type} (P : Nat → α → Hp → Prop) (i : Nat) : α → Hp → Prop := P i
theorem for_list {K : PySem.W.Frag} {a : Addr} {xs : List V} {g : TG} {tb : TS} {D : Ends} {σ : St} {H : Hp} (Pv : Nat → St → Hp → Prop) (h0 : Pv 0 σ H) (hl : ∀ i σ H, i ≤ xs.length → Pv i σ H → SqL K H a xs)
    (hs : ∀ i x σ H, xs[i]? = some x → Pv i σ H → g x σ H fun σ2 H2 => tb (Ends.lp D (PAt Pv (i + 1))) σ2 H2) (hd : ∀ σ H, Pv xs.length σ H → D.nx σ H) :
    ∃ W : Nat → Nat → St → Hp → Prop, (∃ m, W 0 m σ H) ∧ ∀ i m σ H, W i m σ H →
      ((Itl K a).stop i H ∧ D.nx σ H) ∨ ((Itl K a).go i H ∧ ∃ N : St → Hp → Prop, (∀ σ' H', N σ' H' → ∃ m', m' < m ∧ W (i + 1) m' σ' H') ∧ ∀ x H', (Itl K a).yld i H x H' → g x σ H' fun σ2 H2 => tb (Ends.lp D (N)) σ2 H2) := by
  refine ⟨fun i m σ H => m = xs.length - i ∧ i ≤ xs.length ∧ Pv i σ H, ⟨xs.length, by simp, Nat.zero_le _, h0⟩, ?_⟩
  rintro i m σ H ⟨rfl, hi, p⟩
  have q := hl i σ H hi p
  by_cases hlt : i < xs.length
  · refine .inr ⟨⟨xs, xs[i], q, by simp [hlt]⟩, Pv (i + 1), fun σ' H' p' => ⟨xs.length - (i + 1), by omega, rfl, hlt, p'⟩, fun x H' y => ?_⟩
    obtain ⟨e, y⟩ := y
    subst e
    exact hs i x σ _ (y xs q) p
  · have e : i = xs.length := by omega
    subst e
    exact .inl ⟨⟨xs, q, Nat.le_refl _⟩, hd σ H p⟩
theorem for_tup {K : PySem.W.Frag} {a : Addr} {xs : List V} {g : TG} {tb : TS} {D : Ends} {σ : St} {H : Hp} (Pv : Nat → St → Hp → Prop) (h0 : Pv 0 σ H) (hl : ∀ i σ H, i ≤ xs.length → Pv i σ H → SqT K H a xs)
    (hs : ∀ i x σ H, xs[i]? = some x → Pv i σ H → g x σ H fun σ2 H2 => tb (Ends.lp D (PAt Pv (i + 1))) σ2 H2) (hd : ∀ σ H, Pv xs.length σ H → D.nx σ H) :
    ∃ W : Nat → Nat → St → Hp → Prop, (∃ m, W 0 m σ H) ∧ ∀ i m σ H, W i m σ H →
      ((Itt K a).stop i H ∧ D.nx σ H) ∨ ((Itt K a).go i H ∧ ∃ N : St → Hp → Prop, (∀ σ' H', N σ' H' → ∃ m', m' < m ∧ W (i + 1) m' σ' H') ∧ ∀ x H', (Itt K a).yld i H x H' → g x σ H' fun σ2 H2 => tb (Ends.lp D (N)) σ2 H2) := by
  refine ⟨fun i m σ H => m = xs.length - i ∧ i ≤ xs.length ∧ Pv i σ H, ⟨xs.length, by simp, Nat.zero_le _, h0⟩, ?_⟩
  rintro i m σ H ⟨rfl, hi, p⟩
  have q := hl i σ H hi p
  by_cases hlt : i < xs.length
  · refine .inr ⟨⟨xs, xs[i], q, by simp [hlt]⟩, Pv (i + 1), fun σ' H' p' => ⟨xs.length - (i + 1), by omega, rfl, hlt, p'⟩, fun x H' y => ?_⟩
    obtain ⟨e, y⟩ := y
    subst e
    exact hs i x σ _ (y xs q) p
  · have e : i = xs.length := by omega
    subst e
    exact .inl ⟨⟨xs, q, Nat.le_refl _⟩, hd σ H p⟩
theorem for_range {lo : Int} {n : Nat} {g : TG} {tb : TS} {D : Ends} {σ : St} {H : Hp} (Pv : Nat → St → Hp → Prop) (h0 : Pv 0 σ H)
    (hs : ∀ i σ H, i < n → Pv i σ H → g (.int (lo + i)) σ H fun σ2 H2 => tb (Ends.lp D (PAt Pv (i + 1))) σ2 H2) (hd : ∀ σ H, Pv n σ H → D.nx σ H) :
    ∃ W : Nat → Nat → St → Hp → Prop, (∃ m, W 0 m σ H) ∧ ∀ i m σ H, W i m σ H →
      ((Itr lo n).stop i H ∧ D.nx σ H) ∨ ((Itr lo n).go i H ∧ ∃ N : St → Hp → Prop, (∀ σ' H', N σ' H' → ∃ m', m' < m ∧ W (i + 1) m' σ' H') ∧ ∀ x H', (Itr lo n).yld i H x H' → g x σ H' fun σ2 H2 => tb (Ends.lp D (N)) σ2 H2) := by
  refine ⟨fun i m σ H => m = n - i ∧ i ≤ n ∧ Pv i σ H, ⟨n, by simp, Nat.zero_le _, h0⟩, ?_⟩
  rintro i m σ H ⟨rfl, hi, p⟩
  by_cases hlt : i < n
  · refine .inr ⟨hlt, Pv (i + 1), fun σ' H' p' => ⟨n - (i + 1), by omega, rfl, hlt, p'⟩, fun x H' y => ?_⟩
    obtain ⟨e, y⟩ := y
    subst e y
    exact hs i σ _ hlt p
  · have e : i = n := by omega
    subst e
    exact .inl ⟨Nat.le_refl _, hd σ H p⟩
end L2
namespace L2
open PySem PySem.Spec PyProof.Rows
abbrev R2 := V → V → Hp → VK → Prop
def OpR (X : Cx) (f : Value → Value → Sem Value) (r : R2) : Prop :=
  ∀ (pins : List (Addr × Obj)) (s : Shared) (σ : St) (H : Hp) (x y : V) (v u : Value) (Q : VK), Inv X pins σ H s → RelV x v → RelV y u → r x y H Q →
    wpAny (model X.prog X.w) X.A (f v u) (EP X pins σ Q) X.xe s
def UnR (X : Cx) (f : Value → Sem Value) (r : V → Hp → VK → Prop) : Prop :=
  ∀ (pins : List (Addr × Obj)) (s : Shared) (σ : St) (H : Hp) (x : V) (v : Value) (Q : VK), Inv X pins σ H s → RelV x v → r x H Q →
    wpAny (model X.prog X.w) X.A (f v) (EP X pins σ Q) X.xe s
def CallR (X : Cx) (f : Value) (r : List V → Hp → VK → Prop) : Prop :=
  ∀ (pins : List (Addr × Obj)) (s : Shared) (σ : St) (H : Hp) (xs : List V) (us : List Value) (Q : VK), Inv X pins σ H s → Vals xs us → r xs H Q →
    wpAny (model X.prog X.w) X.A (call f us) (EP X pins σ Q) X.xe s
def TruR (X : Cx) (r : V → Hp → (Bool → Hp → Prop) → Prop) : Prop :=
  ∀ (pins : List (Addr × Obj)) (s : Shared) (σ : St) (H : Hp) (x : V) (v : Value) (Q : Bool → Hp → Prop), Inv X pins σ H s → RelV x v → r x H Q →
    wpAny (model X.prog X.w) X.A (truthy v) (TP X pins σ Q) X.xe s
def tOp (r : R2) (ta tb : TE) : TE := fun σ H Q => ta σ H fun x H1 => tb σ H1 fun y H2 => r x y H2 Q
def tUn (r : V → Hp → VK → Prop) (ta : TE) : TE := fun σ H Q => ta σ H fun x H1 => r x H1 Q
def rI (C : Int → Int → Prop) (g : Int → Int → V) : R2 := fun x y H Q => ∃ i j, x = .int i ∧ y = .int j ∧ C i j ∧ Q (g i j) H
def rI0 (g : Int → Int → V) : R2 := fun x y H Q => ∃ i j, x = .int i ∧ y = .int j ∧ Q (g i j) H
def rU (g : Int → V) : V → Hp → VK → Prop := fun x H Q => ∃ i, x = .int i ∧ Q (g i) H
section
variable {X : Cx} {a b c : Expr} {ta tb tc : TE} {pos : Pos}
theorem binT (ha : PE X a ta) (hb : PE X b tb) {pins : List (Addr × Obj)} {s : Shared} {σ : St} {H : Hp} {R : V → V → Hp → Prop} (I : Inv X pins σ H s)
    (h : ta σ H fun x H1 => tb σ H1 fun y H2 => R x y H2) {Q : Value → Shared → Prop} {f : Value → Value → Sem Value}
    (hf : ∀ v u s2 x y H2, Inv X pins σ H2 s2 → RelV x v → RelV y u → R x y H2 → wpAny (model X.prog X.w) X.A (f v u) Q X.xe s2) :
    wpAny (model X.prog X.w) X.A (eval a X.env) (fun v s₁ => wpAny (model X.prog X.w) X.A (eval b X.env) (fun u s₂ => wpAny (model X.prog X.w) X.A (f v u) Q X.xe s₂) X.xe s₁) X.xe s := by
  refine thn (ha pins s σ H _ I h) fun v s1 ⟨x, H1, I1, r1, q1⟩ => ?_
  refine thn (hb pins s1 σ H1 _ I1 q1) fun u s2 ⟨y, H2, I2, r2, q2⟩ => ?_
  exact hf v u s2 x y H2 I2 r1 r2 q2
theorem pe_op {op : Operator} {r : R2} (ho : OpR X (binaryOp op) r) (ha : PE X a ta) (hb : PE X b tb) : PE X (.BinOp a op b pos) (tOp r ta tb) := by
  intro pins s σ H Q I h
  exact wpAny_BinOp (binT ha hb I h fun v u s2 x y H2 I2 rx ry q => ho pins s2 σ H2 x y v u Q I2 rx ry q)
theorem pe_un {op : UnaryOp} {r : V → Hp → VK → Prop} (ho : UnR X (unaryOp op) r) (ha : PE X a ta) : PE X (.UnaryOp op a pos) (tUn r ta) := by
  intro pins s σ H Q I h
  exact UnaryOp_ (thn (ha pins s σ H _ I h) fun v s1 ⟨x, H1, I1, r1, q1⟩ => ho pins s1 σ H1 x v Q I1 r1 q1)
theorem opI {f : Value → Value → Sem Value} {C : Int → Int → Prop} {g : Int → Int → Int}
    (rule : ∀ (i j : Int) (t u : Tok) (s : Shared) (Q : Value → Shared → Prop) (E : Value → Shared → Prop), C i j → Q (.int (g i j) s.toks) { s with toks := s.toks + 1 } → wpAny (model X.prog X.w) X.A (f (.int i t) (.int j u)) Q E s) :
    OpR X f (rI C fun i j => .int (g i j)) := by
  intro pins s σ H x y v u Q I rx ry h
  obtain ⟨i, j, rfl, rfl, hc, q⟩ := h
  obtain ⟨t, rfl⟩ := rx
  obtain ⟨t', rfl⟩ := ry
  exact rule i j t t' s _ _ hc ⟨.int (g i j), H, I.tok _, ⟨_, rfl⟩, q⟩
theorem opI0 {f : Value → Value → Sem Value} {g : Int → Int → Int}
    (rule : ∀ (i j : Int) (t u : Tok) (s : Shared) (Q : Value → Shared → Prop) (E : Value → Shared → Prop), Q (.int (g i j) s.toks) { s with toks := s.toks + 1 } → wpAny (model X.prog X.w) X.A (f (.int i t) (.int j u)) Q E s) :
    OpR X f (rI0 fun i j => .int (g i j)) := by
  intro pins s σ H x y v u Q I rx ry h
  obtain ⟨i, j, rfl, rfl, q⟩ := h
  obtain ⟨t, rfl⟩ := rx
  obtain ⟨t', rfl⟩ := ry
  exact rule i j t t' s _ _ ⟨.int (g i j), H, I.tok _, ⟨_, rfl⟩, q⟩
theorem opB0 {f : Value → Value → Sem Value} {g : Int → Int → Bool}
    (rule : ∀ (i j : Int) (t u : Tok) (s : Shared) (Q : Value → Shared → Prop) (E : Value → Shared → Prop), Q (.bool (g i j)) s → wpAny (model X.prog X.w) X.A (f (.int i t) (.int j u)) Q E s) :
    OpR X f (rI0 fun i j => .bl (g i j)) := by
  intro pins s σ H x y v u Q I rx ry h
  obtain ⟨i, j, rfl, rfl, q⟩ := h
  obtain ⟨t, rfl⟩ := rx
  obtain ⟨t', rfl⟩ := ry
  exact rule i j t t' s _ _ ⟨.bl (g i j), H, I, rfl, q⟩
def CDiv (i j : Int) : Prop := 0 < j ∧ j < 1073741824
def CPow (i j : Int) : Prop := 0 ≤ j ∧ j ≤ 1000000 ∧ i.natAbs < 2 ^ 64
def CMul (i j : Int) : Prop := (-(2 ^ 64) < i ∧ i < 2 ^ 64) ∨ (-(2 ^ 64) < j ∧ j < 2 ^ 64)
theorem CMul.ok {i j : Int} (h : CMul i j) : IntMulOk i j := by
  rcases h with ⟨h1, h2⟩ | ⟨h1, h2⟩
  · exact .of_left (intBits_le_64 h1 h2)
  · exact .of_right (intBits_le_64 h1 h2)
theorem op_add : OpR X (binaryOp .Add) (rI0 fun i j => .int (i + j)) := opI0 fun _ _ _ _ _ _ _ q => add_int q
theorem op_sub : OpR X (binaryOp .Sub) (rI0 fun i j => .int (i - j)) := opI0 fun _ _ _ _ _ _ _ q => sub_int q
theorem op_mul : OpR X (binaryOp .Mult) (rI CMul fun i j => .int (i * j)) := opI fun _ _ _ _ _ _ _ hc q => mul_int q hc.ok
theorem op_fdiv : OpR X (binaryOp .FloorDiv) (rI CDiv fun i j => .int (i / j)) := opI fun i j _ _ _ _ _ hc q => by
  have h1 : (0 : Int) < j := hc.1
  have h2 : j < 1073741824 := hc.2
  exact floordiv_int (by omega) (by rw [Int.fdiv_eq_ediv_of_nonneg i (by omega)]; exact q) (.inl (PyProof.noPylong_small (by omega)))
theorem op_mod : OpR X (binaryOp .Mod) (rI (fun _ j => 0 < j) fun i j => .int (i % j)) := opI fun i j _ _ _ _ _ hc q => by
  have h1 : (0 : Int) < j := hc
  exact mod_int' (by omega) (by rw [Int.fmod_eq_emod_of_nonneg i (by omega)]; exact q)
theorem op_pow : OpR X (binaryOp .Pow) (rI CPow fun i j => .int (i ^ j.toNat)) := opI fun _ _ _ _ _ _ _ hc q => pow_int_small hc.1 hc.2.1 hc.2.2 q
theorem unI {f : Value → Sem Value} {g : Int → Int}
    (rule : ∀ (i : Int) (t : Tok) (s : Shared) (Q : Value → Shared → Prop) (E : Value → Shared → Prop), Q (.int (g i) s.toks) { s with toks := s.toks + 1 } → wpAny (model X.prog X.w) X.A (f (.int i t)) Q E s) :
    UnR X f (rU fun i => .int (g i)) := by
  intro pins s σ H x v Q I rx h
  obtain ⟨i, rfl, q⟩ := h
  obtain ⟨t, rfl⟩ := rx
  exact rule i t s _ _ ⟨.int (g i), H, I.tok _, ⟨_, rfl⟩, q⟩
theorem un_neg : UnR X (unaryOp .USub) (rU fun i => .int (-i)) := unI fun _ _ _ _ _ q => neg_int q
end
noncomputable def scal : V → V → Bool
  | .non, .non => true | .non, .int _ => true | .int _, .non => true | .non, .bl _ => true | .bl _, .non => true | .non, .str _ => true | .str _, .non => true
  | .int _, .int _ => true | .bl _, .bl _ => true | .str _, .str _ => true | .byt _, .byt _ => true
  | .int _, .str _ => true | .str _, .int _ => true | .bl _, .str _ => true | .str _, .bl _ => true
  | _, _ => false
def rEq : R2 := fun x y H Q => scal x y = true ∧ Q (.bl (decide (x = y))) H
def rNe : R2 := fun x y H Q => scal x y = true ∧ Q (.bl (!decide (x = y))) H
theorem dec_int {i j : Int} : decide (V.int i = V.int j) = (i == j) := by
  rw [Bool.eq_iff_iff]
  simp
theorem dec_bl {i j : Bool} : decide (V.bl i = V.bl j) = (i == j) := by
  rw [Bool.eq_iff_iff]
  simp
theorem dec_str {i j : Str} : decide (V.str i = V.str j) = (i == j) := by
  rw [Bool.eq_iff_iff]
  simp
theorem dec_byt {i j : Array UInt8} : decide (V.byt i = V.byt j) = (i.toList == j.toList) := by
  rw [Bool.eq_iff_iff]
  cases i
  cases j
  simp
section
variable {X : Cx} {a b c : Expr} {ta tb tc : TE} {pos : Pos}
theorem fin_bl {pins : List (Addr × Obj)} {σ : St} {H : Hp} {s : Shared} {Q : VK} {k k' : Bool} (I : Inv X pins σ H s) (q : Q (.bl k) H) (e : k = k') : EP X pins σ Q (.bool k') s := by
  subst e
  exact ⟨.bl k, H, I, rfl, q⟩
theorem op_eq : OpR X (compareOp .Eq) rEq := by
  intro pins s σ H x y v u Q I rx ry h
  obtain ⟨hs, q⟩ := h
  cases x with
  | non =>
    cases rx
    cases y with
    | non => cases ry; exact PySem.EqNone.eq_none_none (fin_bl I q (by simp))
    | bl j => cases ry; exact PySem.EqNone.eq_none_bool (fin_bl I q (by simp))
    | int j => obtain ⟨t', rfl⟩ := ry; exact PySem.EqNone.eq_none_int (fin_bl I q (by simp))
    | str j => obtain ⟨t', rfl⟩ := ry; exact PySem.EqNone.eq_none_str (fin_bl I q (by simp))
    | _ => exact absurd (show false = true from hs) Bool.false_ne_true
  | bl i =>
    cases rx
    cases y with
    | non => cases ry; exact PySem.EqNone.eq_bool_none (fin_bl I q (by simp))
    | bl j => cases ry; exact eq_bool (fin_bl I q dec_bl)
    | str j => obtain ⟨t', rfl⟩ := ry; exact PySem.EqMixed.eq_bool_str (fin_bl I q (by simp))
    | _ => exact absurd (show false = true from hs) Bool.false_ne_true
  | int i =>
    obtain ⟨t, rfl⟩ := rx
    cases y with
    | non => cases ry; exact PySem.EqNone.eq_int_none (fin_bl I q (by simp))
    | int j => obtain ⟨t', rfl⟩ := ry; exact eq_int (fin_bl I q dec_int)
    | str j => obtain ⟨t', rfl⟩ := ry; exact PySem.EqMixed.eq_int_str (fin_bl I q (by simp))
    | _ => exact absurd (show false = true from hs) Bool.false_ne_true
  | str i =>
    obtain ⟨t, rfl⟩ := rx
    cases y with
    | non => cases ry; exact PySem.EqNone.eq_str_none (fin_bl I q (by simp))
    | bl j => cases ry; exact PySem.EqMixed.eq_str_bool (fin_bl I q (by simp))
    | int j => obtain ⟨t', rfl⟩ := ry; exact PySem.EqMixed.eq_str_int (fin_bl I q (by simp))
    | str j => obtain ⟨t', rfl⟩ := ry; exact eq_str (fin_bl I q dec_str)
    | _ => exact absurd (show false = true from hs) Bool.false_ne_true
  | byt i =>
    obtain ⟨t, rfl⟩ := rx
    cases y with
    | byt j => obtain ⟨t', rfl⟩ := ry; exact PySem.W.eq_bytes (fin_bl I q dec_byt)
    | _ => exact absurd (show false = true from hs) Bool.false_ne_true
  | _ => cases y <;> exact absurd (show false = true from hs) Bool.false_ne_true
theorem op_ne : OpR X (compareOp .NotEq) rNe := by
  intro pins s σ H x y v u Q I rx ry h
  obtain ⟨hs, q⟩ := h
  cases x with
  | non =>
    cases rx
    cases y with
    | non => cases ry; exact PySem.EqNone.ne_none_none (fin_bl I q (by simp))
    | bl j => cases ry; exact PySem.EqNone.ne_none_bool (fin_bl I q (by simp))
    | int j => obtain ⟨t', rfl⟩ := ry; exact PySem.EqNone.ne_none_int (fin_bl I q (by simp))
    | str j => obtain ⟨t', rfl⟩ := ry; exact PySem.EqNone.ne_none_str (fin_bl I q (by simp))
    | _ => exact absurd (show false = true from hs) Bool.false_ne_true
  | bl i =>
    cases rx
    cases y with
    | non => cases ry; exact PySem.EqNone.ne_bool_none (fin_bl I q (by simp))
    | bl j => cases ry; exact ne_bool (fin_bl I q (congrArg not dec_bl))
    | str j => obtain ⟨t', rfl⟩ := ry; exact PySem.EqMixed.ne_bool_str (fin_bl I q (by simp))
    | _ => exact absurd (show false = true from hs) Bool.false_ne_true
  | int i =>
    obtain ⟨t, rfl⟩ := rx
    cases y with
    | non => cases ry; exact PySem.EqNone.ne_int_none (fin_bl I q (by simp))
    | int j => obtain ⟨t', rfl⟩ := ry; exact ne_int (fin_bl I q (congrArg not dec_int))
    | str j => obtain ⟨t', rfl⟩ := ry; exact PySem.EqMixed.ne_int_str (fin_bl I q (by simp))
    | _ => exact absurd (show false = true from hs) Bool.false_ne_true
  | str i =>
    obtain ⟨t, rfl⟩ := rx
    cases y with
    | non => cases ry; exact PySem.EqNone.ne_str_none (fin_bl I q (by simp))
    | bl j => cases ry; exact PySem.EqMixed.ne_str_bool (fin_bl I q (by simp))
    | int j => obtain ⟨t', rfl⟩ := ry; exact PySem.EqMixed.ne_str_int (fin_bl I q (by simp))
    | str j => obtain ⟨t', rfl⟩ := ry; exact ne_str (fin_bl I q (congrArg not dec_str))
    | _ => exact absurd (show false = true from hs) Bool.false_ne_true
  | byt i =>
    obtain ⟨t, rfl⟩ := rx
    cases y with
    | byt j => obtain ⟨t', rfl⟩ := ry; exact PySem.W.ne_bytes (fin_bl I q (congrArg not dec_byt))
    | _ => exact absurd (show false = true from hs) Bool.false_ne_true
  | _ => cases y <;> exact absurd (show false = true from hs) Bool.false_ne_true
theorem op_lt : OpR X (compareOp .Lt) (rI0 fun i j => .bl (decide (i < j))) := opB0 fun _ _ _ _ _ _ _ q => lt_int q
theorem op_le : OpR X (compareOp .LtE) (rI0 fun i j => .bl (decide (i ≤ j))) := opB0 fun _ _ _ _ _ _ _ q => le_int q
theorem op_gt : OpR X (compareOp .Gt) (rI0 fun i j => .bl (decide (j < i))) := opB0 fun _ _ _ _ _ _ _ q => gt_int q
theorem op_ge : OpR X (compareOp .GtE) (rI0 fun i j => .bl (decide (j ≤ i))) := opB0 fun _ _ _ _ _ _ _ q => ge_int q
theorem op_lt_str : OpR X (compareOp .Lt) (fun x y H Q => ∃ i j, x = .str i ∧ y = .str j ∧ Q (.bl (decide (i.cps.toList < j.cps.toList))) H) := by
  intro pins s σ H x y v u Q I rx ry h
  obtain ⟨i, j, rfl, rfl, q⟩ := h
  obtain ⟨t, rfl⟩ := rx
  obtain ⟨t', rfl⟩ := ry
  exact lt_str (fin_bl I q rfl)
theorem op_in_str : OpR X (compareOp .In) (fun x y H Q => ∃ i j, x = .str i ∧ y = .str j ∧ Q (.bl (!(Builtin.Str.occurrences j i 0 j.length 1).isEmpty)) H) := by
  intro pins s σ H x y v u Q I rx ry h
  obtain ⟨i, j, rfl, rfl, q⟩ := h
  obtain ⟨t, rfl⟩ := rx
  obtain ⟨t', rfl⟩ := ry
  exact in_str (fin_bl I q rfl)
theorem op_isN : OpR X (compareOp .Is) (fun x y H Q => y = .non ∧ Q (.bl (decide (x = .non))) H) := by
  intro pins s σ H x y v u Q I rx ry h
  obtain ⟨rfl, q⟩ := h
  cases ry
  refine is_none_gen (fin_bl I q ?_)
  cases x <;> first
    | (cases rx; rfl)
    | (obtain ⟨t, rfl⟩ := rx; rfl)
theorem op_notN : OpR X (compareOp .IsNot) (fun x y H Q => y = .non ∧ Q (.bl (!decide (x = .non))) H) := by
  intro pins s σ H x y v u Q I rx ry h
  obtain ⟨rfl, q⟩ := h
  cases ry
  refine isnot_none_gen (fin_bl I q ?_)
  cases x <;> first
    | (cases rx; rfl)
    | (obtain ⟨t, rfl⟩ := rx; rfl)
theorem OpR.or {f : Value → Value → Sem Value} {r r' : R2} (h : OpR X f r) (h' : OpR X f r') : OpR X f (fun x y H Q => r x y H Q ∨ r' x y H Q) := by
  intro pins s σ H x y v u Q I rx ry q
  rcases q with q | q
  · exact h pins s σ H x y v u Q I rx ry q
  · exact h' pins s σ H x y v u Q I rx ry q
theorem nomark (b : Expr) {op : CmpOp} (h : autoParam (op ≠ .In) L2.au._auto_2) (h2 : autoParam (op ≠ .NotIn) L2.au._auto_2) : behindInMarks op b = false := by
  have e1 : (op == CmpOp.In) = false := by cases op <;> first | rfl | exact absurd rfl h
  have e2 : (op == CmpOp.NotIn) = false := by cases op <;> first | rfl | exact absurd rfl h2
  cases b <;> simp [behindInMarks, e1, e2]
theorem pe_cmpR {op : CmpOp} {r : R2} (ho : OpR X (compareOp op) r) (ha : PE X a ta) (hb : PE X b tb) (hm : behindInMarks op b = false) : PE X (.Compare a [op] [b] pos) (tOp r ta tb) := by
  intro pins s σ H Q I h
  exact wpAny_Compare1 (binT ha hb I h fun v u s2 x y H2 I2 rx ry q => ho pins s2 σ H2 x y v u Q I2 rx ry q) hm
def tTest (t : TE) : TT := fun σ H Q => t σ H fun x H' => ∃ k, x = .bl k ∧ Q k H'
theorem pt_cmpR {op : CmpOp} {r : R2} (ho : OpR X (compareOp op) r) (ha : PE X a ta) (hb : PE X b tb) (hm : behindInMarks op b = false) : PT X (.Compare a [op] [b] pos) (tTest (tOp r ta tb)) := by
  intro pins s σ H Q I h
  refine wpAny_isTrue_Compare1 (thn (ha pins s σ H _ I h) fun v s1 ⟨x, H1, I1, r1, q1⟩ => thn (hb pins s1 σ H1 _ I1 q1) fun u s2 ⟨y, H2, I2, r2, q2⟩ =>
    thn (ho pins s2 σ H2 x y v u _ I2 r1 r2 q2) fun c s3 ⟨z, H3, I3, r3, k, e, q3⟩ => ?_) hm
  subst e
  cases r3
  exact wpAny_truthy_bool ⟨H3, I3, q3⟩
def tChain (r r' : R2) (ta tb tc : TE) : TE := fun σ H Q => ta σ H fun x H1 => tb σ H1 fun y H2 => r x y H2 fun z H3 => ∃ k, z = .bl k ∧
  (if k = true then tc σ H3 fun w' H4 => r' y w' H4 Q else Q (.bl false) H3)
theorem pt_chain {op op' : CmpOp} {r r' : R2} (ho : OpR X (compareOp op) r) (ho' : OpR X (compareOp op') r') (ha : PE X a ta) (hb : PE X b tb) (hc : PE X c tc)
    (hm : autoParam (lastMarks [op, op'] [b, c] = false) L2.au._auto_6) : PT X (.Compare a [op, op'] [b, c] pos) (tTest (tChain r r' ta tb tc)) := by
  intro pins s σ H Q I h
  refine isTrue_chain (thn (ha pins s σ H _ I h) fun v s1 ⟨x, H1, I1, r1, q1⟩ => test_link (thn (hb pins s1 σ H1 _ I1 q1) fun u s2 ⟨y, H2, I2, r2, q2⟩ =>
    thn (ho pins s2 σ H2 x y v u _ I2 r1 r2 q2) fun d s3 ⟨z, H3, I3, r3, k, e, q3⟩ => ?_)) hm
  subst e
  cases r3
  refine wpAny_truthy_bool ?_
  cases k with
  | false =>
    obtain ⟨k', e', q'⟩ := q3
    cases e'
    exact ite_ff ⟨H3, I3, q'⟩
  | true =>
    refine ite_tt (test_last (thn (hc pins s3 σ H3 _ I3 q3) fun w' s4 ⟨z', H4, I4, r4, q4⟩ => thn (ho' pins s4 σ H4 y z' u w' _ I4 r2 r4 q4) fun d' s5 ⟨z2, H5, I5, r5, k2, e2, q5⟩ => ?_))
    subst e2
    cases r5
    exact wpAny_truthy_bool ⟨H5, I5, q5⟩
def TruV (K : PySem.W.Frag) (x : V) (H : Hp) (k : Bool) : Prop :=
  match x with
  | .non => k = false
  | .bl b => k = b
  | .int i => k = (i != 0)
  | .str y => y.length ≤ sizeLine ∧ k = ((y.length : Int) != 0)
  | .byt y => y.size ≤ sizeLine ∧ k = ((y.size : Int) != 0)
  | .ref p => (∃ xs, SqL K H p xs ∧ k = !xs.isEmpty) ∨ (∃ xs, SqT K H p xs ∧ k = !xs.isEmpty) ∨ ∃ kvs, H p = some (.dK kvs) ∧ k = !kvs.isEmpty
  | _ => False
theorem isEmpty_kv {κ : Type} {kvs : List (κ × V)} {vs : List (κ × Value)} (r : KV kvs vs) : (!vs.isEmpty) = !kvs.isEmpty := by
  cases r <;> rfl
theorem isEmpty_of {xs : List V} {its : List Value} (r : Vals xs its) : (!its.toArray.isEmpty) = !xs.isEmpty := by
  cases r <;> simp
theorem line63 : (sizeLine : Nat) < 2 ^ 63 := by rw [sizeLine_eq]; decide
theorem tru_ok : TruR X (fun x H Q => ∃ k, TruV X.K x H k ∧ Q k H) := by
  intro pins s σ H x v Q I rx h
  obtain ⟨k, e, q⟩ := h
  have hl := line63
  have hs : sizeLine = 16777216 := sizeLine_eq
  cases x with
  | non =>
    cases rx
    have e' : k = false := e
    subst e'
    exact truthy_none ⟨H, I, q⟩
  | bl b =>
    cases rx
    have e' : k = b := e
    subst e'
    exact wpAny_truthy_bool ⟨H, I, q⟩
  | int i =>
    obtain ⟨t, rfl⟩ := rx
    have e' : k = (i != 0) := e
    subst e'
    exact PySem.P.truthy_int ⟨H, I, q⟩
  | str y =>
    obtain ⟨t, rfl⟩ := rx
    obtain ⟨hy, e'⟩ : y.length ≤ sizeLine ∧ k = ((y.length : Int) != 0) := e
    subst e'
    exact PySem.P.truthy_str (by omega) ⟨H, I.tok _, q⟩
  | byt y =>
    obtain ⟨t, rfl⟩ := rx
    obtain ⟨hy, e'⟩ : y.size ≤ sizeLine ∧ k = ((y.size : Int) != 0) := e
    subst e'
    exact PySem.W.truthy_bytes (by omega) ⟨H, I.tok _, q⟩
  | ref p =>
    cases rx
    have e' : (∃ xs, SqL X.K H p xs ∧ k = !xs.isEmpty) ∨ (∃ xs, SqT X.K H p xs ∧ k = !xs.isEmpty) ∨ ∃ kvs, H p = some (.dK kvs) ∧ k = !kvs.isEmpty := e
    rcases e' with ⟨xs, hx, e'⟩ | ⟨xs, hx, e'⟩ | ⟨kvs, hx, e'⟩
    · subst e'
      obtain ⟨its, r, pl, hz⟩ := I.list hx
      have hlen := r.length
      exact wpAny_truthy_list pl.isList (by simp only [List.size_toArray]; omega) ⟨H, I.tok _, by rw [isEmpty_of r]; exact q⟩
    · subst e'
      obtain ⟨its, r, pl, hz⟩ := I.tuple hx
      have hlen := r.length
      exact truthy_tuple pl (by simp only [List.size_toArray]; omega) ⟨H, I.tok _, by rw [isEmpty_of r]; exact q⟩
    · subst e'
      obtain ⟨hz, hS, vs, r, m⟩ : kvs.length ≤ sizeLine ∧ (p == sysModules) = false ∧ ∃ vs, KV kvs vs ∧ s.heap.DictOf (mixKind X.prog X.w) p vs := I.hok p _ hx
      have hlen : kvs.length = vs.length := Paired.length r
      exact wpAny_truthy_dict hS m (by omega) ⟨H, I.tok _, by rw [isEmpty_kv r]; exact q⟩
  | _ => exact (show False from e).elim
theorem op_add_str : OpR X (binaryOp .Add) (fun x y H Q => ∃ i j, x = .str i ∧ y = .str j ∧ i.length + j.length ≤ sizeLine ∧ Q (.str (i ++ j)) H) := by
  intro pins s σ H x y v u Q I rx ry h
  obtain ⟨i, j, rfl, rfl, hz, q⟩ := h
  obtain ⟨t, rfl⟩ := rx
  obtain ⟨t', rfl⟩ := ry
  exact wpAny_with_toks (n := 1) I.tk (add_str (fun t' tk ht => ⟨.str (i ++ j), H, I.tok _ ht, ⟨_, rfl⟩, q⟩) hz)
theorem vals1 {x : V} {us : List Value} (r : Vals [x] us) : ∃ u, us = [u] ∧ RelV x u := by
  cases r with
  | cons r1 r2 => cases r2; exact ⟨_, rfl, r1⟩
theorem vals2 {x y : V} {us : List Value} (r : Vals [x, y] us) : ∃ u w', us = [u, w'] ∧ RelV x u ∧ RelV y w' := by
  cases r with
  | cons r1 r2 =>
    cases r2 with
    | cons r3 r4 => cases r4; exact ⟨_, _, rfl, r1, r3⟩
theorem call_int1 : CallR X (.type "int") (fun xs H Q => (∃ i, xs = [.int i] ∧ Q (.int i) H) ∨ ∃ k, xs = [.bl k] ∧ Q (.int (if k then 1 else 0)) H) := by
  intro pins s σ H xs us Q I r h
  rcases h with ⟨i, rfl, q⟩ | ⟨k, rfl, q⟩
  · obtain ⟨u, rfl, t, rfl⟩ := vals1 r
    exact call_int_int ⟨.int i, H, I, ⟨_, rfl⟩, q⟩
  · obtain ⟨u, rfl, r1⟩ := vals1 r
    cases r1
    exact call_int_bool ⟨.int (if k then 1 else 0), H, I.tok _, ⟨_, rfl⟩, q⟩
end
end L2
namespace L2
open PySem PySem.Spec PyProof.Rows
structure ObjM (h : Heap) (x dx C : Addr) (mA : Str → Option Value) : Prop where
  obj : h.get? x = some (PySem.W.instObj C dx)
  ns : h.Ns1 dx mA
  ne : dx ≠ x
theorem lookIn_ns {h : Heap} {dx : Addr} {mA : Str → Option Value} (n : h.Ns1 dx mA) : ∃ od, h.get? dx = some od ∧ ∀ name, PySem.W.lookIn name od = some (mA name) := by
  obtain ⟨o, es, ep, ho, hd, hk, _, hm⟩ := n
  refine ⟨o, ho, fun name => ?_⟩
  have e := hm name
  unfold nsFind findBy at e
  rw [← Array.find?_toList] at e
  unfold PySem.W.lookIn
  rw [hd]
  dsimp only
  split
  · rename_i y q
    rw [q] at e
    exact congrArg some e
  · rename_i q
    rw [q] at e
    have a : es.toList.any (·.refKey) = false := by
      rw [List.any_eq_false]
      intro y hy
      obtain ⟨z, t, hkey⟩ := hk y (Array.mem_toList_iff.mp hy)
      simp [DictEntry.refKey, hkey]
    have a' : ¬ es.toList.any (·.refKey) = true := by rw [a]; exact Bool.false_ne_true
    rw [if_neg a']
    exact congrArg some e
theorem ObjM.look {h : Heap} {x dx C : Addr} {mA : Str → Option Value} (I : ObjM h x dx C mA) : ∃ od, PySem.W.InstAt h x (PySem.W.instObj C dx) C (some od) ∧ ∀ name, PySem.W.lookIn name od = some (mA name) :=
  let ⟨od, ho, hl⟩ := lookIn_ns I.ns
  ⟨od, ⟨I.obj, rfl, rfl, ho⟩, hl⟩
theorem RelO.some_of {v : V} {o : Option Value} (r : RelO (some v) o) : ∃ u, o = some u ∧ RelV v u := by
  cases o with
  | none => exact (show False from r).elim
  | some u => exact ⟨u, rfl, r⟩
section
variable {P : Program} {w : World} {H H' : Hp} {h h' : Heap} {a C dx : Addr} {fs fs' : List (Str × V)}
theorem ins_get (hok : HOk P w H h) (e : H a = some (.ins C dx fs)) : ∃ mA, ObjM h a dx C mA ∧ (∀ f, RelO (fs.lookup f) (mA f)) ∧ PySem.Within mA (fs.map (·.1)) ∧ fs.length ≤ 1000 ∧ H dx = some (.own a) := by
  obtain ⟨d, z, ne, ob, mA, n, r, q⟩ := (show ObjOk P w H h a (.ins C dx fs) from hok a _ e)
  exact ⟨mA, ⟨ob, n, ne⟩, r, q, z, d⟩
end
structure Cls (K : PySem.W.Frag) (C : Addr) : Prop where
  pg : PySem.W.plainGet K C Str.empty = true
  hd : PySem.W.hasDictIn K C = true
  po : PySem.W.plainOver K C = true
  sa : PySem.W.findIn K (.ref C) "__setattr__" = some (some (.builtin "object.__setattr__"))
theorem Cls.get {K : PySem.W.Frag} {C : Addr} (c : Cls K C) (f : Str) : PySem.W.plainGet K C f = true := c.pg
section
variable {X : Cx} {pins : List (Addr × Obj)} {σ : St} {H : Hp} {s : Shared} {A : Around} {E : Value → Shared → Prop} {Q : Value → Shared → Prop} {c : Value} {b : Bool}
inductive TyOf (K : PySem.W.Frag) (H : Hp) : V → Value → Prop where
  | non : TyOf K H .non (.type "NoneType")
  | bl (x : Bool) : TyOf K H (.bl x) (.type "bool")
  | int (i : Int) : TyOf K H (.int i) (.type "int")
  | str (x : Str) : TyOf K H (.str x) (.type "str")
  | flt (x : UInt64) : TyOf K H (.flt x) (.type "float")
  | lst {a : Addr} {xs : List V} (e : H a = some (.lst xs)) : TyOf K H (.ref a) (.type "list")
  | frz {a : Addr} {o : Obj} {xs : List V} (e : H a = some (.frz o (.lst xs))) : TyOf K H (.ref a) (.type "list")
  | tup {a : Addr} {xs : List V} (e : H a = some (.tup xs)) : TyOf K H (.ref a) (.type "tuple")
  | dK {a : Addr} {kvs : List (Key × V)} (e : H a = some (.dK kvs)) : TyOf K H (.ref a) (.type "dict")
  | dT {a : Addr} {kvs : List (List Key × V)} (e : H a = some (.dT kvs)) : TyOf K H (.ref a) (.type "dict")
  | ins {a C dx : Addr} {fs : List (Str × V)} (e : H a = some (.ins C dx fs)) (cl : Cls K C) (ha : PySem.W.findIn K (.ref C) "__class__" = some (some (.builtin "object.__class__")))
      (hn : PySem.W.specialIn K (.builtin "object.__class__") "__get__" = some (some (.builtin "getset_descriptor.__get__"))) (htk : PySem.W.takesIn K (.builtin "object.__class__") = some true)
      (hm : PySem.W.mroIn K C (.type "object") = some true) : TyOf K H (.ref a) (.ref C)
theorem isinst_ok {x : V} {u t : Value} (I : Inv X pins σ H s) (rx : RelV x u) (ty : TyOf X.K H x t) (e : PySem.W.kitOne X.K t c = some b) (h : ∀ tk, Q (.bool b) { s with toks := tk }) :
    wpAny (model X.prog X.w) A (call (.builtin "isinstance") [u, c]) Q E s := by
  cases ty with
  | non => cases (show u = Value.none from rx); exact PySem.W.kia_one PySem.W.kitx_none I.kIn True.intro e (fun z => nomatch z) h
  | bl y => cases (show u = Value.bool y from rx); exact PySem.W.kia_one PySem.W.kitx_bool I.kIn True.intro e (fun z => nomatch z) h
  | int i => obtain ⟨t, q⟩ := (show ∃ t, u = Value.int i t from rx); cases q; exact PySem.W.kia_one PySem.W.kitx_int I.kIn True.intro e (fun z => nomatch z) h
  | str y => obtain ⟨t, q⟩ := (show ∃ t, u = Value.str y t from rx); cases q; exact PySem.W.kia_one PySem.W.kitx_str I.kIn True.intro e (fun z => nomatch z) h
  | flt y => obtain ⟨t, q⟩ := (show ∃ t, u = Value.float y t from rx); cases q; exact PySem.W.kia_one PySem.W.kitx_float I.kIn True.intro e (fun z => nomatch z) h
  | @lst a xs ea =>
    cases (show u = Value.ref a from rx)
    obtain ⟨_, _, n, _, h1⟩ := (show ObjOk X.prog X.w H s.heap a (.lst xs) from I.hok a _ ea)
    exact PySem.W.kia_one PySem.W.kitx_list I.kIn ⟨_, h1, rfl⟩ e (fun z => nomatch z) h
  | @frz a ob xs ea =>
    cases (show u = Value.ref a from rx)
    obtain ⟨_, _, _, n, _, h1⟩ := (show ObjOk X.prog X.w H s.heap a (.frz ob (.lst xs)) from I.hok a _ ea)
    exact PySem.W.kia_one PySem.W.kitx_list I.kIn ⟨_, h1, rfl⟩ e (fun z => nomatch z) h
  | @tup a xs ea =>
    cases (show u = Value.ref a from rx)
    obtain ⟨_, _, _, p⟩ := (show ObjOk X.prog X.w H s.heap a (.tup xs) from I.hok a _ ea)
    obtain ⟨o, h1, h2, _⟩ := p
    exact PySem.W.kia_one PySem.W.kitx_tuple I.kIn ⟨o, h1, h2⟩ e (fun z => nomatch z) h
  | @dK a kvs ea =>
    cases (show u = Value.ref a from rx)
    obtain ⟨_, _, vs, _, p⟩ := (show ObjOk X.prog X.w H s.heap a (.dK kvs) from I.hok a _ ea)
    obtain ⟨o, es, ep, h1, h2, _⟩ := p
    exact PySem.W.kia_one PySem.W.kitx_dict I.kIn ⟨o, h1, h2.1⟩ e (fun z => nomatch z) h
  | @dT a kvs ea =>
    cases (show u = Value.ref a from rx)
    obtain ⟨_, _, xs, _, o, es, ep, h1, h2, _⟩ := (show ObjOk X.prog X.w H s.heap a (.dT kvs) from I.hok a _ ea)
    exact PySem.W.kia_one PySem.W.kitx_dict I.kIn ⟨o, h1, h2.1⟩ e (fun z => nomatch z) h
  | @ins a C dx fs ea cl ha hn htk hm =>
    cases (show u = Value.ref a from rx)
    obtain ⟨mA, O, _⟩ := ins_get I.hok ea
    obtain ⟨od, J, _⟩ := O.look
    exact PySem.W.kia_one (PySem.W.kitx_own (cl.get _) cl.hd ha hn htk hm) I.kIn J e (fun z => nomatch z) h
end
end L2
namespace L2
open PySem PySem.Spec PyProof.Rows
structure Room (k : Nat) (A : Around) : Prop where
  hd : A.handled = none
  dp : A.depth + 3 * k + 5 < recursionLimit
  un : A.units + 16 * k + 200 < cLine
theorem Room.mono {j k : Nat} {A : Around} (r : Room k A) (h : j ≤ k) : Room j A := ⟨r.hd, by have := r.dp; omega, by have := r.un; omega⟩
theorem Room.deeper {k : Nat} {A : Around} (r : Room (k + 1) A) (env : Env) : Room k (A.deeper env) :=
  ⟨r.hd, by have := r.dp; show A.depth + 1 + 3 * k + 5 < _; omega, by have := r.un; show A.units + 3 + 16 * k + 200 < _; omega⟩
theorem Room.depth {k : Nat} {A : Around} (r : Room k A) : A.depth < recursionLimit := by have := r.dp; omega
theorem Room.units {k : Nat} {A : Around} (r : Room k A) : A.units + 64 < cLine := by have := r.un; omega
def tNil : TA := fun _ H Q => Q [] H
def tCons (ta : TE) (tr : TA) : TA := fun σ H Q => ta σ H fun x H1 => tr σ H1 fun xs H2 => Q (x :: xs) H2
section
variable {X : Cx} {e : Expr} {es : List Expr} {te : TE} {t : TA} {pos : Pos}
theorem pa_nil : PA X [] tNil := fun _ _ _ _ H Q I h => Calls.spliced_nil ⟨[], H, I, .nil, h⟩
theorem pa_cons (ha : PE X e te) (hr : PA X es t) (hs : autoParam (starEach (e :: es) X.env = (false, eval e X.env) :: starEach es X.env) L2.au._auto_1) : PA X (e :: es) (tCons te t) := by
  intro pos pins s σ H Q I h
  rw [hs]
  show wpAny _ _ (spliced ((false, eval e X.env) :: backTo pos (starEach es X.env))) _ _ s
  refine Calls.spliced_cons (thn (ha pins s σ H _ I h) fun u s1 ⟨x, H1, I1, r1, q1⟩ => ?_)
  exact thn (hr pos pins s1 σ H1 _ I1 q1) fun us s2 ⟨xs, H2, I2, r2, q2⟩ => ⟨x :: xs, H2, I2, .cons r1 r2, q2⟩
def tTup (t : TA) : TE := fun σ H Q => t σ H fun xs H1 => xs.length ≤ sizeLine ∧ ∀ p, H1 p = none → Q (.ref p) (upd H1 p (.tup xs))
def tLst (t : TA) : TE := fun σ H Q => t σ H fun xs H1 => xs.length ≤ sizeLine ∧ ∀ p, H1 p = none → Q (.ref p) (upd H1 p (.lst xs))
theorem pe_tup {x1} (h : PA X es t) : PE X (.Tuple es x1 pos) (tTup t) := by
  intro pins s σ H Q I hq
  refine wpAny_Tuple_spliced (thn (h pos pins s σ H _ I hq) fun us s1 ⟨xs, H1, I1, r, z, q⟩ => ⟨by rw [← r.length]; exact z, ?_⟩)
  have hf : H1 s1.heap.objs.size = none := I1.hok.fresh (Nat.le_refl _)
  refine ⟨.ref s1.heap.objs.size, upd H1 s1.heap.objs.size (.tup xs), I1.laid (t' := s1.toks) (fun b u e => Heap.get?_push_of_some _ e) (Nat.le_refl _) ?_, rfl, q _ hf⟩
  exact ⟨z, us, r, ⟨_, Heap.get?_push_size _ rfl, rfl, _, rfl⟩⟩
theorem pe_lst (h : PA X es t) : PE X (.List es pos) (tLst t) := by
  intro pins s σ H Q I hq
  refine wpAny_List_spliced (thn (h pos pins s σ H _ I hq) fun us s1 ⟨xs, H1, I1, r, z, q⟩ => ⟨by rw [← r.length]; exact z, ?_⟩)
  have hf : H1 s1.heap.objs.size = none := I1.hok.fresh (Nat.le_refl _)
  refine ⟨.ref s1.heap.objs.size, upd H1 s1.heap.objs.size (.lst xs), I1.laid (t' := s1.toks) (fun b u e => Heap.get?_push_of_some _ e) (Nat.le_refl _) ?_, rfl, q _ hf⟩
  exact ⟨z, us, 0, r, Heap.get?_push_size _ rfl⟩
end
abbrev Sp := List V → Hp → VK → XK → Prop
abbrev CXT := List Env → Hp → Shared → XK → Value → Shared → Prop
structure Env0 (P : Program) (w : World) (K : PySem.W.Frag) (mg : Str → Option Value) (base : Heap) (A : Around) (outer : List Env) (s : Shared) (H : Hp) : Prop where
  frames : A.frames = some outer
  mod : Mod K mg base
  bs : ∀ b o, base.get? b = some o → s.heap.get? b = some o ∧ H b = none
  bsz : base.objs.size ≤ s.heap.objs.size
  funs : s.heap.FunFrames base outer
  frf : ∀ b ∈ frs outer, H b = none
  hok : HOk P w H s.heap
  bare : AllBare s.gens
  tk : 0 < s.toks
def CE (outer : List Env) (P : Program) (w : World) (H : Hp) (s : Shared) (Q : VK) (u : Value) (s' : Shared) : Prop :=
  ∃ v H', 0 < s'.toks ∧ s'.os = s.os ∧ AllBare s'.gens ∧ Un (frs outer) [] H H' s.heap s'.heap ∧ HOk P w H' s'.heap ∧ RelV v u ∧ Q v H'
def CR (CX : CXT) (outer : List Env) (P : Program) (w : World) (H : Hp) (s : Shared) (Q : VK) (E : XK) (r : Result) (s' : Shared) : Prop :=
  match r with
  | .ok (.ret u) => CE outer P w H s Q u s'
  | .ok _ => False
  | .error e => CX outer H s E e s'
structure FnOk (P : Program) (w : World) (K : PySem.W.Frag) (mg : Str → Option Value) (base : Heap) (CX : CXT) (k : Nat) (f : Addr) (fd : FuncData) (ps : List Str) (sp : Sp) : Prop where
  len : ∀ vs H Q E, sp vs H Q E → vs.length = ps.length
  run : ∀ (A : Around) (outer : List Env) (s : Shared) (H : Hp) (args : Args) (us : List Value) (vs : List V) (Q : VK) (E : XK), Room k A → Env0 P w K mg base A outer s H → BindsTo s fd args (ps.zip us) → Vals vs us → sp vs H Q E →
    codeAny (model P w) A (.call (.ref f) args) (CR CX outer P w H s Q E) s
section
variable {X : Cx} {pins : List (Addr × Obj)} {σ : St} {H : Hp} {s s' : Shared}
theorem Inv.env0 (I : Inv X pins σ H s) : Env0 X.prog X.w X.K X.mg X.base X.A X.stack s H :=
  ⟨I.ok.frames, I.ok.mod, I.bs, Nat.le_trans I.ok.bsz I.sz, I.stack, I.stkFree, I.hok, I.bare, I.tk⟩
theorem Inv.after {Q : VK} {u : Value} (I : Inv X pins σ H s) (h : CE X.stack X.prog X.w H s Q u s') : EP X pins σ Q u s' := by
  obtain ⟨v, H', ht, os, bare, un, hok, r, q⟩ := h
  obtain ⟨hh, g, d, t, os'⟩ := s'
  obtain rfl : os' = s.os := os
  exact ⟨v, H', I.call (h' := hh) (g' := g) (d' := d) (t' := t) (ch := []) un hok bare (fun b z => absurd z (by simp)) ht, r, q⟩
end
def tCall (sp : Sp) (dvs : List V) (E : XK) (t : TA) : TE := fun σ H Q => t σ H fun vs H1 => sp (vs ++ dvs) H1 Q E
def Binds (K : PySem.W.Frag) (fd : FuncData) (ps : List Str) (ds : List Value) : Prop :=
  ∀ (s : Shared) (us : List Value), K.In s.heap → (us ++ ds).length = ps.length → BindsTo s fd ⟨us, []⟩ (ps.zip (us ++ ds))
theorem Binds.all {K : PySem.W.Frag} {fd : FuncData} {ps : List Str} (h : ∀ us : List Value, us.length = ps.length → bindArgs fd ⟨us, []⟩ = pure (ps.zip us)) : Binds K fd ps [] := fun s us _ hl => by
  rw [List.append_nil] at hl ⊢
  exact .of_eq (h us hl)
def Passes (CX : CXT) (X : Cx) (E : XK) : Prop := ∀ (pins : List (Addr × Obj)) (σ : St) (H : Hp) (s : Shared) (e : Value) (s' : Shared), Inv X pins σ H s → CX X.stack H s E e s' → X.xe e s'
section
variable {X : Cx} {CX : CXT} {k : Nat} {f C : Addr} {fd : FuncData} {ps : List Str} {sp : Sp} {dvs : List V} {ds : List Value} {E : XK} {x m : Str} {p pos apos : Pos} {e o : Expr} {es : List Expr} {ta : TE} {t : TA}
theorem run_fn {pins : List (Addr × Obj)} {σ : St} {H : Hp} {s : Shared} {Q : VK} {us : List Value} {vs : List V} (F : FnOk X.prog X.w X.K X.mg X.base CX k f fd ps sp) (hr : Room k X.A) (hb : Binds X.K fd ps ds) (hd : Vals dvs ds) (hx : Passes CX X E)
    (I : Inv X pins σ H s) (r : Vals vs us) (h : sp (vs ++ dvs) H Q E) : wpAny (model X.prog X.w) X.A (call (.ref f) us) (EP X pins σ Q) X.xe s := by
  have r2 : Vals (vs ++ dvs) (us ++ ds) := r.append hd
  have hl : (us ++ ds).length = ps.length := by rw [← r2.length]; exact F.len _ _ _ _ h
  refine wpAny_call (codeAny_mono (F.run X.A X.stack s H ⟨us, []⟩ (us ++ ds) (vs ++ dvs) Q E hr I.env0 (hb s us I.kIn hl) r2 h) fun r s' hq => ?_)
  cases r with
  | error e => exact hx pins σ H s e s' I hq
  | ok fl =>
    cases fl with
    | ret u => exact I.after hq
    | next => exact False.elim hq
    | brk => exact False.elim hq
    | cont => exact False.elim hq
theorem pe_call (F : FnOk X.prog X.w X.K X.mg X.base CX k f fd ps sp) (hr : Room k X.A) (hg : Gl X x) (hm : X.mg x = some (.ref f)) (hk : PySem.W.keepIn X.K (.ref f) = true) (hb : Binds X.K fd ps ds) (hd : Vals dvs ds) (hx : Passes CX X E)
    (ha : PA X (e :: es) t) (hdb : autoParam ((x == ("__debug__" : Str)) = false) L2.au._auto_2) (he : autoParam (starEach (e :: es) X.env = (false, eval e X.env) :: starEach es X.env) L2.au._auto_1) (hpl : autoParam ((backTo pos (starEach es X.env)).any (·.1) = false) L2.au._auto_1) :
    PE X (.Call (.Name x p) (e :: es) [] pos) (tCall sp dvs E t) := by
  intro pins s σ H Q I h
  refine wpAny_Call_Name_kw (ld_glob I hg hm ?_ hdb)
  refine PySem.W.callWith_K (h₀ := X.base) I.ok.mod.kin hk (thn (ha pos pins s σ H _ I h) fun us s1 ⟨vs, H1, I1, r, q⟩ => ⟨I1.kIn, ?_⟩) he hpl
  exact run_fn F hr hb hd hx I1 r q
end
section
variable {X : Cx} {CX : CXT} {k : Nat} {f C : Addr} {fd : FuncData} {ps ks : List Str} {sp : Sp} {E : XK} {x m : Str} {p pos apos kpos : Pos} {e o : Expr} {es : List Expr} {kws : List Keyword} {te ta : TE} {t tk : TA} {nm : Option Str}
variable {g : List Value → List Value → List Value} {gV : List V → List V → List V}
end
structure FnScope (N P : List Str) (sc : Scope) : Prop where
  kind : sc.kind = .function
  co : sc.isCoroutine = false
  gen : sc.isGenerator = false
  nd : N.Nodup
  pre : N.take P.length = P
  par : ∀ x ∈ P, sc.names.lookup x = some .local ∨ sc.names.lookup x = some .cell
  nofree : ∀ y ∈ sc.names, y.2 ≠ .free
theorem bindL_out {kindOf : Str → Option NameKind} {x : Str} : ∀ {binds : List (Str × Value)} {m : Str → Option Value}, (∀ v, (x, v) ∉ binds) → bindL kindOf binds m x = m x
  | [], _, _ => rfl
  | (n, v) :: r, m, h => by
    unfold bindL
    rw [bindL_out fun w hw => h w (List.mem_cons_of_mem _ hw)]
    split
    · have : x ≠ n := by rintro rfl; exact h v List.mem_cons_self
      simp [this]
    · rfl
theorem bindC_out {kindOf : Str → Option NameKind} {x : Str} : ∀ {binds : List (Str × Value)} {m : Str → Option Value}, (∀ v, (x, v) ∉ binds) → bindC kindOf binds m x = m x
  | [], _, _ => rfl
  | (n, v) :: r, m, h => by
    unfold bindC
    rw [bindC_out fun w hw => h w (List.mem_cons_of_mem _ hw)]
    split
    · rfl
    · have : x ≠ n := by rintro rfl; exact h v List.mem_cons_self
      simp [this]
theorem bindL_get {kindOf : Str → Option NameKind} {x : Str} {v : Value} : ∀ {P : List Str} {vs : List Value} {i : Nat} {m : Str → Option Value}, P.Nodup → P[i]? = some x → vs[i]? = some v → kindOf x = some .local →
    bindL kindOf (P.zip vs) m x = some v
  | [], _, _, _, _, h, _, _ => by simp at h
  | _ :: _, [], _, _, _, _, h, _ => by simp at h
  | p :: P, w :: vs, 0, m, nd, h1, h2, hk => by
    simp at h1 h2; subst h1; subst h2
    show bindL kindOf ((p, w) :: P.zip vs) m p = _
    unfold bindL
    rw [bindL_out fun v hv => (List.nodup_cons.mp nd).1 (List.of_mem_zip hv).1, if_pos hk]
    simp
  | p :: P, w :: vs, i + 1, m, nd, h1, h2, hk => by
    show bindL kindOf ((p, w) :: P.zip vs) m x = _
    unfold bindL
    exact bindL_get (i := i) (List.nodup_cons.mp nd).2 (by simpa using h1) (by simpa using h2) hk
theorem bindC_get {kindOf : Str → Option NameKind} {x : Str} {v : Value} : ∀ {P : List Str} {vs : List Value} {i : Nat} {m : Str → Option Value}, P.Nodup → P[i]? = some x → vs[i]? = some v → kindOf x ≠ some .local →
    bindC kindOf (P.zip vs) m x = some v
  | [], _, _, _, _, h, _, _ => by simp at h
  | _ :: _, [], _, _, _, _, h, _ => by simp at h
  | p :: P, w :: vs, 0, m, nd, h1, h2, hk => by
    simp at h1 h2; subst h1; subst h2
    show bindC kindOf ((p, w) :: P.zip vs) m p = _
    unfold bindC
    rw [bindC_out fun v hv => (List.nodup_cons.mp nd).1 (List.of_mem_zip hv).1, if_neg hk]
    simp
  | p :: P, w :: vs, i + 1, m, nd, h1, h2, hk => by
    show bindC kindOf ((p, w) :: P.zip vs) m x = _
    unfold bindC
    exact bindC_get (i := i) (List.nodup_cons.mp nd).2 (by simpa using h1) (by simpa using h2) hk
noncomputable def start (N : List Str) (vs : List V) : St := vs.map some ++ List.replicate (N.length - vs.length) none
noncomputable def cxOf (CX : CXT) (P : Program) (w : World) (K : PySem.W.Frag) (mg : Str → Option Value) (base : Heap) (N : List Str) (qual : Str) (scope : Scope) (f : Addr) (cd : Value) (A : Around) (outer : List Env) (s : Shared) (H : Hp) (E : XK) : Cx where
  prog := P
  w := w
  K := K
  mg := mg
  base := base
  A := A.deeper (envOfC qual scope s.heap.objs.size f cd)
  N := N
  s₀ := s
  H₀ := H
  env := envOfC qual scope s.heap.objs.size f cd
  outer := outer
  stack := envOfC qual scope s.heap.objs.size f cd :: outer
  ex := []
  calm := true
  fn := fun _ => true
  pn := []
  xe := fun e s' => wpAny (model P w) (A.deeper (envOfC qual scope s.heap.objs.size f cd)) (leaving (envOfC qual scope s.heap.objs.size f cd) e) (fun _ s'' => CX outer H s E e s'') (fun e' s'' => CX outer H s E e' s'') s'
theorem cell_has {sc : Scope} {n : Nat} {x : Str} (h : sc.names.lookup x = some .cell) : ∃ c, (cellsFrom n sc.names []).lookup x = some c := by
  have q := PySem.W.cellsFrom_some sc.names n [] (.inl h)
  exact Option.isSome_iff_exists.mp q
theorem inv_start {CX : CXT} {P : Program} {w : World} {K : PySem.W.Frag} {mg : Str → Option Value} {base : Heap} {N ps : List Str} {qual : Str} {scope : Scope} {f : Addr} {cd : Value} {A : Around} {outer : List Env} {s s1 : Shared} {H : Hp} {E : XK} {us : List Value} {vs : List V}
    (S : FnScope N ps scope) (hd : A.handled = none) (e0 : Env0 P w K mg base A outer s H) (hl : vs.length = ps.length) (r : Vals vs us)
    (x : InCallC s s.heap.objs.size (bindL (envOfC qual scope s.heap.objs.size f cd).kindOf (ps.zip us) fun _ => none) (cellsFrom (s.heap.objs.size + 1) scope.names []) (bindC (envOfC qual scope s.heap.objs.size f cd).kindOf (ps.zip us) fun _ => none) s1) (ht : 0 < s1.toks) :
    Inv (cxOf CX P w K mg base N qual scope f cd A outer s H E) [] (start N vs) H s1 := by
  have hpl : ps.length ≤ N.length := by have := congrArg List.length S.pre; rw [List.length_take] at this; omega
  obtain ⟨h1, tk, rfl, hk⟩ := x.done
  have noA : ∀ b : Addr, b ∉ (cxOf CX P w K mg base N qual scope f cd A outer s H E).ex := fun b z => absurd (show b ∈ ([] : List Addr) from z) (by simp)
  refine ⟨⟨e0.mod, S.kind, rfl, rfl, Nat.le_refl _, fun y z c h1 h2 => ?_, fun y hy => ?_, fun y c _ h => ?_, fun _ => hd, Around.frames_deeper e0.frames, .inr ⟨rfl, rfl⟩, fun b z => absurd z (noA b), e0.bs, e0.bsz, fun b _ _ => noA b, fun b z => absurd z (noA b), e0.funs, e0.frf⟩,
    rfl, e0.bare, Un.kept hk, ⟨_, x.toInCall.ns, fun i y v h1 h2 h3 => ?_⟩, fun y c h => ⟨_, x.cell y c h⟩, e0.hok.fresh (Nat.le_refl _), fun y c h => ?_, fun p hp => absurd (show p ∈ ([] : List (Addr × Obj)) from hp) (by simp), e0.hok.kept hk, ?_, ht⟩
  · exact name_of_addr x.apart (PySem.mem_of_lookup h1) (PySem.mem_of_lookup h2)
  · have hy : scope.names.lookup y = some .cell ∨ scope.names.lookup y = some .free := hy
    rcases hy with hy | hy
    · exact cell_has hy
    · exact absurd rfl (S.nofree _ (PySem.mem_of_lookup hy))
  · exact Nat.le_of_lt (x.above y c (PySem.mem_of_lookup h))
  · have hi : i < vs.length := by
      unfold start at h2
      by_cases hi : i < vs.length
      · exact hi
      · rw [List.getElem?_append_right (by simpa using hi)] at h2
        rw [List.getElem?_replicate] at h2
        split at h2 <;> cases h2
    have ha : vs[i]? = some v := by
      unfold start at h2
      rw [List.getElem?_append_left (by simpa using hi), List.getElem?_map] at h2
      cases e : vs[i]? with
      | none => rw [e] at h2; cases h2
      | some a => rw [e] at h2; cases h2; rfl
    obtain ⟨u, hu, rv⟩ := r.get ha
    have hp : ps[i]? = some y := by
      rw [← S.pre, List.getElem?_take_of_lt (by omega)]; exact h1
    have ndP : ps.Nodup := by rw [← S.pre]; exact S.nd.sublist (List.take_sublist _ _)
    refine ⟨u, rv, ?_⟩
    rcases S.par y (List.mem_of_getElem? hp) with k | k
    · exact .inl ⟨k, bindL_get ndP hp hu k⟩
    · obtain ⟨c, e⟩ := cell_has (n := s.heap.objs.size + 1) k
      refine .inr ⟨.inl k, c, e, ?_⟩
      have q := x.cell y c e
      rw [bindC_get ndP hp hu (by show scope.names.lookup y ≠ _; rw [k]; decide)] at q
      exact q
  · exact e0.hok.fresh (Nat.le_of_lt (x.above y c (PySem.mem_of_lookup h)))
  · unfold start
    show _ = N.length
    rw [List.length_append, List.length_map, List.length_replicate]
    omega
theorem fn_of {CX : CXT} {P : Program} {w : World} {K : PySem.W.Frag} {mg : Str → Option Value} {base : Heap} {k : Nat} {f : Addr} {name qual : Str} {params : Arguments} {body : List Stmt} {scope : Scope} {dV kV doc pm cdv ct oc : Value} {an od : Option Addr}
    {osl : Array (Option Value)} {N ps : List Str} {sp : Sp} (lk : K.lookup f = some ⟨oc, od, .func (PySem.W.fnOf name qual params body scope dV kV doc pm an cdv ct), osl⟩) (hcd : PySem.W.codeIn K cdv qual = true) (S : FnScope N ps scope)
    (len : ∀ vs H Q E, sp vs H Q E → vs.length = ps.length)
    (hbody : ∀ (A : Around) (outer : List Env) (s : Shared) (H : Hp) (vs : List V) (Q : VK) (E : XK), Room k (A.deeper (envOfC qual scope s.heap.objs.size f cdv)) → sp vs H Q E →
      ∃ t, PSs (cxOf CX P w K mg base N qual scope f cdv A outer s H E) body t ∧ t { nx := fun _ H' => Q .non H', rt := Q } (start N vs) H) :
    FnOk P w K mg base CX (k + 1) f (PySem.W.fnOf name qual params body scope dV kV doc pm an cdv ct) ps sp := by
  refine ⟨len, fun A outer s H args us vs Q E hr e0 hb r hsp => ?_⟩
  have hl := len _ _ _ _ hsp
  have KX : K.In s.heap := e0.mod.kin.keeps fun b o e => (e0.bs b o e).1
  have lim : s.heap.NoLimit := e0.mod.nolimit.keeps fun b o e => (e0.bs b o e).1
  have hkind : ∀ y ∈ ps.zip us, scope.names.lookup y.1 = some .local ∨ (scope.names.lookup y.1 = some .cell ∧ ((cellsFrom (s.heap.objs.size + 1) scope.names []).lookup y.1).isSome = true) := fun ⟨n, v⟩ hy => by
    rcases S.par n (List.of_mem_zip hy).1 with q | q
    · exact .inl q
    · exact .inr ⟨q, PySem.W.cellsFrom_some _ _ _ (.inl q)⟩
  refine codeAny_call_function hr.depth (KX _ _ lk) rfl S.co S.gen rfl (PySem.W.codeRec_of KX hcd) (hb _ _ _ _ ?_)
  refine wpAny_with_toks (n := 1) e0.tk (wpAny_newFunctionEnv_cells S.kind hkind fun env he s1 x htk => ?_)
  subst he
  refine ⟨lim.keeps x.toInCall.keep, codeAny_func ?_⟩
  obtain ⟨t, ht, hq⟩ := hbody A outer s H vs Q E (hr.deeper _) hsp
  have I : Inv (cxOf CX P w K mg base N qual scope f cdv A outer s H E) [] (start N vs) H s1 := inv_start S hr.hd e0 hl r x htk
  refine wpAny_mono (ht [] s1 (start N vs) H _ I hq) (fun fl s' hs => ?_) fun e s' hs => hs
  have fin : ∀ {σ' : St} {H' : Hp} {v : V} {u : Value}, Inv (cxOf CX P w K mg base N qual scope f cdv A outer s H E) [] σ' H' s' → RelV v u → Q v H' → CE outer P w H s Q u s' :=
    fun {σ' H' v u} J rv q => ⟨v, H', J.tk, J.os, J.bare, J.base, J.hok, rv, q⟩
  cases fl with
  | ret u =>
    obtain ⟨v, σ', H', J, rv, q⟩ := hs
    exact fin J rv q
  | next =>
    obtain ⟨σ', H', J, q⟩ := hs
    exact fin (v := V.non) (u := Value.none) J rfl q
  | brk =>
    obtain ⟨_, _, _, q⟩ := hs
    exact False.elim q
  | cont =>
    obtain ⟨_, _, _, q⟩ := hs
    exact False.elim q
end L2
namespace L2
open PySem PySem.Spec PyProof.Rows
section
variable {X : Cx} {x : Str} {p pos : Pos} {e : Expr} {es : List Expr} {t : TA} {id T : String} {r : List V → Hp → VK → Prop}
def tCB (r : List V → Hp → VK → Prop) (t : TA) : TE := fun σ H Q => t σ H fun vs H1 => r vs H1 Q
theorem pe_callB (hc : CallR X (.builtin id) r) (hg : Gl X x) (hm : X.mg x = none) (hv : bootBuiltins x = some (.builtin id)) (ha : PA X (e :: es) t) (hn : autoParam (x ≠ "__name__") L2.au._auto_2) (hdb : autoParam ((x == ("__debug__" : Str)) = false) L2.au._auto_2)
    (he : autoParam (starEach (e :: es) X.env = (false, eval e X.env) :: starEach es X.env) L2.au._auto_1) (hpl : autoParam ((backTo pos (starEach es X.env)).any (·.1) = false) L2.au._auto_1) : PE X (.Call (.Name x p) (e :: es) [] pos) (tCB r t) := by
  intro pins s σ H Q I h
  refine wpAny_Call_Name_kw (ld_blt I hg hm hv ?_ hn hdb)
  exact PyProof.Rows.callWith_builtin1 (thn (ha pos pins s σ H _ I h) fun us s1 ⟨vs, H1, I1, r1, q1⟩ => hc pins s1 σ H1 vs us Q I1 r1 q1) he hpl
theorem pe_callTy (hc : CallR X (.type T) r) (hg : Gl X x) (hm : X.mg x = none) (hv : bootBuiltins x = some (.type T)) (ha : PA X (e :: es) t) (hn : autoParam (x ≠ "__name__") L2.au._auto_2) (hdb : autoParam ((x == ("__debug__" : Str)) = false) L2.au._auto_2)
    (he : autoParam (starEach (e :: es) X.env = (false, eval e X.env) :: starEach es X.env) L2.au._auto_1) (hpl : autoParam ((backTo pos (starEach es X.env)).any (·.1) = false) L2.au._auto_1) : PE X (.Call (.Name x p) (e :: es) [] pos) (tCB r t) := by
  intro pins s σ H Q I h
  refine wpAny_Call_Name_kw (ld_blt I hg hm hv ?_ hn hdb)
  exact PyProof.Rows.callWith_type1 (thn (ha pos pins s σ H _ I h) fun us s1 ⟨vs, H1, I1, r1, q1⟩ => hc pins s1 σ H1 vs us Q I1 r1 q1) he hpl
end
end L2
namespace HT
open PySem PyProof.Rows
section
open PySem.SeqAt
open PySem.AutoSeq1 (wpAny_loadPart')
open PySem.MeetsSeq PySem.MeetsSeq2 PySem.MeetsSeq3
end
section
variable {prog : Program} {w : World} {A : Around} {E : Value → Shared → Prop} {s : Shared}
theorem cat_tup {t b : Addr} {vs ws : List Value} {Q : Value → Shared → Prop} (ht : IsTup s.heap t vs.toArray) (hb : IsTup s.heap b ws.toArray) (hv : vs ≠ [])
    (h1 : ws = [] → Q (.ref t) s) (h2 : ws ≠ [] → Q (.ref s.heap.objs.size) { s with heap := s.heap.push { cls := .type "tuple", data := .seq (vs ++ ws).toArray } })
    (hsz : vs.length + ws.length ≤ sizeLine) : wpAny (model prog w) A (binaryOp .Add (.ref t) (.ref b)) Q E s := by
  obtain ⟨⟨cls, dd, data, sl⟩, ho, hc, n, hd⟩ := id ht
  obtain ⟨⟨cls2, dd2, data2, sl2⟩, ho2, hc2, n2, hd2⟩ := id hb
  simp only at hc hd hc2 hd2
  subst hc hd hc2 hd2
  have e : vs.toArray ++ ws.toArray = (vs ++ ws).toArray := by simp
  by_cases hw : ws = []
  · exact concat_meets ⟨_, ho, rfl⟩ ⟨_, ho2, rfl⟩ noFill_tuple_add seq_tuple_add PySem.F.slot_tuple_add PySem.F.entry_tuple_add (PySem.F.args_tuple_add_2 _ _)
      (tuple_addW1 t b vs.toArray ws.toArray n n2 dd dd2 sl sl2 (by simpa using hv) (by simp [hw])) ⟨ho, ho2, h1 hw⟩
  · refine concat_meets ⟨_, ho, rfl⟩ ⟨_, ho2, rfl⟩ noFill_tuple_add seq_tuple_add PySem.F.slot_tuple_add PySem.F.entry_tuple_add (PySem.F.args_tuple_add_2 _ _)
      (tuple_addW2 t b vs.toArray ws.toArray n n2 dd dd2 sl sl2 (by simpa using hv) (by simpa using hw) (by rw [List.size_toArray, List.size_toArray]; exact hsz)) ⟨ho, ho2, ?_⟩
    rw [e]
    exact h2 hw
noncomputable def sIx (n d : Nat) : Option Int → Nat
  | none => d
  | some v => if v < 0 then (v + (n : Int)).toNat else min v.toNat n
theorem sIx_nat (n d k : Nat) : sIx n d (some (k : Int)) = min k n := by
  show (if (k : Int) < 0 then ((k : Int) + (n : Int)).toNat else min (k : Int).toNat n) = min k n
  rw [if_neg (by omega), Int.toNat_natCast]
theorem sIx_le (n d : Nat) (hd : d ≤ n) (o : Option Int) : sIx n d o ≤ n := by
  cases o with
  | none => exact hd
  | some v =>
    show (if v < 0 then (v + (n : Int)).toNat else min v.toNat n) ≤ n
    by_cases hv : v < 0
    · rw [if_pos hv]; omega
    · rw [if_neg hv]; exact Nat.min_le_right _ _
theorem clip_eq (v : Int) (n d : Nat) : (if v < 0 then max (v + (n : Int)) 0 else min v (n : Int)) = ((sIx n d (some v) : Nat) : Int) := by
  show (if v < 0 then max (v + (n : Int)) 0 else min v (n : Int)) = (((if v < 0 then (v + (n : Int)).toNat else min v.toNat n) : Nat) : Int)
  by_cases hv : v < 0
  · simp only [if_pos hv]; omega
  · simp only [if_neg hv]; omega
theorem adjust_gen (lo hi : Option Int) (n : Nat) : Builtin.Slice.sliceAdjust lo hi 1 (n : Int) = (((sIx n 0 lo : Nat) : Int), ((sIx n n hi : Nat) : Int)) := by
  have h1 : ¬ ((1 : Int) < 0) := by omega
  unfold Builtin.Slice.sliceAdjust
  simp only [h1, if_false]
  refine Prod.ext ?_ ?_
  · cases lo with
    | none => rfl
    | some v => exact clip_eq v n 0
  · cases hi with
    | none => rfl
    | some v => exact clip_eq v n n
theorem places_gen (i j : Nat) : Builtin.Slice.slicePlaces (i : Int) (j : Int) 1 = j - i := by
  unfold Builtin.Slice.slicePlaces
  have h1 : (1 : Int) > 0 := by omega
  simp only [h1, if_true, Int.ediv_one]
  split <;> omega
theorem slicePart_ {v : Value} {o : Option Int} {Q : Option Int → Shared → Prop} (p : IsPart v o) (h : Q o s) : wpAny (model prog w) A (Builtin.Slice.slicePartIndex v) Q E s := by
  cases p with
  | none => exact slicePart_none h
  | int i t => exact slicePart_int h
theorem sliceApplied_gen {sl : Addr} {vl vu : Value} {lo hi : Option Int} {n : Nat} {Q : Int × Int × Nat → Shared → Prop} (hs : s.heap.IsSliceOf sl vl vu .none) (pl : IsPart vl lo) (pu : IsPart vu hi)
    (h : Q (((sIx n 0 lo : Nat) : Int), 1, sIx n n hi - sIx n 0 lo) s) : wpAny (model prog w) A (Builtin.Slice.sliceApplied (.ref sl) (pure (n : Int))) Q E s := by
  obtain ⟨os, hos, hcs, hds⟩ := id hs
  unfold Builtin.Slice.sliceApplied Builtin.Slice.sliceFields
  refine wpAny_bind (wpAny_bind (wpAny_field hos hds (x := vl) rfl (wpAny_bind (wpAny_field hos hds (x := vu) rfl (wpAny_bind (wpAny_field hos hds (x := .none) rfl (wpAny_pure ?_)))))))
  refine wpAny_bind (slicePart_none ?_)
  show wpAny _ _ (if ((1 : Int) == 0) = true then _ else _) _ _ s
  rw [if_neg (by decide)]
  refine wpAny_bind (slicePart_ pl (wpAny_bind (slicePart_ pu (wpAny_bind (wpAny_pure ?_)))))
  show wpAny _ _ (match Builtin.Slice.sliceAdjust lo hi 1 (n : Int) with | (lo, hi) => pure (lo, (1 : Int), Builtin.Slice.slicePlaces lo hi 1)) _ _ s
  rw [adjust_gen lo hi n]
  show wpAny _ _ (pure (((sIx n 0 lo : Nat) : Int), (1 : Int), Builtin.Slice.slicePlaces ((sIx n 0 lo : Nat) : Int) ((sIx n n hi : Nat) : Int) 1)) _ _ s
  rw [places_gen]
  exact wpAny_pure h
theorem pick_gen (xs : Array Value) (i k : Nat) : ((List.range k).filterMap fun (m : Nat) => xs[((i : Int) + (m : Int) * 1).toNat]?).toArray = ((xs.toList.drop i).take k).toArray := by
  have e : (fun (m : Nat) => xs[((i : Int) + (m : Int) * 1).toNat]?) = fun m => xs[i + m]? := by
    funext m
    have : ((i : Int) + (m : Int) * 1).toNat = i + m := by omega
    rw [this]
  rw [e]
  have := pick_run xs i k
  rw [List.filterMap_map] at this
  have e2 : ((fun x => xs[x]?) ∘ fun x => i + x) = fun m => xs[i + m]? := rfl
  rw [e2] at this
  rw [this]
theorem getItem_tuple_cut {t sl : Addr} {items : Array Value} {vl vu : Value} {lo hi : Option Int} {Q : Value → Shared → Prop} (ht : IsTup s.heap t items) (hs : s.heap.IsSliceOf sl vl vu .none) (pl : IsPart vl lo) (pu : IsPart vu hi)
    (hw : ¬ (sIx items.size 0 lo = 0 ∧ sIx items.size items.size hi = items.size))
    (h : Q (.ref s.heap.objs.size) { s with heap := s.heap.push { cls := .type "tuple", data := .seq ((items.toList.drop (sIx items.size 0 lo)).take (sIx items.size items.size hi - sIx items.size 0 lo)).toArray } })
    (hsz : items.size ≤ sizeLine) : wpAny (model prog w) A (getItem (.ref t) (.ref sl)) Q E s := by
  have htake : sizeOk (.seq ((items.toList.drop (sIx items.size 0 lo)).take (sIx items.size items.size hi - sIx items.size 0 lo)).toArray) := by
    show ((items.toList.drop (sIx items.size 0 lo)).take (sIx items.size items.size hi - sIx items.size 0 lo)).toArray.size ≤ sizeLine
    rw [List.size_toArray, List.length_take, List.length_drop, Array.length_toList]
    omega
  have hj : sIx items.size items.size hi ≤ items.size := sIx_le _ _ (Nat.le_refl _) hi
  obtain ⟨os, hos, hcs, hds⟩ := id hs
  have hTs : s.TypeIs (.ref sl) "slice" := ⟨os, hos, hcs⟩
  unfold getItem
  try with_reducible refine wpAny_holding ?_
  first | refine wpAny_bind (wpAny_pure ?_) | skip
  refine wpAny_bind (wpAny_sequenceKey ht.typeIs (by decide) ?_)
  refine wpAny_bind (wpAny_callSpecial?_slot (name := Str.ofString "__getitem__") ht.typeIs PyProof.Rows.slot_tuple_getitem
    (wpAny_call_entry PyProof.Rows.slot_tuple_getitem ht.typeIs entry_tuple_getitem ?_ (args_tuple_getitem _ _)))
  show wpAny _ _ (Builtin.Tuple.tupleItemsOf (.ref t) >>= _) _ _ s
  refine wpAny_bind (tupleItemsOf_ ht ?_)
  refine wpAny_bind (wpAny_typeOf hTs ?_)
  rw [if_pos (by decide)]
  refine wpAny_bind (sliceApplied_gen hs pl pu ?_)
  have hno : ¬ ((((sIx items.size 0 lo : Nat) : Int) == 0 && (1 : Int) == 1 && (sIx items.size items.size hi - sIx items.size 0 lo) == items.size) = true) := by
    intro q
    rw [Bool.and_eq_true, Bool.and_eq_true] at q
    have q1 : ((sIx items.size 0 lo : Nat) : Int) = 0 := eq_of_beq q.1.1
    have q2 : sIx items.size items.size hi - sIx items.size 0 lo = items.size := eq_of_beq q.2
    exact hw ⟨by omega, by omega⟩
  show wpAny _ _ (if (((sIx items.size 0 lo : Nat) : Int) == 0 && (1 : Int) == 1 && (sIx items.size items.size hi - sIx items.size 0 lo) == items.size) = true then _ else _) _ _ s
  rw [if_neg hno, pick_gen]
  first
    | exact wpAny_bind (m := Builtin.Tuple.tupleExact _) (wpAny_newObj_type (wpAny_pure ⟨_, rfl, wpAny_pure h⟩) htake)
    | exact wpAny_bind (m := Builtin.Tuple.tupleExact _) (wpAny_newObj_type (wpAny_bind (wpAny_pure (wpAny_pure ⟨_, rfl, wpAny_pure h⟩))) htake)
    | exact wpAny_bind (wpAny_bind (m := Builtin.Tuple.tupleExact _) (wpAny_newObj_type (wpAny_pure (wpAny_pure ⟨_, rfl, wpAny_pure h⟩)) htake))
    | exact wpAny_bind (wpAny_bind (m := Builtin.Tuple.tupleExact _) (wpAny_newObj_type (wpAny_pure ⟨_, rfl, wpAny_pure h⟩) htake))
end
end HT
namespace L2
open PySem PySem.Spec PyProof.Rows
abbrev TO := St → Hp → (Option Int → Hp → Prop) → Prop
def PO (X : Cx) (e : Option Expr) (t : TO) : Prop :=
  ∀ (pins : List (Addr × Obj)) (s : Shared) (σ : St) (H : Hp) (Q : Option Int → Hp → Prop), Inv X pins σ H s → t σ H Q →
    wpAny (model X.prog X.w) X.A (evalPart e X.env) (fun u s' => ∃ o H', Inv X pins σ H' s' ∧ IsPart u o ∧ Q o H') X.xe s
def tNoPart : TO := fun _ H Q => Q none H
def tPart (t : TE) : TO := fun σ H Q => t σ H fun x H1 => ∃ i, x = .int i ∧ Q (some i) H1
section
variable {X : Cx} {e : Expr} {te : TE} {lo hi : Option Expr} {tl th : TO} {pos p2 : Pos}
theorem po_none : PO X none tNoPart := by
  intro pins s σ H Q I h
  rw [evalPart_none]
  exact wpAny_pure ⟨none, H, I, .none, h⟩
theorem po_some (h : PE X e te) : PO X (some e) (tPart te) := by
  intro pins s σ H Q I hw
  rw [evalPart_some]
  refine thn (h pins s σ H _ I hw) fun u s1 ⟨x, H1, I1, r1, q1⟩ => ?_
  obtain ⟨i, rfl, q⟩ := q1
  obtain ⟨t, rfl⟩ := r1
  exact ⟨some i, H1, I1, .int i t, q⟩
def SlR (X : Cx) (r : V → Option Int → Option Int → Hp → VK → Prop) : Prop :=
  ∀ (pins : List (Addr × Obj)) (s : Shared) (σ : St) (H : Hp) (x : V) (v vl vu : Value) (lo hi : Option Int) (sl : Addr) (Q : VK), Inv X pins σ H s → RelV x v → s.heap.IsSliceOf sl vl vu .none → IsPart vl lo → IsPart vu hi → r x lo hi H Q →
    ∃ T id, typeLookup (.type T) "__getitem__" = pure (some (.builtin id)) ∧ s.TypeIs v T ∧ wpAny (model X.prog X.w) X.A (getItem v (.ref sl)) (EP X pins σ Q) X.xe s
theorem SlR.or {r r' : V → Option Int → Option Int → Hp → VK → Prop} (h : SlR X r) (h' : SlR X r') : SlR X (fun x lo hi H Q => r x lo hi H Q ∨ r' x lo hi H Q) := by
  intro pins s σ H x v vl vu lo hi sl Q I rx hs pl pu q
  rcases q with q | q
  · exact h pins s σ H x v vl vu lo hi sl Q I rx hs pl pu q
  · exact h' pins s σ H x v vl vu lo hi sl Q I rx hs pl pu q
def tSl (r : V → Option Int → Option Int → Hp → VK → Prop) (te : TE) (tl th : TO) : TE := fun σ H Q => te σ H fun x H1 => tl σ H1 fun l H2 => th σ H2 fun u H3 => r x l u H3 Q
theorem pe_slice {r : V → Option Int → Option Int → Hp → VK → Prop} (hr : SlR X r) (he : PE X e te) (hl : PO X lo tl) (hu : PO X hi th) : PE X (.Subscript e (.Slice lo hi none p2) pos) (tSl r te tl th) := by
  intro pins s σ H Q I h
  refine Subscript_ (thn (he pins s σ H _ I h) fun v s1 ⟨x, H1, I1, r1, q1⟩ => ?_)
  refine wpAny_Slice (thn (hl pins s1 σ H1 _ I1 q1) fun vl s2 ⟨l, H2, I2, pl, q2⟩ => thn (hu pins s2 σ H2 _ I2 q2) fun vu s3 ⟨u, H3, I3, pu, q3⟩ => ?_)
  rw [evalPart_none]
  refine wpAny_pure ?_
  have I4 : Inv X pins σ H3 { s3 with heap := s3.heap.push { cls := .type "slice", data := .fields #[vl, vu, .none] } } := I3.kept (t' := s3.toks) fun b ob q => Heap.get?_push_of_some _ q
  obtain ⟨T, id, hT, ht, hg⟩ := hr pins { s3 with heap := s3.heap.push { cls := .type "slice", data := .fields #[vl, vu, .none] } } σ H3 x v vl vu l u s3.heap.objs.size Q I4 r1 (Heap.IsSliceOf.new ..) pl pu q3
  show wpAny (model X.prog X.w) X.A (subscriptTail e (.Slice lo hi none p2) v (.ref s3.heap.objs.size)) (EP X pins σ Q) X.xe { s3 with heap := s3.heap.push { cls := .type "slice", data := .fields #[vl, vu, .none] } }
  exact tail_any (ops := [.ref s3.heap.objs.size, v]) ht hT hg (by with_unfolding_all rfl)
noncomputable def cutV (xs : List V) (lo hi : Option Int) : List V := (xs.drop (HT.sIx xs.length 0 lo)).take (HT.sIx xs.length xs.length hi - HT.sIx xs.length 0 lo)
theorem cutV_length (xs : List V) (lo hi : Option Int) : (cutV xs lo hi).length ≤ xs.length := by
  unfold cutV
  rw [List.length_take, List.length_drop]
  omega
def rSlT (K : PySem.W.Frag) : V → Option Int → Option Int → Hp → VK → Prop := fun x lo hi H Q => ∃ a xs, x = .ref a ∧ SqT K H a xs ∧
  ¬ (HT.sIx xs.length 0 lo = 0 ∧ HT.sIx xs.length xs.length hi = xs.length) ∧ ∀ p, H p = none → Q (.ref p) (upd H p (.tup (cutV xs lo hi)))
theorem sl_tup : SlR X (rSlT X.K) := by
  intro pins s σ H x v vl vu lo hi sl Q I rx hs pl pu h
  obtain ⟨a, xs, rfl, hx, hw, q⟩ := h
  cases rx
  obtain ⟨its, r, ht, hz⟩ := I.tuple hx
  have hlen : its.toArray.size = xs.length := by rw [List.size_toArray]; exact r.length.symm
  refine ⟨"tuple", _, PyProof.Rows.slot_tuple_getitem.lookup, ht.typeIs, ?_⟩
  refine HT.getItem_tuple_cut ht hs pl pu (by rw [hlen]; exact hw) ?_ (by rw [hlen]; exact hz)
  rw [hlen]
  refine ⟨.ref s.heap.objs.size, _, I.laid (t' := s.toks) (o := .tup (cutV xs lo hi)) (fun b ob q => Heap.get?_push_of_some _ q) (Nat.le_refl _) ?_, rfl, q _ (I.hok.fresh (Nat.le_refl _))⟩
  exact ⟨Nat.le_trans (cutV_length xs lo hi) hz, _, (r.drop (HT.sIx xs.length 0 lo)).take (HT.sIx xs.length xs.length hi - HT.sIx xs.length 0 lo), IsTup.new _ _⟩
def rCatT (K : PySem.W.Frag) : R2 := fun x y H Q => ∃ a b xs ys, x = .ref a ∧ y = .ref b ∧ SqT K H a xs ∧ SqT K H b ys ∧ xs ≠ [] ∧ xs.length + ys.length ≤ sizeLine ∧
  (ys = [] → Q (.ref a) H) ∧ (ys ≠ [] → ∀ p, H p = none → Q (.ref p) (upd H p (.tup (xs ++ ys))))
theorem Vals.nil_iff {xs : List V} {us : List Value} (r : Vals xs us) : us = [] ↔ xs = [] := by
  cases r with
  | nil => simp
  | cons _ _ => simp
theorem op_catT : OpR X (binaryOp .Add) (rCatT X.K) := by
  intro pins s σ H x y v u Q I rx ry h
  obtain ⟨a, b, xs, ys, rfl, rfl, ha, hb, hx, hz, q1, q2⟩ := h
  cases rx
  cases ry
  obtain ⟨its, r1, p1, _⟩ := I.tuple ha
  obtain ⟨its2, r2, p2, _⟩ := I.tuple hb
  refine HT.cat_tup p1 p2 (fun z => hx (r1.nil_iff.mp z)) (fun z => ⟨.ref a, H, I, rfl, q1 (r2.nil_iff.mp z)⟩) (fun z => ?_) (by rw [← r1.length, ← r2.length]; exact hz)
  refine ⟨.ref s.heap.objs.size, _, I.laid (t' := s.toks) (o := .tup (xs ++ ys)) (fun b ob q => Heap.get?_push_of_some _ q) (Nat.le_refl _) ?_, rfl, q2 (fun w => z (r2.nil_iff.mpr w)) _ (I.hok.fresh (Nat.le_refl _))⟩
  exact ⟨by rw [List.length_append]; exact hz, _, r1.append r2, IsTup.new _ _⟩
end
end L2
namespace L2
open PySem PySem.Spec PyProof.Rows
noncomputable def ixN (n : Nat) (i : Int) : Option Nat := if 0 ≤ i then (if i < n then some i.toNat else none) else if -(n : Int) ≤ i then some (i + n).toNat else none
noncomputable def atI {α : Type} (xs : List α) (i : Int) : Option α := (ixN xs.length i).bind fun j => xs[j]?
theorem ixN_seq {n : Nat} {i : Int} {j : Nat} (h : ixN n i = some j) : seqIndex? i n = some j ∧ j < n ∧ -(n : Int) ≤ i ∧ i < n := by
  unfold ixN at h
  by_cases h0 : 0 ≤ i
  · rw [if_pos h0] at h
    by_cases h1 : i < n
    · rw [if_pos h1] at h
      have e : i.toNat = j := Option.some.inj h
      exact ⟨by rw [seqIndex_of h0 h1, e], by omega, by omega, h1⟩
    · rw [if_neg h1] at h; cases h
  · rw [if_neg h0] at h
    by_cases h1 : -(n : Int) ≤ i
    · rw [if_pos h1] at h
      have e : (i + n).toNat = j := Option.some.inj h
      exact ⟨by rw [seqIndex_neg (by omega) h1, e], by omega, h1, by omega⟩
    · rw [if_neg h1] at h; cases h
theorem atI_get {α : Type} {xs : List α} {i : Int} {v : α} (h : atI xs i = some v) : ∃ j, seqIndex? i xs.length = some j ∧ xs[j]? = some v ∧ j < xs.length ∧ -(xs.length : Int) ≤ i ∧ i < xs.length := by
  unfold atI at h
  cases e : ixN xs.length i with
  | none => rw [e] at h; cases h
  | some j =>
    rw [e] at h
    obtain ⟨h1, h2, h3, h4⟩ := ixN_seq e
    exact ⟨j, h1, h, h2, h3, h4⟩
theorem atI_nat {α : Type} {xs : List α} {j : Nat} {v : α} (h : xs[j]? = some v) : atI xs (j : Int) = some v := by
  have hj : j < xs.length := (List.getElem?_eq_some_iff.mp h).1
  have e : ixN xs.length (j : Int) = some j := by
    unfold ixN
    rw [if_pos (by omega), if_pos (by omega)]; simp
  unfold atI; rw [e]; exact h
theorem atI_last {α : Type} (xs : List α) (v : α) : atI (xs ++ [v]) (-1) = some v := by
  have hl : (xs ++ [v]).length = xs.length + 1 := by simp
  have e : ixN (xs ++ [v]).length (-1) = some xs.length := by
    unfold ixN
    rw [hl, if_neg (by decide), if_pos (by omega)]
    congr 1
    omega
  unfold atI
  rw [e]
  show (xs ++ [v])[xs.length]? = some v
  simp
def PlainIx (b : Expr) : Prop := ∀ o i, subscripted b false o i = operate [o, i] (getItem o i)
def IxR (X : Cx) (r : R2) : Prop :=
  ∀ (value slice : Expr) (pins : List (Addr × Obj)) (s : Shared) (σ : St) (H : Hp) (x y : V) (v u : Value) (Q : VK), Inv X pins σ H s → RelV x v → RelV y u → r x y H Q →
    subscripted slice false v u = operate [v, u] (getItem v u) → wpAny (model X.prog X.w) X.A (subscriptTail value slice v u) (EP X pins σ Q) X.xe s
def MtR (X : Cx) (id : String) (r : V → List V → Hp → VK → Prop) : Prop :=
  ∀ (pins : List (Addr × Obj)) (s : Shared) (σ : St) (H : Hp) (x : V) (xs : List V) (v : Value) (us : List Value) (Q : VK), Inv X pins σ H s → RelV x v → Vals xs us → r x xs H Q →
    wpAny (model X.prog X.w) X.A (call (.builtin id) (v :: us)) (EP X pins σ Q) X.xe s
section
variable {X : Cx} {a b : Expr} {ta tb : TE} {pos : Pos}
theorem IxR.or {r r' : R2} (h : IxR X r) (h' : IxR X r') : IxR X (fun x y H Q => r x y H Q ∨ r' x y H Q) := by
  intro value slice pins s σ H x y v u Q I rx ry q hs
  rcases q with q | q
  · exact h value slice pins s σ H x y v u Q I rx ry q hs
  · exact h' value slice pins s σ H x y v u Q I rx ry q hs
theorem pe_ix {r : R2} (hr : IxR X r) (ha : PE X a ta) (hb : PE X b tb) (hs : PlainIx b) : PE X (.Subscript a b pos) (tOp r ta tb) := by
  intro pins s σ H Q I h
  exact Subscript_ (binT ha hb I h fun v u s2 x y H2 I2 rx ry q => hr a b pins s2 σ H2 x y v u Q I2 rx ry q (hs _ _))
def rIxL (K : PySem.W.Frag) : R2 := fun x y H Q => ∃ p xs i v, x = .ref p ∧ y = .int i ∧ SqL K H p xs ∧ atI xs i = some v ∧ Q v H
def rIxT (K : PySem.W.Frag) : R2 := fun x y H Q => ∃ p xs i v, x = .ref p ∧ y = .int i ∧ SqT K H p xs ∧ atI xs i = some v ∧ Q v H
def rIxS : R2 := fun x y H Q => ∃ z i c, x = .str z ∧ y = .int i ∧ z.length ≤ sizeLine ∧ atI z.cps.toList i = some c ∧ Q (.str ⟨#[c]⟩) H
theorem ix_list : IxR X (rIxL X.K) := by
  intro value slice pins s σ H x y v u Q I rx ry h hs
  obtain ⟨p, xs, i, z, rfl, rfl, hq, he, q⟩ := h
  cases rx
  obtain ⟨t, rfl⟩ := ry
  obtain ⟨its, r, pl, hz⟩ := I.list hq
  obtain ⟨j, h1, h2, h3, h4, h5⟩ := atI_get he
  obtain ⟨w, ew, rw'⟩ := r.get h2
  have hl := r.length
  have hn := line63
  have fin : EP X pins σ Q w s := ⟨z, H, I, rw', q⟩
  by_cases h0 : 0 ≤ i
  · have hj : i.toNat = j := by
      rw [seqIndex_of h0 h5] at h1
      exact Option.some.inj h1
    exact item_listR pl.isList h0 (by omega) (by rw [hj]; simpa using ew) fin hs
  · have hj : (i + (its.toArray.size : Int)).toNat = j := by
      rw [seqIndex_neg (by omega) h4] at h1
      rw [List.size_toArray, ← hl]
      exact Option.some.inj h1
    exact subscriptTail_builtinR (x := w) pl.isList.typeIs slot_list_getitem.lookup
      (wpAny_getItem_list_neg (Q := fun r s' => r = w ∧ EP X pins σ Q r s') pl.isList (by omega) (by rw [List.size_toArray] <;> omega) (by omega) (by rw [hj]; simpa using ew) ⟨rfl, fin⟩) hs
theorem ix_tup : IxR X (rIxT X.K) := by
  intro value slice pins s σ H x y v u Q I rx ry h hs
  obtain ⟨p, xs, i, z, rfl, rfl, hq, he, q⟩ := h
  cases rx
  obtain ⟨t, rfl⟩ := ry
  obtain ⟨its, r, pl, hz⟩ := I.tuple hq
  obtain ⟨j, h1, h2, h3, h4, h5⟩ := atI_get he
  obtain ⟨w, ew, rw'⟩ := r.get h2
  have hl := r.length
  have hn := line63
  have fin : EP X pins σ Q w s := ⟨z, H, I, rw', q⟩
  exact subscriptTail_builtinR (x := w) pl.typeIs slot_tuple_getitem.lookup
    (getItem_tuple (j := j) (Q := fun r s' => r = w ∧ EP X pins σ Q r s') pl (by omega) (by omega) (by rw [List.size_toArray, ← hl]; exact h1) (by simpa using ew) ⟨rfl, fin⟩) hs
theorem ix_str : IxR X rIxS := by
  intro value slice pins s σ H x y v u Q I rx ry h hs
  obtain ⟨z, i, c, rfl, rfl, hz, he, q⟩ := h
  obtain ⟨t, rfl⟩ := rx
  obtain ⟨t', rfl⟩ := ry
  obtain ⟨j, h1, h2, h3, h4, h5⟩ := atI_get he
  have hl : z.cps.toList.length = z.length := by simp [Str.length]
  rw [hl] at h1 h4 h5
  have hn := line63
  exact tail_any (typeIs_str s z t) slot_str_getitem.lookup (getItem_str (c := c) (by
    have e1 : decide (i < -(2 ^ 63 : Int)) = false := decide_eq_false (by omega)
    have e2 : decide (i ≥ 2 ^ 63) = false := decide_eq_false (by omega)
    rw [e1, e2, Bool.or_false]) (by rw [h1]; simpa using h2) ⟨.str ⟨#[c]⟩, H, I.tok _, ⟨_, rfl⟩, q⟩) hs
def rIx (K : PySem.W.Frag) : R2 := fun x y H Q => rIxL K x y H Q ∨ rIxT K x y H Q ∨ rIxS x y H Q
theorem ix_seq : IxR X (rIx X.K) := ix_list.or (ix_tup.or ix_str)
theorem mapSeq_set (its : List Value) (n j : Nat) (u : Value) : Obj.mapSeq (·.setIfInBounds j u) { cls := .type "list", data := .seq its.toArray n } = { cls := .type "list", data := .seq (its.set j u).toArray n } := by
  simp [Obj.mapSeq]
theorem Inv.lst {pins : List (Addr × Obj)} {σ : St} {H : Hp} {s : Shared} {p : Addr} {xs : List V} (I : Inv X pins σ H s) (h : H p = some (.lst xs)) :
    ∃ (its : List Value) (n : Nat), Vals xs its ∧ s.heap.get? p = some { cls := .type "list", data := .seq its.toArray n } ∧ xs.length ≤ sizeLine := by
  obtain ⟨z, its, n, r, e⟩ := I.hok p _ h
  exact ⟨its, n, r, e, z⟩
theorem Inv.lstUpd {pins : List (Addr × Obj)} {σ : St} {H : Hp} {s : Shared} {p : Addr} {xs ys : List V} {its its' : List Value} {n n' : Nat} {f : Obj → Obj} (I : Inv X pins σ H s) (h : H p = some (.lst xs))
    (ho : s.heap.get? p = some { cls := .type "list", data := .seq its.toArray n }) (hf : f { cls := .type "list", data := .seq its.toArray n } = { cls := .type "list", data := .seq its'.toArray n' }) (r : Vals ys its') (hz : ys.length ≤ sizeLine) (t' : Nat) (ht : autoParam (0 < t') L2.au._auto_3) :
    Inv X pins σ (upd H p (.lst ys)) { s with heap := s.heap.update p f, toks := t' } := by
  have e : (s.heap.update p f).get? p = some { cls := .type "list", data := .seq its'.toArray n' } := by
    rw [Heap.get?_update_self f ho (by rw [hf] <;> rfl), hf]
  refine I.write (x := p) (e := p) (by rw [h]; trivial) (.inl rfl) (fun b u hb q => (Heap.get?_update_other _ _ (Ne.symm hb)).trans q) ⟨_, e⟩ ?_
  exact ⟨hz, its', n', r, e⟩
def rSetL : V → V → V → Hp → (Hp → Prop) → Prop := fun o i v H Q => ∃ p xs k j, o = .ref p ∧ i = .int k ∧ H p = some (.lst xs) ∧ ixN xs.length k = some j ∧ Q (upd H p (.lst (xs.set j v)))
theorem set_list : PSet X rSetL := by
  intro pins s σ H o i v ov iv u Q I ro ri rv h
  obtain ⟨p, xs, k, j, rfl, rfl, hp, hj, q⟩ := h
  cases ro
  obtain ⟨t, rfl⟩ := ri
  obtain ⟨its, n, r, ho, hz⟩ := I.lst hp
  obtain ⟨h1, h2, h3, h4⟩ := ixN_seq hj
  have hl := r.length
  have hn := line63
  have I' : Inv X pins σ (upd H p (.lst (xs.set j v))) { s with heap := s.heap.update p (Obj.mapSeq (·.setIfInBounds j u)) } :=
    I.lstUpd hp ho (mapSeq_set its n j u) (r.set rv j) (by rw [List.length_set]; exact hz) s.toks
  by_cases h0 : 0 ≤ k
  · have hk : k.toNat = j := by
      rw [seqIndex_of h0 h4] at h1
      exact Option.some.inj h1
    exact PySem.W.ki_setAt ho h0 (by omega) (by rw [List.size_toArray, ← hl]; exact h4) (by rw [hk]; exact ⟨_, I', q⟩)
  · have hk : (k + (its.toArray.size : Int)).toNat = j := by
      rw [seqIndex_neg (by omega) h3] at h1
      rw [List.size_toArray, ← hl]
      exact Option.some.inj h1
    exact PySem.W.ki_setBack ho (by omega) (by rw [List.size_toArray, ← hl]; exact h3) (by omega) (by rw [hk]; exact ⟨_, I', q⟩)
theorem slice_bounds (lo hi : Option Int) (n : Nat) : (sliceBounds lo hi none n).1 = ((HT.sIx n 0 lo : Nat) : Int) ∧ (sliceBounds lo hi none n).2.1 = ((HT.sIx n n hi : Nat) : Int) ∧ (sliceBounds lo hi none n).2.2 = 1 := by
  refine ⟨?_, ?_, rfl⟩
  · cases lo with
    | none => simp [sliceBounds, HT.sIx]
    | some i =>
      simp only [sliceBounds, HT.sIx, Option.getD_none, show (1 : Int) > 0 by decide, if_true]
      by_cases h : i < 0
      · simp only [h, if_true] <;> omega
      · simp only [h, if_false] <;> omega
  · cases hi with
    | none => simp [sliceBounds, HT.sIx]
    | some i =>
      simp only [sliceBounds, HT.sIx, Option.getD_none, show (1 : Int) > 0 by decide, if_true]
      by_cases h : i < 0
      · simp only [h, if_true] <;> omega
      · simp only [h, if_false] <;> omega
theorem slicePick_cut (its : List Value) (lo hi : Option Int) : slicePick its.toArray lo hi none = ((its.drop (HT.sIx its.length 0 lo)).take (HT.sIx its.length its.length hi - HT.sIx its.length 0 lo)).toArray := by
  obtain ⟨h1, h2, h3⟩ := slice_bounds lo hi its.toArray.size
  unfold slicePick
  rw [h1, h2, h3]
  simp only [sliceRange_one, pick_run, List.size_toArray] <;> rfl
def rSlL (K : PySem.W.Frag) : V → Option Int → Option Int → Hp → VK → Prop := fun x lo hi H Q => ∃ a xs, x = .ref a ∧ SqL K H a xs ∧ ∀ p, H p = none → Q (.ref p) (upd H p (.lst (cutV xs lo hi)))
theorem sl_list : SlR X (rSlL X.K) := by
  intro pins s σ H x v vl vu lo hi sl Q I rx hs pl pu h
  obtain ⟨a, xs, rfl, hx, q⟩ := h
  cases rx
  obtain ⟨its, r, ht, hz⟩ := I.list hx
  have hlen := r.length
  refine ⟨"list", _, slot_list_getitem.lookup, ht.isList.typeIs, ?_⟩
  refine wpAny_getItem_list_slice ht.isList hs pl pu .none (by simp) ?_ (by rw [List.size_toArray] <;> omega)
  rw [slicePick_cut, ← hlen]
  refine ⟨.ref s.heap.objs.size, _, I.laid (t' := s.toks) (o := .lst (cutV xs lo hi)) (fun b ob q => Heap.get?_push_of_some _ q) (Nat.le_refl _) ?_, rfl, q _ (I.hok.fresh (Nat.le_refl _))⟩
  exact ⟨Nat.le_trans (cutV_length xs lo hi) hz, _, 0, (r.drop (HT.sIx xs.length 0 lo)).take (HT.sIx xs.length xs.length hi - HT.sIx xs.length 0 lo), Heap.get?_push_size _ rfl⟩
noncomputable def flatV : V → Bool
  | .non => true
  | .bl _ => true
  | .int _ => true
  | .str _ => true
  | _ => false
noncomputable def eqV : V → V → Bool
  | .non, .non => true
  | .bl a, .bl b => a == b
  | .bl a, .int b => (if a then 1 else 0) == b
  | .int a, .bl b => a == (if b then 1 else 0)
  | .int a, .int b => a == b
  | .str a, .str b => a == b
  | _, _ => false
theorem eqAt_V {A : Around} {s : Shared} {y x : V} {u v : Value} (ry : RelV y u) (rx : RelV x v) (fy : flatV y = true) (fx : flatV x = true) : SeqAt.EqAt A s u v (eqV y x) := by
  cases y with
  | non =>
    cases ry
    cases x with
    | non => cases rx; exact SeqAt.EqAt.same _
    | bl b => cases rx; exact SeqAt.EqAt.none_bool b
    | int b => obtain ⟨t, rfl⟩ := rx; exact SeqAt.EqAt.none_int b t
    | str b => obtain ⟨t, rfl⟩ := rx; exact SeqAt.EqAt.none_str b t
    | _ => exact absurd (show false = true from fx) Bool.false_ne_true
  | bl a =>
    cases ry
    cases x with
    | non => cases rx; exact SeqAt.EqAt.bool_none a
    | bl b => cases rx; exact SeqAt.EqAt.bool_bool a b
    | int b => obtain ⟨t, rfl⟩ := rx; exact SeqAt.EqAt.bool_int a b t
    | str b => obtain ⟨t, rfl⟩ := rx; exact SeqAt.EqAt.bool_str a b t
    | _ => exact absurd (show false = true from fx) Bool.false_ne_true
  | int a =>
    obtain ⟨t', rfl⟩ := ry
    cases x with
    | non => cases rx; exact SeqAt.EqAt.int_none a t'
    | bl b => cases rx; exact SeqAt.EqAt.int_bool a t' b
    | int b => obtain ⟨t, rfl⟩ := rx; exact SeqAt.EqAt.int_int a t' b t
    | str b => obtain ⟨t, rfl⟩ := rx; exact SeqAt.EqAt.int_str a t' b t
    | _ => exact absurd (show false = true from fx) Bool.false_ne_true
  | str a =>
    obtain ⟨t', rfl⟩ := ry
    cases x with
    | non => cases rx; exact SeqAt.EqAt.str_none a t'
    | bl b => cases rx; exact SeqAt.EqAt.str_bool a t' b
    | int b => obtain ⟨t, rfl⟩ := rx; exact SeqAt.EqAt.str_int a t' b t
    | str b => obtain ⟨t, rfl⟩ := rx; exact SeqAt.EqAt.str_str a t' b t
    | _ => exact absurd (show false = true from fx) Bool.false_ne_true
  | _ => exact absurd (show false = true from fy) Bool.false_ne_true
noncomputable def eqU (x : V) (u : Value) : Bool := match u with
  | .none => eqV .non x
  | .bool b => eqV (.bl b) x
  | .int i _ => eqV (.int i) x
  | .str z _ => eqV (.str z) x
  | _ => false
theorem eqU_of {x y : V} {u : Value} (r : RelV y u) (f : flatV y = true) : eqU x u = eqV y x := by
  cases y with
  | non => cases r; rfl
  | bl b => cases r; rfl
  | int i => obtain ⟨t, rfl⟩ := r; rfl
  | str z => obtain ⟨t, rfl⟩ := r; rfl
  | _ => exact absurd (show false = true from f) Bool.false_ne_true
theorem any_eqU {x : V} : ∀ {xs : List V} {us : List Value}, Vals xs us → xs.all flatV = true → us.any (eqU x) = xs.any fun y => eqV y x
  | _, _, .nil, _ => rfl
  | y :: xs, u :: us, .cons r t, f => by
    rw [List.all_cons, Bool.and_eq_true] at f
    rw [List.any_cons, List.any_cons, eqU_of r f.1, any_eqU t f.2]
theorem mem_eqAt {A : Around} {s : Shared} {x : V} {v : Value} (rx : RelV x v) (fx : flatV x = true) : ∀ {xs : List V} {us : List Value}, Vals xs us → xs.all flatV = true → ∀ u ∈ us, SeqAt.EqAt A s u v (eqU x u)
  | _, _, .nil, _ => fun u hu => by cases hu
  | y :: xs, u :: us, .cons r t, f => fun u' hu => by
    rw [List.all_cons, Bool.and_eq_true] at f
    rcases List.mem_cons.mp hu with rfl | hu
    · rw [eqU_of r f.1]; exact eqAt_V r rx f.1 fx
    · exact mem_eqAt rx fx t f.2 u' hu
noncomputable def inV (x : V) (xs : List V) : Bool := xs.any fun y => eqV y x
def rIn (K : PySem.W.Frag) (neg : Bool) : R2 := fun x y H Q => ∃ p xs, y = .ref p ∧ (SqL K H p xs ∨ SqT K H p xs) ∧ flatV x = true ∧ xs.all flatV = true ∧ Q (.bl (if neg then !inV x xs else inV x xs)) H
theorem op_in_seq : OpR X (compareOp .In) (rIn X.K false) := by
  intro pins s σ H x y v u Q I rx ry h
  obtain ⟨p, xs, rfl, hq, fx, fs, q⟩ := h
  cases ry
  rcases hq with hq | hq
  · obtain ⟨its, r, pl, hz⟩ := I.list hq
    refine SeqAt.in_listAt (eqU x) pl.isList (fun w hw => mem_eqAt rx fx r fs w (by simpa using hw)) ⟨.bl _, H, I, rfl, ?_⟩
    rw [show its.toArray.any (eqU x) = its.any (eqU x) by simp, any_eqU r fs]
    exact q
  · obtain ⟨its, r, pl, hz⟩ := I.tuple hq
    refine SeqAt.in_tupleAt (eqU x) pl (fun w hw => mem_eqAt rx fx r fs w (by simpa using hw)) ⟨.bl _, H, I, rfl, ?_⟩
    rw [show its.toArray.any (eqU x) = its.any (eqU x) by simp, any_eqU r fs]
    exact q
theorem op_notIn_seq : OpR X (compareOp .NotIn) (rIn X.K true) := by
  intro pins s σ H x y v u Q I rx ry h
  obtain ⟨p, xs, rfl, hq, fx, fs, q⟩ := h
  cases ry
  rcases hq with hq | hq
  · obtain ⟨its, r, pl, hz⟩ := I.list hq
    refine SeqAt.notIn_listAt (eqU x) pl.isList (fun w hw => mem_eqAt rx fx r fs w (by simpa using hw)) ⟨.bl _, H, I, rfl, ?_⟩
    rw [show its.toArray.any (eqU x) = its.any (eqU x) by simp, any_eqU r fs]
    exact q
  · obtain ⟨its, r, pl, hz⟩ := I.tuple hq
    refine SeqAt.notIn_tupleAt (eqU x) pl (fun w hw => mem_eqAt rx fx r fs w (by simpa using hw)) ⟨.bl _, H, I, rfl, ?_⟩
    rw [show its.toArray.any (eqU x) = its.any (eqU x) by simp, any_eqU r fs]
    exact q
theorem op_notIn_str : OpR X (compareOp .NotIn) (fun x y H Q => ∃ i j, x = .str i ∧ y = .str j ∧ Q (.bl (!(!(Builtin.Str.occurrences j i 0 j.length 1).isEmpty))) H) := by
  intro pins s σ H x y v u Q I rx ry h
  obtain ⟨i, j, rfl, rfl, q⟩ := h
  obtain ⟨t, rfl⟩ := rx
  obtain ⟨t', rfl⟩ := ry
  exact notIn_str ⟨.bl _, H, I, rfl, q⟩
theorem call_len_seq : CallR X (.builtin "len") (fun xs H Q => ∃ p ys, xs = [.ref p] ∧ (SqL X.K H p ys ∨ SqT X.K H p ys) ∧ Q (.int ys.length) H) := by
  intro pins s σ H xs us Q I r h
  obtain ⟨p, ys, rfl, hq, q⟩ := h
  obtain ⟨u, rfl, rx⟩ := vals1 r
  cases rx
  have hn := line63
  rcases hq with hq | hq
  · obtain ⟨its, r', pl, hz⟩ := I.list hq
    have hlen := r'.length
    exact Calls.call_len_list pl.isList (by simp only [List.size_toArray] <;> omega) ⟨.int ys.length, H, I.tok _, ⟨s.toks + 1, by rw [List.size_toArray, hlen]⟩, q⟩
  · obtain ⟨its, r', pl, hz⟩ := I.tuple hq
    have hlen := r'.length
    exact len_tuple pl (by simp only [List.size_toArray] <;> omega) ⟨.int ys.length, H, I.tok _, ⟨s.toks + 1, by rw [List.size_toArray, hlen]⟩, q⟩
theorem call_len_str : CallR X (.builtin "len") (fun xs H Q => ∃ z, xs = [.str z] ∧ z.length ≤ sizeLine ∧ Q (.int z.length) H) := by
  intro pins s σ H xs us Q I r h
  obtain ⟨z, rfl, hz, q⟩ := h
  obtain ⟨u, rfl, t, rfl⟩ := vals1 r
  have hn := line63
  exact len_str (by omega) ⟨.int z.length, H, I.tok _, ⟨_, rfl⟩, q⟩
theorem CallR.or {f : Value} {r r' : List V → Hp → VK → Prop} (h : CallR X f r) (h' : CallR X f r') : CallR X f (fun xs H Q => r xs H Q ∨ r' xs H Q) := by
  intro pins s σ H xs us Q I rs q
  rcases q with q | q
  · exact h pins s σ H xs us Q I rs q
  · exact h' pins s σ H xs us Q I rs q
theorem call_list_of : CallR X (.type "list") (fun xs H Q => ∃ p ys, xs = [.ref p] ∧ (SqL X.K H p ys ∨ SqT X.K H p ys) ∧ ∀ l, H l = none → Q (.ref l) (upd H l (.lst ys))) := by
  intro pins s σ H xs us Q I r h
  obtain ⟨p, ys, rfl, hq, q⟩ := h
  obtain ⟨u, rfl, rx⟩ := vals1 r
  cases rx
  have fin : ∀ (its : List Value), Vals ys its → ys.length ≤ sizeLine → ∀ (h' : Heap) (c' : Nat), (∀ b o', s.heap.get? b = some o' → h'.get? b = some o') →
      h'.get? s.heap.objs.size = some { cls := .type "list", dict := none, data := .seq its.toArray c', slots := #[] } → EP X pins σ Q (.ref s.heap.objs.size) { s with heap := h' } := fun its r' hz h' c' kp e =>
    ⟨.ref s.heap.objs.size, _, I.laid (t' := s.toks) kp (Nat.le_refl _) (show ObjOk X.prog X.w _ h' _ (.lst ys) from ⟨hz, its, c', r', e⟩), rfl, q _ (I.hok.fresh (Nat.le_refl _))⟩
  rcases hq with hq | hq
  · obtain ⟨its, r', pl, hz⟩ := I.list hq
    have hlen := r'.length
    obtain ⟨o, ho, hc, n, hd⟩ := pl.isList
    exact call_list_seq p (.inl rfl) ho hc hd (fun h' c' kp e => fin its r' hz h' c' kp e) (by simp only [List.size_toArray] <;> omega)
  · obtain ⟨its, r', pl, hz⟩ := I.tuple hq
    have hlen := r'.length
    obtain ⟨o, ho, hc, n, hd⟩ := pl
    exact call_list_seq p (.inr rfl) ho hc hd (fun h' c' kp e => fin its r' hz h' c' kp e) (by simp only [List.size_toArray] <;> omega)
theorem call_tuple_of : CallR X (.type "tuple") (fun xs H Q => ∃ p ys, xs = [.ref p] ∧ ((SqL X.K H p ys ∧ ∀ l, H l = none → Q (.ref l) (upd H l (.tup ys))) ∨ (SqT X.K H p ys ∧ Q (.ref p) H))) := by
  intro pins s σ H xs us Q I r h
  obtain ⟨p, ys, rfl, h⟩ := h
  obtain ⟨u, rfl, rx⟩ := vals1 r
  cases rx
  rcases h with ⟨hq, q⟩ | ⟨hq, q⟩
  · obtain ⟨its, r', pl, hz⟩ := I.list hq
    have hlen := r'.length
    refine call_tuple_list pl.isList (fun h' kp => ?_) (by simp only [List.size_toArray] <;> omega)
    have I1 : Inv X pins σ H { s with heap := h' } := I.kept (t' := s.toks) kp
    have I2 : Inv X pins σ (upd H h'.objs.size (.tup ys)) { s with heap := h'.push { cls := .type "tuple", data := .seq its.toArray } } :=
      I1.laid (t' := s.toks) (fun b o e => Heap.get?_push_of_some _ e) (Nat.le_refl _) (show ObjOk X.prog X.w _ _ _ (.tup ys) from ⟨hz, its, r', IsTup.new _ _⟩)
    exact ⟨.ref h'.objs.size, _, I2, rfl, q _ (I1.hok.fresh (Nat.le_refl _))⟩
  · obtain ⟨its, r', pl, hz⟩ := I.tuple hq
    exact call_tuple_same pl ⟨.ref p, H, I, rfl, q⟩
def tyV (K : PySem.W.Frag) (T : String) (x : V) (H : Hp) : Prop := match x with
  | .str _ => T = "str"
  | .int _ => T = "int"
  | .ref p => (T = "list" ∧ ∃ xs, SqL K H p xs) ∨ (T = "tuple" ∧ ∃ o, K.lookup p = some o ∧ o.cls = .type "tuple" ∧ o.dict = none) ∨
      (T = "dict" ∧ ((∃ kvs, H p = some (.dK kvs)) ∨ ∃ kvs, H p = some (.dT kvs))) ∨ (T = "set" ∧ ∃ S n, H p = some (.set S n))
  | _ => False
theorem tyV_is {pins : List (Addr × Obj)} {σ : St} {H : Hp} {s : Shared} {T : String} {x : V} {v : Value} (I : Inv X pins σ H s) (r : RelV x v) (ty : tyV X.K T x H) :
    s.TypeIs v T ∧ ∀ a, v = .ref a → ∃ ob, s.heap.get? a = some ob ∧ ob.dict = none := by
  cases x with
  | str z =>
    obtain ⟨t, rfl⟩ := r
    cases (show T = "str" from ty)
    exact ⟨typeIs_str s z t, fun _ e => nomatch e⟩
  | int i =>
    obtain ⟨t, rfl⟩ := r
    cases (show T = "int" from ty)
    exact ⟨typeIs_int s i t, fun _ e => nomatch e⟩
  | ref p =>
    cases r
    rcases ty with ⟨rfl, xs, hq⟩ | ⟨rfl, o, hk, hc, hd⟩ | ⟨rfl, hk⟩ | ⟨rfl, S, n, hk⟩
    · obtain ⟨its, _, pl, _⟩ := I.list hq
      refine ⟨pl.isList.typeIs, fun a e => ?_⟩
      cases e
      obtain ⟨o, n, e, c, hd, _⟩ := pl
      exact ⟨o, e, hd⟩
    · refine ⟨⟨o, I.kIn p o hk, hc⟩, fun a e => ?_⟩
      cases e
      exact ⟨o, I.kIn _ o hk, hd⟩
    · have z : ∃ o, s.heap.get? p = some o ∧ o.ExactDict := by
        rcases hk with ⟨kvs, hk⟩ | ⟨kvs, hk⟩
        · obtain ⟨_, _, _, _, o, _, _, e, ex, _⟩ := I.hok p _ hk
          exact ⟨o, e, ex⟩
        · obtain ⟨_, _, _, _, o, _, _, e, ex, _⟩ := I.hok p _ hk
          exact ⟨o, e, ex⟩
      obtain ⟨o, e, ex⟩ := z
      refine ⟨⟨o, e, ex.1⟩, fun a e2 => ?_⟩
      cases e2
      exact ⟨o, e, ex.2.1⟩
    · obtain ⟨o, _, _, _, e, ex, _⟩ := I.hok p _ hk
      refine ⟨⟨o, e, ex.1⟩, fun a e2 => ?_⟩
      cases e2
      exact ⟨o, e, ex.2.1⟩
  | _ => exact False.elim ty
def tBM0 (K : PySem.W.Frag) (T : String) (r : V → List V → Hp → VK → Prop) (to : TE) : TE := fun σ H Q => to σ H fun x H1 => tyV K T x H1 ∧ r x [] H1 Q
def tBM (K : PySem.W.Frag) (T : String) (r : V → List V → Hp → VK → Prop) (to : TE) (t : TA) : TE := fun σ H Q => to σ H fun x H1 => tyV K T x H1 ∧ t σ H1 fun xs H2 => r x xs H2 Q
variable {o e : Expr} {es : List Expr} {to : TE} {t : TA} {name : Str} {apos cpos : Pos} {T id : String} {r : V → List V → Hp → VK → Prop}
theorem pe_bm0 (pa : PlainAttrs T) (slot : Slot T name id) (hty : typeOf (.builtin id) = pure (.type "method_descriptor")) (hm : MtR X id r) (ho : PE X o to)
    (hbase : autoParam (attributeBase o name X.env (eval o X.env) = eval o X.env) L2.au._auto_1) (hline : autoParam ((apos.endLine == cpos.line) = true) L2.au._auto_1) : PE X (.Call (.Attribute o name apos) [] [] cpos) (tBM0 X.K T r to) := by
  intro pins s σ H Q I h
  refine wpAny_Call_method0_late hbase hline (thn (ho pins s σ H _ I h) fun v s1 ⟨x, H1, I1, r1, ty, q1⟩ => ?_)
  obtain ⟨h1, h2⟩ := tyV_is I1 r1 ty
  exact ⟨T, id, pa, slot, hty, h1, h2, Calls.callWith_builtin rfl (PySem.evalArgs_none (hm pins s1 σ H1 x [] v [] Q I1 r1 .nil q1))⟩
theorem pe_bm (pa : PlainAttrs T) (slot : Slot T name id) (hty : typeOf (.builtin id) = pure (.type "method_descriptor")) (hm : MtR X id r) (ho : PE X o to) (ha : PA X (e :: es) t)
    (hbase : autoParam (attributeBase o name X.env (eval o X.env) = eval o X.env) L2.au._auto_1)
    (hfew : autoParam (((backTo cpos (starEach (e :: es) X.env)).all (fun x => !x.1) && (backToKw cpos (keywordEach [] X.env)).all (fun x => x.1.isSome)
      && decide ((e :: es).length + ([] : List Keyword).length + (if ([] : List Keyword).isEmpty then 0 else 1) < 30)) = true) L2.au._auto_1)
    (hline : autoParam ((apos.endLine == cpos.line) = true) L2.au._auto_1) (hs : autoParam (starEach (e :: es) X.env = (false, eval e X.env) :: starEach es X.env) L2.au._auto_1) (hplain : autoParam ((backTo cpos (starEach es X.env)).any (·.1) = false) L2.au._auto_1) :
    PE X (.Call (.Attribute o name apos) (e :: es) [] cpos) (tBM X.K T r to t) := by
  intro pins s σ H Q I h
  refine wpAny_Call_method_late hbase hfew hline rfl (thn (ho pins s σ H _ I h) fun v s1 ⟨x, H1, I1, r1, ty, q1⟩ => ?_)
  obtain ⟨h1, h2⟩ := tyV_is I1 r1 ty
  refine ⟨T, id, pa, slot, hty, h1, h2, ?_⟩
  have hA := ha cpos pins s1 σ H1 _ I1 q1
  rw [hs] at hA ⊢
  refine Calls.callWith_builtin (by show (false || (backTo cpos (starEach es X.env)).any (·.1)) = false; rw [hplain] <;> rfl) (Calls.evalArgs_plain ?_)
  exact thn hA fun us s2 ⟨vs, H2, I2, r2, q2⟩ => hm pins s2 σ H2 x vs v us Q I2 r1 r2 q2
end
end L2
namespace L2
open PySem PySem.Spec PyProof.Rows
def MtM (X : Cx) (id : String) (r : V → List V → Hp → VK → Prop) : Prop :=
  ∀ (pins : List (Addr × Obj)) (s : Shared) (σ : St) (H : Hp) (x : V) (xs : List V) (v : Value) (us : List Value) (Q : VK), Inv X pins σ H s → RelV x v → Vals xs us → r x xs H Q →
    wpAny (model X.prog X.w) X.A (call (.builtin id) (v :: us)) (EP X pins σ Q) X.xe s
theorem Vals.one {x : V} {us : List Value} (h : Vals [x] us) : ∃ u, us = [u] ∧ RelV x u := by
  cases h with
  | cons r t => cases t; exact ⟨_, rfl, r⟩
theorem Vals.two {x y : V} {us : List Value} (h : Vals [x, y] us) : ∃ u v, us = [u, v] ∧ RelV x u ∧ RelV y v := vals2 h
theorem Vals.zero : ∀ {us : List Value}, Vals [] us → us = []
  | _, .nil => rfl
theorem Vals.dropLast {xs : List V} {us : List Value} (h : Vals xs us) : Vals xs.dropLast us.dropLast := by
  induction h with
  | nil => exact .nil
  | cons r t ih =>
    cases t with
    | nil => exact .nil
    | cons q t' => exact .cons r ih
theorem Vals.eraseIdx : ∀ {xs : List V} {us : List Value} (i : Nat), Vals xs us → Vals (xs.eraseIdx i) (us.eraseIdx i)
  | _, _, _, .nil => .nil
  | _, _, 0, .cons _ t => t
  | _, _, i + 1, .cons r t => .cons r (Vals.eraseIdx i t)
theorem Vals.reverse {xs : List V} {us : List Value} (h : Vals xs us) : Vals xs.reverse us.reverse := by
  induction h with
  | nil => exact .nil
  | cons r t ih => rw [List.reverse_cons, List.reverse_cons]; exact Vals.append ih (.cons r .nil)
theorem Vals.rep {xs : List V} {us : List Value} (h : Vals xs us) : ∀ k : Nat, Vals (List.replicate k xs).flatten (List.replicate k us).flatten
  | 0 => .nil
  | k + 1 => by
    rw [List.replicate_succ, List.replicate_succ, List.flatten_cons, List.flatten_cons]
    exact Vals.append h (Vals.rep h k)
theorem erase_last {α : Type} (l : List α) : l.eraseIdx (l.length - 1) = l.dropLast := by
  induction l with
  | nil => rfl
  | cons a r ih =>
    cases r with
    | nil => rfl
    | cons b r =>
      have e : (a :: b :: r).length - 1 = ((b :: r).length - 1) + 1 := by
        have h1 : (a :: b :: r).length = r.length + 2 := rfl
        have h2 : (b :: r).length = r.length + 1 := rfl
        omega
      rw [e, List.eraseIdx_cons_succ, ih]
      all_goals rfl
theorem len_erase {α : Type} : ∀ (l : List α) (i : Nat), (l.eraseIdx i).length ≤ l.length
  | [], _ => Nat.le_refl _
  | _ :: _, 0 => Nat.le_succ _
  | _ :: r, i + 1 => Nat.succ_le_succ (len_erase r i)
theorem foldl_rep (its : List Value) : ∀ (k : Nat) (acc : List Value),
    List.foldl (fun x1 x2 => x1 ++ x2) acc.toArray (List.replicate k its.toArray) = (acc ++ (List.replicate k its).flatten).toArray
  | 0, acc => by simp
  | k + 1, acc => by
    have e : acc.toArray ++ its.toArray = (acc ++ its).toArray := by simp
    have e2 : (acc ++ its) ++ (List.replicate k its).flatten = acc ++ (List.replicate (k + 1) its).flatten := by
      rw [List.replicate_succ, List.flatten_cons, List.append_assoc]
    rw [← e2, ← foldl_rep its k (acc ++ its), ← e, List.replicate_succ, List.foldl_cons]
section
variable {X : Cx} {pins : List (Addr × Obj)} {σ : St} {H : Hp} {s : Shared} {l b : Addr} {xs ys zs : List V}
theorem Inv.lset {its its' : List Value} {n : Nat} {f : Array Value → Array Value} {t' : Nat} (I : Inv X pins σ H s) (hH : H l = some (.lst xs))
    (e : s.heap.get? l = some { cls := .type "list", data := .seq its.toArray n }) (hf : f its.toArray = its'.toArray) (hv : Vals ys its') (hz : ys.length ≤ sizeLine) (ht : autoParam (0 < t') L2.au._auto_3) :
    Inv X pins σ (upd H l (.lst ys)) { s with heap := s.heap.update l (Obj.mapSeq f), toks := t' } := by
  have q := PySem.IsL.update e f
  rw [hf] at q
  refine I.write (x := l) (e := l) (by rw [hH]; exact trivial) (.inl rfl) (fun b' u hb hu => (Heap.get?_update_other s.heap (Obj.mapSeq f) (Ne.symm hb)).trans hu) ⟨_, q⟩ ?_
  exact ⟨hz, its', _, hv, q⟩
theorem Inv.lnew {its : List Value} {t' : Nat} (I : Inv X pins σ H s) (hv : Vals ys its) (hz : ys.length ≤ sizeLine) (ht : autoParam (0 < t') L2.au._auto_3) :
    Inv X pins σ (upd H s.heap.objs.size (.lst ys)) { s with heap := s.heap.push { cls := .type "list", data := .seq its.toArray }, toks := t' } :=
  I.laid (fun _ _ q => Heap.get?_push_of_some _ q) (Nat.le_refl _) ⟨hz, its, 0, hv, Heap.get?_push_size _ rfl⟩
theorem Inv.fresh (I : Inv X pins σ H s) : H s.heap.objs.size = none := I.hok.fresh (Nat.le_refl _)
theorem Inv.lstM (I : Inv X pins σ H s) (hH : H l = some (.lst xs)) : xs.length ≤ sizeLine ∧ ∃ (its : List Value) (n : Nat), Vals xs its ∧ xs.length = its.length ∧ s.heap.get? l = some { cls := .type "list", data := .seq its.toArray n } := by
  obtain ⟨z, its, n, r, e⟩ := I.hok l _ hH
  exact ⟨z, its, n, r, r.length, e⟩
theorem notLongL {n : Nat} (h : n ≤ sizeLine) : Builtin.List.listTooLong n = false := by
  unfold Builtin.List.listTooLong
  exact decide_eq_false (by omega)
end
section
variable {X : Cx}
def rAppend : V → List V → Hp → VK → Prop := fun x vs H Q => ∃ l xs y, x = .ref l ∧ vs = [y] ∧ H l = some (.lst xs) ∧ xs.length < sizeLine ∧ Q .non (upd H l (.lst (xs ++ [y])))
theorem mt_append : MtM X "list.append" rAppend := by
  intro pins s σ H x vs v us Q I rx rv h
  obtain ⟨l, xs, y, rfl, rfl, hH, hz, q⟩ := h
  cases rx
  obtain ⟨u, rfl, ru⟩ := rv.one
  obtain ⟨z, its, n, r, hl, e⟩ := I.lstM hH
  refine call_meets F.slot_list_append ⟨_, e, rfl⟩ F.entry_list_append (F.args_list_append_2 _ _) (PySem.list_append l its.toArray n u (by rw [List.size_toArray]; omega)) ⟨e, ?_⟩
  refine ⟨.non, _, I.lset (its' := its ++ [u]) hH e (by simp) (r.append (.cons ru .nil)) ?_, rfl, q⟩
  rw [List.length_append, List.length_singleton]
  omega
def rExtend : V → List V → Hp → VK → Prop := fun x vs H Q => ∃ l b xs zs, x = .ref l ∧ vs = [.ref b] ∧ H l = some (.lst xs) ∧ H b = some (.lst zs) ∧ xs.length + zs.length ≤ sizeLine ∧ Q .non (upd H l (.lst (xs ++ zs)))
theorem mt_extend : MtM X "list.extend" rExtend := by
  intro pins s σ H x vs v us Q I rx rv h
  obtain ⟨l, b, xs, zs, rfl, rfl, hH, hB, hz, q⟩ := h
  cases rx
  obtain ⟨u, rfl, ru⟩ := rv.one
  cases ru
  obtain ⟨z, its, n, r, hl, e⟩ := I.lstM hH
  obtain ⟨z2, its2, n2, r2, hl2, e2⟩ := I.lstM hB
  have hsz : its.toArray.size + its2.toArray.size ≤ sizeLine := by rw [List.size_toArray, List.size_toArray]; omega
  have hlong : ¬ (!its.toArray.isEmpty && Builtin.List.listTooLong (its.toArray.size + its2.toArray.size)) = true := by
    rw [notLongL hsz, Bool.and_false]
    exact Bool.false_ne_true
  refine call_meets F.slot_list_extend ⟨_, e, rfl⟩ F.entry_list_extend (F.args_list_extend_2 _ _)
    (AutoSeq1.list_extend_list_list_0 l its.toArray n b its2.toArray n2 hlong (by rw [List.size_toArray]; omega) (by omega)) ⟨e, e2, ?_⟩
  refine ⟨.non, _, I.lset (its' := its ++ its2) hH e (by simp) (r.append r2) ?_, rfl, q⟩
  rw [List.length_append]
  omega
def rPop : V → List V → Hp → VK → Prop := fun x vs H Q => ∃ l xs y, x = .ref l ∧ vs = [] ∧ H l = some (.lst xs) ∧ xs[xs.length - 1]? = some y ∧ Q y (upd H l (.lst xs.dropLast))
theorem mt_pop : MtM X "list.pop" rPop := by
  intro pins s σ H x vs v us Q I rx rv h
  obtain ⟨l, xs, y, rfl, rfl, hH, hy, q⟩ := h
  cases rx
  have hus := rv.zero
  subst hus
  obtain ⟨z, its, n, r, hl, e⟩ := I.lstM hH
  obtain ⟨u, hu, ru⟩ := r.get hy
  have hy' : its.toArray[its.toArray.size - 1]? = some u := by
    show its.toArray[its.length - 1]? = some u
    rw [← Array.getElem?_toList, ← hl]
    exact hu
  refine call_meets F.slot_list_pop ⟨_, e, rfl⟩ F.entry_list_pop (F.args_list_pop_1 _) (MeetsSeq.list_pop_last l its.toArray n u hy' (by rw [List.size_toArray]; omega)) ⟨e, ?_⟩
  refine ⟨y, _, I.lset (its' := its.dropLast) hH e ?_ r.dropLast ?_, ru, q⟩
  · show its.toArray.eraseIdxIfInBounds (its.toArray.size - 1) = its.dropLast.toArray
    rw [List.size_toArray, List.eraseIdxIfInBounds_toArray, erase_last]
  · rw [List.length_dropLast]
    omega
def rPopAt : V → List V → Hp → VK → Prop := fun x vs H Q => ∃ l xs i k y, x = .ref l ∧ vs = [.int i] ∧ H l = some (.lst xs) ∧ -(2 ^ 63) ≤ i ∧ i < 2 ^ 63 ∧ seqIndex? i xs.length = some k ∧ xs[k]? = some y ∧ Q y (upd H l (.lst (xs.eraseIdx k)))
theorem mt_popAt : MtM X "list.pop" rPopAt := by
  intro pins s σ H x vs v us Q I rx rv h
  obtain ⟨l, xs, i, k, y, rfl, rfl, hH, h1, h2, hk, hy, q⟩ := h
  cases rx
  obtain ⟨u, rfl, ru⟩ := rv.one
  obtain ⟨t, rfl⟩ := ru
  obtain ⟨z, its, n, r, hl, e⟩ := I.lstM hH
  obtain ⟨w, hw, rw'⟩ := r.get hy
  refine call_meets F.slot_list_pop ⟨_, e, rfl⟩ F.entry_list_pop (F.args_list_pop_2 _ _)
    (MeetsSeq.list_pop_at l its.toArray n i t k w (fitsIndex_both h1 h2) (by rw [List.size_toArray, ← hl]; exact hk) (by rw [← Array.getElem?_toList]; exact hw) (by rw [List.size_toArray]; omega)) ⟨e, ?_⟩
  refine ⟨y, _, I.lset (its' := its.eraseIdx k) hH e ?_ (r.eraseIdx k) ?_, rw', q⟩
  · show its.toArray.eraseIdxIfInBounds k = (its.eraseIdx k).toArray
    rw [List.eraseIdxIfInBounds_toArray]
  · have := len_erase xs k
    omega
def rCat : R2 := fun x y H Q => ∃ l b xs zs, x = .ref l ∧ y = .ref b ∧ H l = some (.lst xs) ∧ H b = some (.lst zs) ∧ xs.length + zs.length ≤ sizeLine ∧ ∀ p, H p = none → Q (.ref p) (upd H p (.lst (xs ++ zs)))
theorem op_cat : OpR X (binaryOp .Add) rCat := by
  intro pins s σ H x y v u Q I rx ry h
  obtain ⟨l, b, xs, zs, rfl, rfl, hH, hB, hz, q⟩ := h
  cases rx
  cases ry
  obtain ⟨z, its, n, r, hl, e⟩ := I.lstM hH
  obtain ⟨z2, its2, n2, r2, hl2, e2⟩ := I.lstM hB
  refine PySem.P.add_list e e2 ?_ (by rw [List.size_toArray, List.size_toArray]; omega)
  have ea : its.toArray ++ its2.toArray = (its ++ its2).toArray := by simp
  rw [ea]
  exact ⟨.ref _, _, I.lnew (t' := s.toks) (r.append r2) (by rw [List.length_append]; omega), rfl, q _ I.fresh⟩
def rRep : R2 := fun x y H Q => ∃ l k xs, x = .ref l ∧ y = .int k ∧ H l = some (.lst xs) ∧ -(2 ^ 63) ≤ k ∧ k < 2 ^ 63 ∧ xs.length * k.toNat ≤ sizeLine ∧
  ∀ p, H p = none → Q (.ref p) (upd H p (.lst (List.replicate k.toNat xs).flatten))
theorem len_rep {α : Type} (xs : List α) (k : Nat) : (List.replicate k xs).flatten.length = k * xs.length := by
  induction k with
  | zero => simp
  | succ k ih => rw [List.replicate_succ, List.flatten_cons, List.length_append, ih, Nat.succ_mul, Nat.add_comm]
theorem op_rep : OpR X (binaryOp .Mult) rRep := by
  intro pins s σ H x y v u Q I rx ry h
  obtain ⟨l, k, xs, rfl, rfl, hH, h1, h2, hz, q⟩ := h
  cases rx
  obtain ⟨t, rfl⟩ := ry
  obtain ⟨z, its, n, r, hl, e⟩ := I.lstM hH
  have hlen : its.toArray.size * k.toNat ≤ sizeLine := by rw [List.size_toArray, ← hl]; exact hz
  have hcap : ¬ its.toArray.size * k.toNat > (2 ^ 63 - 1) / 8 := by
    have : (sizeLine : Nat) ≤ (2 ^ 63 - 1) / 8 := by decide
    omega
  have hfit : ¬ (!Builtin.List.listFitsIndex k) = true := by
    rw [fitsIndex_both h1 h2]
    exact Bool.false_ne_true
  have hlong : ¬ Builtin.List.listTooLong (its.toArray.size * k.toNat) = true := by
    rw [notLongL hlen]
    exact Bool.false_ne_true
  have hnew : List.foldl (fun x1 x2 => x1 ++ x2) #[] (List.replicate (if its.toArray.isEmpty = true then 0 else k.toNat) its.toArray) = (List.replicate k.toNat its).flatten.toArray := by
    have f0 : ∀ m : Nat, List.foldl (fun x1 x2 => x1 ++ x2) #[] (List.replicate m its.toArray) = (List.replicate m its).flatten.toArray := fun m => by
      have := foldl_rep its m []
      rw [List.nil_append] at this
      exact this
    rw [f0]
    cases its with
    | nil => simp
    | cons a r' => rw [if_neg (by simp)]
  refine wpAny_binaryOp_repeat_ref (T := "list") (U := "int") (by decide) ⟨_, e, rfl⟩ (fun s' => typeIs_int s' k t) noFill_list_mul F.fills_int_mul F.slot_int_rmul repeat_list F.slot_int_index.lookup
    (call_meets F.slot_int_rmul (typeIs_int s k t) F.entry_int_rmul (F.args_int_rmul_2 _ _) (int___rmul___int_list k t l its.toArray n)
      ⟨e, rfl, ⟨_, e, rfl⟩, call_meets F.slot_list_mul ⟨_, e, rfl⟩ F.entry_list_mul (F.args_list_mul_2 _ _) (AutoListH.list___mul___list_int_3 l its.toArray n k t hfit hcap hlong) ⟨e, ?_⟩⟩)
  rw [hnew]
  exact ⟨.ref _, _, I.lnew (t' := s.toks) (r.rep k.toNat) (by rw [len_rep, Nat.mul_comm]; exact hz), rfl, q _ I.fresh⟩
end
end L2
namespace L2
open PySem PySem.Spec PyProof.Rows
section
variable {κ : Type} [DecidableEq κ]
noncomputable def valV (kvs : List (κ × V)) (k : κ) : Option V := (kvs.find? fun kv => decide (kv.1 = k)).map (·.2)
noncomputable def putK (kvs : List (κ × V)) (k : κ) (v : V) : List (κ × V) :=
  if (kvs.any fun kv => decide (kv.1 = k)) = true then kvs.map (fun kv => if kv.1 = k then (kv.1, v) else kv) else kvs ++ [(k, v)]
theorem valV_nil {k : κ} : valV ([] : List (κ × V)) k = none := rfl
theorem valV_pos {p : κ × V} {r : List (κ × V)} {k : κ} (e : p.1 = k) : valV (p :: r) k = some p.2 := by simp [valV, List.find?_cons, e]
theorem valV_neg {p : κ × V} {r : List (κ × V)} {k : κ} (e : ¬ p.1 = k) : valV (p :: r) k = valV r k := by simp [valV, List.find?_cons, e]
theorem valV_any (k : κ) : ∀ kvs : List (κ × V), (kvs.any fun kv => decide (kv.1 = k)) = (valV kvs k).isSome
  | [] => rfl
  | p :: r => by
    rw [List.any_cons]
    by_cases e : p.1 = k
    · simp only [valV_pos e, decide_eq_true e, Bool.true_or, Option.isSome_some]
    · rw [valV_neg e, decide_eq_false e, Bool.false_or]; exact valV_any k r
theorem valV_map (k j : κ) (y : V) : ∀ kvs : List (κ × V), valV (kvs.map fun kv => if kv.1 = k then (kv.1, y) else kv) j = (valV kvs j).map fun x => if j = k then y else x
  | [] => rfl
  | p :: r => by
    have ih := valV_map k j y r
    rw [List.map_cons]
    by_cases h : p.1 = k
    · rw [if_pos h]
      by_cases e : p.1 = j
      · rw [valV_pos (p := (p.1, y)) e, valV_pos e, Option.map_some, if_pos (e.symm.trans h)]
      · rw [valV_neg (p := (p.1, y)) e, valV_neg e, ih]
    · rw [if_neg h]
      by_cases e : p.1 = j
      · rw [valV_pos (p := p) e, valV_pos e, Option.map_some, if_neg (fun z => h (e.trans z))]
      · rw [valV_neg (p := p) e, valV_neg e, ih]
theorem valV_snoc (k j : κ) (y : V) : ∀ kvs : List (κ × V), valV kvs k = none → valV (kvs ++ [(k, y)]) j = if j = k then some y else valV kvs j
  | [], _ => by
    by_cases e : k = j
    · rw [if_pos e.symm]; exact valV_pos (p := (k, y)) e
    · rw [if_neg (fun z => e z.symm)]; exact valV_neg (p := (k, y)) e
  | p :: r, hn => by
    rw [List.cons_append]
    have hk : ¬ p.1 = k := fun z => by rw [valV_pos z] at hn; cases hn
    rw [valV_neg hk] at hn
    have ih := valV_snoc k j y r hn
    by_cases e : p.1 = j
    · rw [valV_pos e, valV_pos e, if_neg (fun z => hk (e.trans z))]
    · rw [valV_neg e, valV_neg e, ih]
theorem valV_put (kvs : List (κ × V)) (k j : κ) (y : V) : valV (putK kvs k y) j = if j = k then some y else valV kvs j := by
  unfold putK
  by_cases a : (kvs.any fun kv => decide (kv.1 = k)) = true
  · rw [if_pos a, valV_map]
    rw [valV_any] at a
    by_cases e : j = k
    · obtain ⟨x, hx⟩ := Option.isSome_iff_exists.mp a
      rw [if_pos e, e, hx, Option.map_some, if_pos rfl]
    · rw [if_neg e]
      cases valV kvs j with
      | none => rfl
      | some x => rw [Option.map_some, if_neg e]
  · rw [if_neg a]
    refine valV_snoc k j y kvs ?_
    rw [valV_any] at a
    cases q : valV kvs k with
    | none => rfl
    | some x => rw [q] at a; exact (a rfl).elim
theorem length_putK (kvs : List (κ × V)) (k : κ) (v : V) : (putK kvs k v).length ≤ kvs.length + 1 := by
  unfold putK
  split
  · rw [List.length_map]; omega
  · rw [List.length_append, List.length_cons, List.length_nil]; omega
theorem putK_new {kvs : List (κ × V)} {k : κ} (v : V) (h : valV kvs k = none) : putK kvs k v = kvs ++ [(k, v)] := by
  unfold putK
  rw [valV_any, h]
  exact if_neg (by decide)
theorem RelO.isSome_eq {o : Option V} {u : Option Value} (r : RelO o u) : o.isSome = u.isSome := by
  cases o with
  | none => cases u with
    | none => rfl
    | some _ => exact (show False from r).elim
  | some _ => cases u with
    | none => exact (show False from r).elim
    | some _ => rfl
theorem RelO.getD {o : Option V} {u : Option Value} {d : V} {d' : Value} (r : RelO o u) (rd : RelV d d') : RelV (o.getD d) (u.getD d') := by
  cases o with
  | none => cases u with
    | none => exact rd
    | some _ => exact (show False from r).elim
  | some _ => cases u with
    | none => exact (show False from r).elim
    | some _ => exact r
theorem KV.val {kvs : List (κ × V)} {vs : List (κ × Value)} (r : KV kvs vs) (k : κ) : RelO (valV kvs k) (valueAt vs k) := by
  unfold KV at r
  induction r with
  | nil => exact True.intro
  | @cons p q ps qs h t ih =>
    obtain ⟨h1, h2⟩ := h
    by_cases e : p.1 = k
    · have e' : q.1 = k := h1.symm.trans e
      have b : valueAt (q :: qs) k = some q.2 := by simp [valueAt, List.find?_cons, e']
      rw [valV_pos e, b]; exact h2
    · have e' : ¬ q.1 = k := fun z => e (h1.trans z)
      have b : valueAt (q :: qs) k = valueAt qs k := by simp [valueAt, List.find?_cons, e']
      rw [valV_neg e, b]; exact ih
theorem KV.any {kvs : List (κ × V)} {vs : List (κ × Value)} (r : KV kvs vs) (k : κ) : (kvs.any fun kv => decide (kv.1 = k)) = vs.any fun kv => decide (kv.1 = k) := by
  unfold KV at r
  induction r with
  | nil => rfl
  | cons h t ih => rw [List.any_cons, List.any_cons, ih, h.1]
theorem KV.repl {kvs : List (κ × V)} {vs : List (κ × Value)} (r : KV kvs vs) (k : κ) {y : V} {u : Value} (ry : RelV y u) :
    KV (kvs.map fun kv => if kv.1 = k then (kv.1, y) else kv) (vs.map fun kv => if kv.1 = k then (kv.1, u) else kv) := by
  unfold KV at r ⊢
  induction r with
  | nil => exact .nil
  | @cons p q ps qs h t ih =>
    rw [List.map_cons, List.map_cons]
    refine .cons ?_ ih
    obtain ⟨h1, h2⟩ := h
    by_cases e : p.1 = k
    · rw [if_pos e, if_pos (h1.symm.trans e)]; exact ⟨h1, ry⟩
    · rw [if_neg e, if_neg (fun z => e (h1.trans z))]; exact ⟨h1, h2⟩
theorem KV.put {kvs : List (κ × V)} {vs : List (κ × Value)} (r : KV kvs vs) (k : κ) {y : V} {u : Value} (ry : RelV y u) : KV (putK kvs k y) (stored vs k u) := by
  unfold putK stored
  rw [r.any k]
  by_cases e : (vs.any fun kv => decide (kv.1 = k)) = true
  · rw [if_pos e, if_pos e]; exact r.repl k ry
  · rw [if_neg e, if_neg e]; exact Paired.snoc r ⟨rfl, ry⟩
theorem KV.length {kvs : List (κ × V)} {vs : List (κ × Value)} (r : KV kvs vs) : kvs.length = vs.length := Paired.length r
end
theorem kV_is {P : Program} {w : World} {k : Key} {u : Value} (r : RelV (kV k) u) : (mixKind P w).is k u = true := by
  cases k with
  | inl i => obtain ⟨t, e⟩ := (show ∃ t, u = Value.int i t from r); subst e; exact mixKind_int P w i t
  | inr x => obtain ⟨t, e⟩ := (show ∃ t, u = Value.str x t from r); subst e; exact mixKind_str P w x t
theorem items_are {P : Program} {w : World} : ∀ {ks : List Key} {us : List Value}, Vals (ks.map kV) us → ItemsAre (mixKind P w) ks us
  | [], _, r => by rw [List.map_nil] at r; cases r; exact .nil
  | k :: ks, _, r => by
    rw [List.map_cons] at r
    cases r with
    | cons h t => exact .cons (kV_is h) (items_are t)
abbrev KT (H : Hp) : List (List Key × V) → List (List Key × Addr × Value) → Prop := Paired fun p q => p.1 = q.1 ∧ H q.2.1 = some (.tup (p.1.map kV)) ∧ RelV p.2 q.2.2
theorem KT.val {H : Hp} {kvs : List (List Key × V)} {xs : List (List Key × Addr × Value)} (r : KT H kvs xs) (k : List Key) : RelO (valV kvs k) ((atKey xs k).map (·.2)) := by
  induction r with
  | nil => exact True.intro
  | @cons p q ps qs h t ih =>
    obtain ⟨h1, _, h2⟩ := h
    by_cases e : p.1 = k
    · have e' : q.1 = k := h1.symm.trans e
      have b : atKey (q :: qs) k = some q.2 := by simp [atKey, List.find?_cons, e']
      rw [valV_pos e, b]; exact h2
    · have e' : ¬ q.1 = k := fun z => e (h1.trans z)
      have b : atKey (q :: qs) k = atKey qs k := by simp [atKey, List.find?_cons, e']
      rw [valV_neg e, b]; exact ih
theorem KT.repl {H : Hp} {kvs : List (List Key × V)} {xs : List (List Key × Addr × Value)} (r : KT H kvs xs) (k : List Key) {y : V} {u : Value} (ry : RelV y u) :
    KT H (kvs.map fun kv => if kv.1 = k then (kv.1, y) else kv) (xs.map (putAt k u)) := by
  induction r with
  | nil => exact .nil
  | @cons p q ps qs h t ih =>
    rw [List.map_cons, List.map_cons]
    refine .cons ?_ ih
    obtain ⟨h1, h2, h3⟩ := h
    unfold putAt
    by_cases e : p.1 = k
    · rw [if_pos e, if_pos (h1.symm.trans e)]; exact ⟨h1, h2, ry⟩
    · rw [if_neg e, if_neg (fun z => e (h1.trans z))]; exact ⟨h1, h2, h3⟩
theorem KT.put {H : Hp} {kvs : List (List Key × V)} {xs : List (List Key × Addr × Value)} (r : KT H kvs xs) (k : List Key) {b : Addr} {y : V} {u : Value} (hb : H b = some (.tup (k.map kV))) (ry : RelV y u) :
    KT H (putK kvs k y) (storedH xs k b u) := by
  have e : (kvs.any fun kv => decide (kv.1 = k)) = (atKey xs k).isSome := by
    rw [valV_any, (r.val k).isSome_eq, Option.isSome_map]
  unfold putK storedH
  rw [e]
  by_cases q : (atKey xs k).isSome = true
  · rw [if_pos q, if_pos q]; exact r.repl k ry
  · rw [if_neg q, if_neg q]; exact Paired.snoc r ⟨rfl, hb, ry⟩
theorem KT.keeps {H H' : Hp} {kvs : List (List Key × V)} {xs : List (List Key × Addr × Value)} (r : KT H kvs xs) (ht : ∀ b ys, H b = some (.tup ys) → H' b = some (.tup ys)) : KT H' kvs xs :=
  Paired.mapP r fun _ _ z => ⟨z.1, ht _ _ z.2.1, z.2.2⟩
section
variable {P : Program} {w : World} {H : Hp} {h : Heap} {a : Addr}
theorem rd_of {u : HO} (ok : HOk P w H h) (e : Rd H a u) : ObjOk P w H h a u := e.ok ok
theorem dk_rd {kvs : List (Key × V)} (ok : HOk P w H h) (e : Rd H a (.dK kvs)) : kvs.length ≤ sizeLine ∧ (a == sysModules) = false ∧ ∃ vs, KV kvs vs ∧ h.DictOf (mixKind P w) a vs :=
  show ObjOk P w H h a (.dK kvs) from rd_of ok e
theorem dk_of {kvs : List (Key × V)} (ok : HOk P w H h) (e : H a = some (.dK kvs)) : kvs.length ≤ sizeLine ∧ (a == sysModules) = false ∧ ∃ vs, KV kvs vs ∧ h.DictOf (mixKind P w) a vs := dk_rd ok (.inl e)
theorem key_of {ks : List Key} (ok : HOk P w H h) (e : H a = some (.tup (ks.map kV))) : (tupleKind (mixKind P w)).is h ks a := by
  obtain ⟨_, its, r, o, h1, h2, n, h3⟩ := (show ObjOk P w H h a (.tup (ks.map kV)) from ok a _ e)
  exact ⟨o, its.toArray, n, h1, h2, h3, by simpa using items_are r⟩
theorem dt_rd {kvs : List (List Key × V)} (ok : HOk P w H h) (e : Rd H a (.dT kvs)) : kvs.length ≤ sizeLine ∧ (a == sysModules) = false ∧
    ∃ xs, KT H kvs xs ∧ h.DictOfH (tupleKind (mixKind P w)) a xs := by
  obtain ⟨z, y, xs, r, o, es, ep, h1, h2, h3, h4, h5⟩ := (show ObjOk P w H h a (.dT kvs) from rd_of ok e)
  refine ⟨z, y, xs, r, o, es, ep, h1, h2, h3, h4, fun x hx => ?_, h5⟩
  have all : ∀ {l : List (List Key × V)} {m : List (List Key × Addr × Value)}, KT H l m → ∀ x ∈ m, (tupleKind (mixKind P w)).is h x.1 x.2.1 := by
    intro l m q
    induction q with
    | nil => intro x hx; exact nomatch hx
    | @cons p q ps qs hq t ih =>
      intro x hx
      rcases List.mem_cons.mp hx with e | hx
      · subst e
        exact key_of ok (by rw [← hq.1]; exact hq.2.1)
      · exact ih x hx
  exact all r x hx
theorem dt_of {kvs : List (List Key × V)} (ok : HOk P w H h) (e : H a = some (.dT kvs)) : kvs.length ≤ sizeLine ∧ (a == sysModules) = false ∧
    ∃ xs, KT H kvs xs ∧ h.DictOfH (tupleKind (mixKind P w)) a xs := dt_rd ok (.inl e)
end
def DGet (H : Hp) (a : Addr) (y : V) (r : Option V) : Prop :=
  (∃ kvs k, Rd H a (.dK kvs) ∧ y = kV k ∧ r = valV kvs k) ∨ ∃ kvs k b, Rd H a (.dT kvs) ∧ y = .ref b ∧ H b = some (.tup (k.map kV)) ∧ r = valV kvs k
def DPut (H : Hp) (a : Addr) (y v : V) (H' : Hp) : Prop :=
  (∃ kvs k, H a = some (.dK kvs) ∧ y = kV k ∧ kvs.length < sizeLine ∧ H' = upd H a (.dK (putK kvs k v))) ∨
  ∃ kvs k b, H a = some (.dT kvs) ∧ y = .ref b ∧ H b = some (.tup (k.map kV)) ∧ kvs.length < sizeLine ∧ H' = upd H a (.dT (putK kvs k v))
theorem DGet.k {H : Hp} {a : Addr} {kvs : List (Key × V)} {k : Key} (e : H a = some (.dK kvs)) : DGet H a (kV k) (valV kvs k) := .inl ⟨kvs, k, .inl e, rfl, rfl⟩
theorem DGet.t {H : Hp} {a b : Addr} {kvs : List (List Key × V)} {k : List Key} (e : H a = some (.dT kvs)) (eb : H b = some (.tup (k.map kV))) : DGet H a (.ref b) (valV kvs k) := .inr ⟨kvs, k, b, .inl e, rfl, eb, rfl⟩
theorem DPut.k {H : Hp} {a : Addr} {kvs : List (Key × V)} {k : Key} {v : V} (e : H a = some (.dK kvs)) (hl : kvs.length < sizeLine) : DPut H a (kV k) v (upd H a (.dK (putK kvs k v))) := .inl ⟨kvs, k, e, rfl, hl, rfl⟩
theorem DPut.t {H : Hp} {a b : Addr} {kvs : List (List Key × V)} {k : List Key} {v : V} (e : H a = some (.dT kvs)) (eb : H b = some (.tup (k.map kV))) (hl : kvs.length < sizeLine) :
    DPut H a (.ref b) v (upd H a (.dT (putK kvs k v))) := .inr ⟨kvs, k, b, e, rfl, eb, hl, rfl⟩
section
variable {X : Cx} {pins : List (Addr × Obj)} {σ : St} {H : Hp} {s : Shared} {a : Addr} {y v : V} {u r : Value} {o : Option V} {A : Around} {E : Value → Shared → Prop}
theorem Inv.big (I : Inv X pins σ H s) : sysModules < s.heap.objs.size := by
  have h : mainGlobals < s.heap.objs.size := (I.mod.glob.keeps I.bk).lt
  exact Nat.lt_trans (by decide) h
theorem d_getItem {Q : Value → Shared → Prop} (hu : A.units + 1 < cLine) (I : Inv X pins σ H s) (g : DGet H a y (some v)) (ry : RelV y u) (h : ∀ w' s', Inv X pins σ H s' → RelV v w' → Q w' s') :
    wpAny (model X.prog X.w) A (getItem (.ref a) u) Q E s := by
  rcases g with ⟨kvs, k, e, ey, l⟩ | ⟨kvs, k, b, e, ey, eb, l⟩
  · subst ey
    obtain ⟨z, hd, vs, rel, dd⟩ := dk_rd I.hok e
    obtain ⟨w', hw, rw'⟩ := RelO.some_of (v := v) (o := valueAt vs k) (by rw [l]; exact rel.val k)
    exact wpAny_getItem_of (kV_is ry) dd.mapOf hw (h w' _ (I.tok _) rw')
  · subst ey
    cases (show u = Value.ref b from ry)
    obtain ⟨z, hd, xs, rel, dd⟩ := dt_rd I.hok e
    obtain ⟨w', hw, rw'⟩ := RelO.some_of (v := v) (o := (atKey xs k).map (·.2)) (by rw [l]; exact rel.val k)
    obtain ⟨p, hp, hp2⟩ := Option.map_eq_some_iff.mp hw
    refine wpAny_getItem_heap (tupleKind_room_in1 hu) (key_of I.hok eb) dd hp ?_
    rw [hp2]
    exact h w' _ (I.tok _) rw'
theorem d_in {Q : Value → Shared → Prop} (hu : A.units + 1 < cLine) (I : Inv X pins σ H s) (g : DGet H a y o) (ry : RelV y u) (h : ∀ s', Inv X pins σ H s' → Q (.bool o.isSome) s') :
    wpAny (model X.prog X.w) A (compareOp .In u (.ref a)) Q E s := by
  rcases g with ⟨kvs, k, e, ey, l⟩ | ⟨kvs, k, b, e, ey, eb, l⟩
  · subst ey
    obtain ⟨z, hd, vs, rel, dd⟩ := dk_rd I.hok e
    refine wpAny_in_of (kV_is ry) hd dd.mapOf ?_
    rw [← (rel.val k).isSome_eq, ← l]
    exact h _ (I.tok _)
  · subst ey
    cases (show u = Value.ref b from ry)
    obtain ⟨z, hd, xs, rel, dd⟩ := dt_rd I.hok e
    refine wpAny_in_heap (tupleKind_room_in1 hu) (key_of I.hok eb) hd dd ?_
    have q := (rel.val k).isSome_eq
    rw [Option.isSome_map] at q
    rw [← q, ← l]
    exact h _ (I.tok _)
theorem d_notIn {Q : Value → Shared → Prop} (hu : A.units + 1 < cLine) (I : Inv X pins σ H s) (g : DGet H a y o) (ry : RelV y u) (h : ∀ s', Inv X pins σ H s' → Q (.bool (!o.isSome)) s') :
    wpAny (model X.prog X.w) A (compareOp .NotIn u (.ref a)) Q E s := by
  rcases g with ⟨kvs, k, e, ey, l⟩ | ⟨kvs, k, b, e, ey, eb, l⟩
  · subst ey
    obtain ⟨z, hd, vs, rel, dd⟩ := dk_rd I.hok e
    refine wpAny_notIn_of (kV_is ry) hd dd.mapOf ?_
    rw [← (rel.val k).isSome_eq, ← l]
    exact h _ (I.tok _)
  · subst ey
    cases (show u = Value.ref b from ry)
    obtain ⟨z, hd, xs, rel, dd⟩ := dt_rd I.hok e
    refine wpAny_notIn_heap (tupleKind_room_in1 hu) (key_of I.hok eb) hd dd ?_
    have q := (rel.val k).isSome_eq
    rw [Option.isSome_map] at q
    rw [← q, ← l]
    exact h _ (I.tok _)
theorem d_write {h' : Heap} {t' : Nat} {ob : HO} (I : Inv X pins σ H s) (mu : Mut (H a)) (hs : Heap.SameBut a s.heap h') (he : ∃ q, h'.get? a = some q) (new : ObjOk X.prog X.w (upd H a ob) h' a ob) (ht : autoParam (0 < t') L2.au._auto_3) :
    Inv X pins σ (upd H a ob) { s with heap := h', toks := t' } :=
  I.write (x := a) (e := a) mu (.inl rfl) (fun b q hb z => (hs.2 b hb).trans z) he new
theorem dk_new {P : Program} {w : World} {H' : Hp} {h' : Heap} {kvs : List (Key × V)} {vs : List (Key × Value)} (z : kvs.length ≤ sizeLine) (hd : (a == sysModules) = false) (rel : KV kvs vs) (dd : h'.DictOf (mixKind P w) a vs) :
    ObjOk P w H' h' a (.dK kvs) := ⟨z, hd, vs, rel, dd⟩
theorem d_setItem {H' : Hp} {Q : Unit → Shared → Prop} (hu : A.units + 1 < cLine) (I : Inv X pins σ H s) (g : DPut H a y v H') (ry : RelV y u) (rv : RelV v r) (h : ∀ s', Inv X pins σ H' s' → Q () s') :
    wpAny (model X.prog X.w) A (setItem (.ref a) u r) Q E s := by
  rcases g with ⟨kvs, k, e, ey, l, eH⟩ | ⟨kvs, k, b, e, ey, eb, l, eH⟩
  · subst ey eH
    obtain ⟨z, hd, vs, rel, dd⟩ := dk_of I.hok e
    have hz : vs.length ≤ sizeLine := by rw [← rel.length]; exact z
    have hl : (putK kvs k v).length ≤ sizeLine := by have := length_putK kvs k v; omega
    refine wpAny_setItem_pairs (hsz := hz) (kV_is ry) dd fun h' dd' hs => h _ ?_
    have he : ∃ q, h'.get? a = some q := let ⟨q, _, _, hq, _⟩ := dd'; ⟨q, hq⟩
    exact d_write I (by rw [e]; exact True.intro) hs he (dk_new hl hd (rel.put k rv) dd')
  · subst ey eH
    cases (show u = Value.ref b from ry)
    obtain ⟨z, hd, xs, rel, dd⟩ := dt_of I.hok e
    have hz : xs.length ≤ sizeLine := by rw [← Paired.length rel]; exact z
    have hl : (putK kvs k v).length ≤ sizeLine := by have := length_putK kvs k v; omega
    refine wpAny_setItem_heap (hsz := hz) (tupleKind_room_in1 hu) (key_of I.hok eb) dd fun h' dd' hs => h _ ?_
    obtain ⟨q, es, ep, hq, h2, h3, h4, _, h5⟩ := dd'
    refine d_write I (by rw [e]; exact True.intro) hs ⟨q, hq⟩ ⟨hl, hd, _, (rel.put k eb rv).keeps fun c ys ec => ?_, q, es, ep, hq, h2, h3, h4, h5⟩
    rw [upd_ne (ne_of ec e (fun z => nomatch z))]
    exact ec
end
section
variable {X : Cx} {pins : List (Addr × Obj)} {σ : St} {H : Hp} {s : Shared} {a : Addr} {kvs : List (Key × V)} {k : Key} {u : Value} {A : Around} {E : Value → Shared → Prop}
theorem d_len {Q : Value → Shared → Prop} (I : Inv X pins σ H s) (e : Rd H a (.dK kvs)) (h : ∀ t s', Inv X pins σ H s' → Q (.int kvs.length t) s') : wpAny (model X.prog X.w) A (call (.builtin "len") [.ref a]) Q E s := by
  obtain ⟨z, hd, vs, rel, dd⟩ := dk_rd I.hok e
  refine call_len_dict hd dd (by rw [← rel.length]; rw [sizeLine_eq] at z; omega) ?_
  rw [← rel.length]
  exact h _ _ (I.tok _)
end
def NoSl (i : Expr) : Prop := ∀ ov iv, subscripted i false ov iv = operate [ov, iv] (getItem ov iv)
theorem subD_of {prog : Program} {w : World} {A : Around} {E : Value → Shared → Prop} {s : Shared} {env : Env} {value slice : Expr} {pos : Pos} {T id : String} {Q : Value → Shared → Prop}
    (hl : typeLookup (.type T) "__getitem__" = pure (some (.builtin id))) (hs : NoSl slice)
    (h : wpAny (model prog w) A (eval value env) (fun o s₁ => wpAny (model prog w) A (eval slice env) (fun i s₂ => s₂.TypeIs o T ∧ wpAny (model prog w) A (getItem o i) Q E s₂) E s₁) E s) :
    wpAny (model prog w) A (eval (.Subscript value slice pos) env) Q E s := by
  refine Subscript_ (wpAny_mono h (fun o s₁ h₁ => wpAny_mono h₁ (fun i s₂ h₂ => ?_) fun _ _ x => x) fun _ _ x => x)
  obtain ⟨hT, h₂⟩ := h₂
  unfold subscriptTail
  refine wpAny_bind ?_
  rw [getitemInPython_of_ne hT.not_modules]
  refine wpAny_bind (wpAny_specialOf hT hl ?_)
  have fin : wpAny (model prog w) A (subscripted slice false o i) (fun r s₃ => wpAny (model prog w) A (letTemporaryGo value o r >>= fun _ => pure r) Q E s₃) E s₂ := by
    rw [hs o i]
    exact wpAny_operating (wpAny_mono h₂ (fun r s₃ h₃ => wpAny_bind (wpAny_letTemporaryGo (wpAny_pure h₃))) fun _ _ x => x)
  first
    | exact wpAny_pure (wpAny_bind fin)
    | exact wpAny_bind (wpAny_pure (wpAny_bind fin))
    | exact wpAny_bind fin
theorem dict_typeIs {X : Cx} {pins : List (Addr × Obj)} {σ : St} {H : Hp} {s : Shared} {a : Addr} {y : V} {o : Option V} (I : Inv X pins σ H s) (g : DGet H a y o) : s.TypeIs (.ref a) "dict" := by
  rcases g with ⟨kvs, k, e, _, _⟩ | ⟨kvs, k, b, e, _, _, _⟩
  · obtain ⟨_, _, vs, _, dd⟩ := dk_rd I.hok e
    exact dd.typeIs
  · obtain ⟨_, _, xs, _, dd⟩ := dt_rd I.hok e
    exact dd.typeIs
def tDGet (td ty : TE) : TE := fun σ H Q => td σ H fun x H1 => ty σ H1 fun y H2 => ∃ a v, x = .ref a ∧ DGet H2 a y (some v) ∧ Q v H2
section
variable {X : Cx} {o i e value : Expr} {pos pos' tpos : Pos} {td ty tv : TE}
theorem pe_dget (hu : X.A.units + 1 < cLine) (ho : PE X o td) (hi : PE X i ty) (hs : NoSl i) : PE X (.Subscript o i pos) (tDGet td ty) := by
  intro pins s σ H Q I h
  refine subD_of PySem.F.slot_dict_getitem.lookup hs (thn (ho pins s σ H _ I h) fun u s1 ⟨x, H1, I1, rx, q1⟩ => thn (hi pins s1 σ H1 _ I1 q1) fun iv s2 ⟨y, H2, I2, ry, a, v, ex, g, q2⟩ => ?_)
  subst ex
  obtain rfl : u = Value.ref a := rx
  exact ⟨dict_typeIs I2 g, d_getItem hu I2 g ry fun w' s3 I3 rw' => ⟨v, H2, I3, rw', q2⟩⟩
end
theorem dk_empty {P : Program} {w : World} {H : Hp} (h : Heap) (hb : sysModules < h.objs.size) : ObjOk P w H (h.push { cls := .type "dict", data := .dict #[] }) h.objs.size (.dK []) :=
  ⟨Nat.zero_le _, beq_eq_false_iff_ne.mpr (Ne.symm (Nat.ne_of_lt hb)), [], .nil, Heap.DictOf.new h⟩
theorem dt_empty {P : Program} {w : World} {H : Hp} (h : Heap) (hb : sysModules < h.objs.size) : ObjOk P w H (h.push { cls := .type "dict", data := .dict #[] }) h.objs.size (.dT []) :=
  ⟨Nat.zero_le _, beq_eq_false_iff_ne.mpr (Ne.symm (Nat.ne_of_lt hb)), [], .nil, _, #[], 0, Heap.get?_push_size _ rfl, ⟨rfl, rfl, rfl⟩, rfl, rfl, List.nodup_nil⟩
def tDNewK : TE := fun _ H Q => ∀ p, H p = none → Q (.ref p) (upd H p (.dK []))
def tDNewT : TE := fun _ H Q => ∀ p, H p = none → Q (.ref p) (upd H p (.dT []))
section
variable {X : Cx} {pos : Pos}
theorem pe_dnewK : PE X (.Dict [] [] pos) tDNewK := fun pins s σ H Q I h =>
  wpAny_Dict_empty ⟨.ref s.heap.objs.size, _, I.laid (a := s.heap.objs.size) (o := .dK []) (t' := s.toks) (fun _ _ q => Heap.get?_push_of_some _ q) (Nat.le_refl _) (dk_empty s.heap I.big), rfl, h _ (I.hok.fresh (Nat.le_refl _))⟩
theorem pe_dnewT : PE X (.Dict [] [] pos) tDNewT := fun pins s σ H Q I h =>
  wpAny_Dict_empty ⟨.ref s.heap.objs.size, _, I.laid (a := s.heap.objs.size) (o := .dT []) (t' := s.toks) (fun _ _ q => Heap.get?_push_of_some _ q) (Nat.le_refl _) (dt_empty s.heap I.big), rfl, h _ (I.hok.fresh (Nat.le_refl _))⟩
end
structure M1 (X : Cx) (o : Expr) (m : Str) (apos : Pos) (e : Expr) (cpos : Pos) : Prop where
  base : attributeBase o m X.env (eval o X.env) = eval o X.env
  few : ((backTo cpos (starEach [e] X.env)).all (fun x => !x.1) && (backToKw cpos (keywordEach [] X.env)).all (fun x => x.1.isSome)
    && decide (([e] : List Expr).length + ([] : List Keyword).length + (if ([] : List Keyword).isEmpty then 0 else 1) < 30)) = true
  line : (apos.endLine == cpos.line) = true
  trees : backTo cpos (starEach [e] X.env) = [(false, eval e X.env)]
def IsD (H : Hp) (a : Addr) : Prop := (∃ kvs, Rd H a (.dK kvs)) ∨ ∃ kvs, Rd H a (.dT kvs)
theorem isD_at {X : Cx} {pins : List (Addr × Obj)} {σ : St} {H : Hp} {s : Shared} {a : Addr} (I : Inv X pins σ H s) (d : IsD H a) :
    s.TypeIs (.ref a) "dict" ∧ (∀ b, Value.ref a = .ref b → ∃ ob, s.heap.get? b = some ob ∧ ob.dict = none) ∧ (a == sysModules) = false := by
  rcases d with ⟨kvs, e⟩ | ⟨kvs, e⟩
  · obtain ⟨_, hd, vs, _, dd⟩ := dk_rd I.hok e
    refine ⟨dd.typeIs, fun b q => ?_, hd⟩
    cases q
    obtain ⟨ob, _, _, h1, h2, _⟩ := dd
    exact ⟨ob, h1, h2.2.1⟩
  · obtain ⟨_, hd, xs, _, dd⟩ := dt_rd I.hok e
    refine ⟨dd.typeIs, fun b q => ?_, hd⟩
    cases q
    obtain ⟨ob, _, _, h1, h2, _⟩ := dd
    exact ⟨ob, h1, h2.2.1⟩
section
variable {X : Cx} {pins : List (Addr × Obj)} {σ : St} {H : Hp} {s : Shared} {a : Addr} {y d : V} {u r : Value} {o : Option V} {A : Around} {E : Value → Shared → Prop}
theorem d_get1 {Q : Value → Shared → Prop} (hu : A.units + 1 < cLine) (I : Inv X pins σ H s) (g : DGet H a y o) (ry : RelV y u) (h : ∀ w' s', Inv X pins σ H s' → RelV (o.getD .non) w' → Q w' s') :
    wpAny (model X.prog X.w) A (call (.builtin "dict.get") [.ref a, u]) Q E s := by
  rcases g with ⟨kvs, k, e, ey, l⟩ | ⟨kvs, k, b, e, ey, eb, l⟩
  · subst ey
    obtain ⟨z, hd, vs, rel, dd⟩ := dk_rd I.hok e
    refine call_meetsIn PySem.F.slot_dict_get dd.typeIs PySem.F.entry_dict_get (PySem.F.args_dict_get_2 _ _) (meets_dict_get (mixKind X.prog X.w) a (kV_is ry) hd) ⟨_, dd.mapOf, h _ _ (I.tok _) ?_⟩
    rw [l]
    exact (rel.val k).getD rfl
  · subst ey
    cases (show u = Value.ref b from ry)
    obtain ⟨z, hd, xs, rel, dd⟩ := dt_rd I.hok e
    refine call_meetsIn PySem.F.slot_dict_get dd.typeIs PySem.F.entry_dict_get (PySem.F.args_dict_get_2 _ _) (meetsH_dict_get (tupleKind (mixKind X.prog X.w)) a b hd) ⟨tupleKind_room_in1 hu, k, xs, key_of I.hok eb, dd, h _ _ (I.tok _) ?_⟩
    rw [l]
    exact (rel.val k).getD rfl
end
def tDGet1 (td ty : TE) : TE := fun σ H Q => td σ H fun x H1 => ∃ a, x = .ref a ∧ IsD H1 a ∧ ty σ H1 fun y H2 => ∃ o, DGet H2 a y o ∧ Q (o.getD .non) H2
section
variable {X : Cx} {o e f : Expr} {apos cpos : Pos} {td ty tx : TE}
theorem pe_dget1 (hu : X.A.units + 1 < cLine) (ho : PE X o td) (he : PE X e ty) (m : M1 X o "get" apos e cpos) : PE X (.Call (.Attribute o "get" apos) [e] [] cpos) (tDGet1 td ty) := by
  intro pins s σ H Q I h
  refine wpAny_Call_method m.base m.few m.line PySem.F.plainAttrs_dict PySem.F.slot_dict_get PySem.F.type_dict_get (thn (ho pins s σ H _ I h) fun u s1 ⟨x, H1, I1, rx, a, ex, d, q1⟩ => ?_)
  subst ex
  obtain rfl : u = Value.ref a := rx
  obtain ⟨t1, t2, _⟩ := isD_at I1 d
  refine ⟨t1, t2, ?_⟩
  rw [m.trees]
  refine Calls.callWith_builtin rfl (Calls.evalArgs_plain (Calls.spliced_cons (thn (he pins s1 σ H1 _ I1 q1) fun iv s2 ⟨y, H2, I2, ry, ov, g, q2⟩ => Calls.spliced_nil ?_)))
  exact d_get1 hu I2 g ry fun w' s3 I3 rw' => ⟨_, H2, I3, rw', q2⟩
end
end L2
namespace Att
open PySem PySem.W PySem.Calls PyProof.Rows
theorem ints_of_wellAll {P : Params} {h : Heap} : ∀ (ns : List Int) (vs : List Value), WellAll P h vs (ns.map WData.int) → IntsAre vs ns := by
  intro ns
  induction ns with
  | nil =>
    intro vs w
    rw [List.map_nil] at w
    cases w
    exact .nil
  | cons n ns ih =>
    intro vs w
    rw [List.map_cons] at w
    cases w with
    | cons a b =>
      cases a
      exact .cons _ _ (ih _ b)
theorem script_of {l : OpenLaw} {n : Nat} (hn : l.most = some n) {P : Params} {h : Heap} {args : List WData} {vals : List Value}
    (hpre : l.row.toRowW.claim.pre args = true) (hwl : WellAll P h vals args) :
    ∃ a vs ns, vals = [Value.ref a] ∧ args = [WData.list (ns.map WData.int)] ∧ h.get? a = some { cls := .type "list", data := .seq vs.toArray } ∧ IntsAre vs ns ∧ ns.length ≤ n := by
  have hsh : WShape.hasAll [] args [.list .int] = true := (pre_splitW hpre).1
  have hc : l.pre.holds [] { args := args } = true := (pre_splitW hpre).2
  obtain ⟨d, r, rfl, h1, h2⟩ := hasAllW_cons hsh
  obtain rfl := hasAllW_nil h2
  obtain ⟨xs, rfl, h3⟩ := hasW_list h1
  obtain ⟨ns, rfl⟩ := items_int h3
  have hlen : ns.length ≤ n := by
    unfold OpenLaw.pre at hc
    have h4 : (WTm.not (.lt (.lit (.int (n : Int))) (.len (.arg 0)))).holds [] { args := [.list (ns.map .int)] } = true := by
      have h4 := (holds_andW hc).1
      rw [hn] at h4
      exact h4
    have h5 := condW_of h4 (w_not (w_lt w_lit (w_len_list (w_arg rfl))))
    rw [List.length_map] at h5
    refine Nat.le_of_not_lt fun q => ?_
    have q' : (n : Int) < ((ns.length : Nat) : Int) := by omega
    first
      | (rw [decide_eq_true q'] at h5; exact absurd h5 (by decide))
      | (simp at h5; omega)
  cases hwl with
  | cons w1 w2 =>
    cases w2
    cases w1 with
    | list ho hall => exact ⟨_, _, ns, rfl, rfl, ho, ints_of_wellAll ns _ hall, hlen⟩
theorem post_true (l : OpenLaw) (args : List WData) : l.row.toRowW.claim.post args (.bool true) args = true :=
  postW_of (r := l.row.toRowW) (X := (true == true))
    (show WShape.has [] (.bool true) .bool = true by first | rfl | decide | simp [WShape.has, WShape.arms, WShape.armsAll])
    (show (WTm.eq .res (.lit (.bool true))).value [] { args := args, res := some (.bool true), after := args } = some (.bool (true == true)) from w_eq_bool (w_res rfl) w_lit) rfl
end Att
namespace L2
open PySem PySem.Spec PyProof.Rows
theorem vals_ints : ∀ {vs : List Value} {ns : List Int}, IntsAre vs ns → Vals (ns.map V.int) vs
  | _, _, .nil => .nil
  | _, _, .cons n t h => .cons ⟨t, rfl⟩ (vals_ints h)
def Only (H : Hp) : Prop := ∀ b, H b = none ∨ ∃ o xs, H b = some (.frz o (.lst xs))
theorem law_call {P : Program} {w : World} {K : PySem.W.Frag} {mg mb : Str → Option Value} {CX : CXT} {k : Nat} {fa a : Addr} {fd : FuncData} {x : Str} {sp : Sp} {s₁ : Shared} {vs : List Value} {ns : List Int}
    (KX : K.In s₁.heap) (hns : s₁.heap.Ns mainGlobals mg) (hb : s₁.heap.Ns builtinsNs mb) (hbb : ∀ x : Str, x ≠ "__name__" → mb x = bootBuiltins x) (hlim : s₁.heap.NoLimit) (hg : s₁.gens = #[]) (htk : 0 < s₁.toks)
    (ha : s₁.heap.get? a = some { cls := .type "list", data := .seq vs.toArray }) (hi : IntsAre vs ns) (hl : ns.length ≤ sizeLine) (hr : Room k callerA)
    (F : ∀ base : Heap, K.In base → base.Ns mainGlobals mg → FnOk P w K mg base CX k fa fd [x] sp) (hbind : ∀ (s : Shared) (u : Value), BindsTo s fd ⟨[u], []⟩ [(x, u)])
    (hsp : ∀ H : Hp, Only H → SqL K H a (ns.map V.int) → sp [.ref a] H (fun v _ => v = .bl true) fun _ _ _ => False)
    (hCX : ∀ H e s', CX [] H s₁ (fun _ _ _ => False) e s' → False) :
    codeAny (model P w) callerA (.call (.ref fa) ⟨[.ref a], []⟩) (fun r s' => r = .ok (.ret (.bool true)) ∧ OldK s₁.heap s'.heap ∧ s'.os = s₁.os ∧ AllBare s'.gens) s₁ := by
  have rv := vals_ints hi
  have lenV := hi.length
  have core : ∀ H : Hp, Only H → SqL K H a (ns.map V.int) → HOk P w H s₁.heap → (∀ b, H b ≠ none → b = a) → (H a ≠ none → K.lookup a = none) →
      codeAny (model P w) callerA (.call (.ref fa) ⟨[.ref a], []⟩) (fun r s' => r = .ok (.ret (.bool true)) ∧ OldK s₁.heap s'.heap ∧ s'.os = s₁.os ∧ AllBare s'.gens) s₁ := by
    intro H hO hS hok hA hK
    have base_of : ∀ {b : Addr} {o : Obj}, s₁.heap.get? b = some o → H b = none → (hidT s₁.heap H).get? b = some o := fun e n => hidT_get e n
    have noA : ∀ {b : Addr} {o : Obj} {es : Array DictEntry} {ep : Nat}, s₁.heap.get? b = some o → o.data = .dict es ep → H b = none := fun {b o es ep} e d => by
      cases q : H b with
      | none => rfl
      | some u =>
        have e' : b = a := hA b (by rw [q]; simp)
        subst e'
        rw [ha] at e; cases e
        have d' : Data.seq vs.toArray _ = Data.dict es ep := d
        cases d'
    have nsK : ∀ {b : Addr} {m : Str → Option Value}, s₁.heap.Ns b m → (hidT s₁.heap H).Ns b m := fun {b m} ⟨o, es, ep, e, d, r⟩ => ⟨o, es, ep, base_of e (noA e d), d, r⟩
    have hKb : K.In (hidT s₁.heap H) := fun b o e => base_of (KX b o e) (by
      cases q : H b with
      | none => rfl
      | some u =>
        have e' : b = a := hA b (by rw [q]; simp)
        subst e'
        rw [hK (by rw [q]; simp)] at e; cases e)
    have hM : Mod K mg (hidT s₁.heap H) := ⟨hKb, nsK hns, ⟨mb, nsK hb, hbb⟩, let ⟨mc, h1, h2⟩ := hlim; ⟨mc, nsK h1, h2⟩⟩
    have e0 : Env0 P w K mg (hidT s₁.heap H) callerA [] s₁ H := ⟨rfl, hM, fun b o e => of_hidT e, Nat.le_of_eq (hidT_size _ _), trivial, fun b hb => absurd (show b ∈ ([] : List Addr) from hb) (by simp), hok, .of_eq hg, htk⟩
    refine codeAny_mono ((F _ hKb (nsK hns)).run callerA [] s₁ H ⟨[.ref a], []⟩ [.ref a] [.ref a] _ _ hr e0 (hbind s₁ (.ref a)) (.cons rfl .nil) (hsp H hO hS)) fun r s' h => ?_
    cases r with
    | error e => exact (hCX H e s' h).elim
    | ok fl =>
      cases fl with
      | next => exact False.elim h
      | brk => exact False.elim h
      | cont => exact False.elim h
      | ret u =>
        obtain ⟨v, H', _, os, bare, un, hok', r', q⟩ := h
        have q' : v = .bl true := q
        subst q'
        obtain rfl : u = Value.bool true := r'
        refine ⟨rfl, OldK.of_keep fun b o e => ?_, os, bare⟩
        cases q : H b with
        | none => exact un.keep b o e q (by intro z; exact absurd (show b ∈ ([] : List Addr) from z) (by simp)) (by simp)
        | some u =>
          rcases hO b with z | ⟨ob, xs, z⟩
          · rw [q] at z; cases z
          · have z2 := un.frzs b ob _ z
            obtain ⟨e1, _⟩ := hok b _ z
            obtain ⟨e2, _⟩ := hok' b _ z2
            rw [e] at e1; cases e1
            exact e2
  cases hk : K.lookup a with
  | some o =>
    have e := KX a o hk
    rw [ha] at e
    cases e
    refine core (fun _ => none) (fun _ => .inl rfl) (.inr ⟨_, vs.toArray, _, hk, rfl, rfl, rfl, by rw [List.size_toArray, lenV]; exact hl, by simpa using rv⟩) (fun b u z => by have z' : (none : Option HO) = some u := z; cases z') (fun b z => absurd rfl z) fun z => absurd rfl z
  | none =>
    refine core (fun b => if b = a then some (.frz { cls := .type "list", data := .seq vs.toArray } (.lst (ns.map V.int))) else none) (fun b => ?_) (.inl (.inr ⟨{ cls := .type "list", data := .seq vs.toArray }, if_pos rfl⟩)) (fun b u z => ?_) (fun b z => ?_) fun _ => hk
    · by_cases hb : b = a
      · exact .inr ⟨_, _, if_pos hb⟩
      · exact .inl (if_neg hb)
    · by_cases hb : b = a
      · have z' := (if_pos hb).symm.trans z
        cases z'
        subst hb
        exact ⟨ha, by rw [List.length_map]; exact hl, vs, _, rv, ha⟩
      · have z' := (if_neg hb).symm.trans z
        cases z'
    · by_cases hb : b = a
      · exact hb
      · exact absurd (if_neg hb) z
end L2
namespace L2
open PySem PySem.Spec PyProof.Rows
theorem ofPys_ints : ∀ ns : List Int, PySem.W.ofPys (ns.map PyData.int) = ns.map PySem.W.WData.int
  | [] => by simp [PySem.W.ofPys]
  | n :: ns => by simp only [List.map_cons, PySem.W.ofPys, PySem.W.ofPy]; rw [ofPys_ints ns]
theorem walk_of {l : PySem.W.OpenLaw} {n k : Nat} {q : Program} {loose : List Str} {XP : (Str → Option Value) → Heap → Prop} {as : List Addr} {z t : Nat} {d : DefRec} {K : Params → PySem.W.Frag} {CX : World → CXT} {sp : World → Sp} {x : Str}
    (hn : l.most = some n) (hn2 : n ≤ sizeLine) (hdf : d.params.defaults = []) (hr : Room k callerA) (hk : ∀ P, as = (K P).map (·.1)) (h0 : 0 < t)
    (F : ∀ (w : World) (mg : Str → Option Value) (fa : Addr) (h : Heap), (K w.params).In h → h.Ns mainGlobals mg → mg d.name = some (.ref fa) →
      ∃ fd : FuncData, (∀ (s : Shared) (u : Value), BindsTo s fd ⟨[u], []⟩ [(x, u)]) ∧
        ∀ base : Heap, (K w.params).In base → base.Ns mainGlobals mg → FnOk l.prog w (K w.params) mg base (CX w) k fa fd [x] (sp w))
    (hsp : ∀ (w : World) (H : Hp) (a : Addr) (ns : List Int), ns.length ≤ n → Only H → SqL (K w.params) H a (ns.map V.int) → sp w [.ref a] H (fun v _ => v = .bl true) fun _ _ _ => False)
    (hCX : ∀ (w : World) (H : Hp) (s : Shared) (e : Value) (s' : Shared), CX w [] H s (fun _ _ _ => False) e s' → False) :
    PySem.W.WalkX q loose XP (PySem.W.X.obsZ as) (PySem.W.X.valZ K z t) l.row.toRowW d [] (fun f vs => PySem.call f vs) := by
  intro w s₀ s₁ mg mb G y fa o pm cd doc dV kV ho hd hcd hD hmg hg args vals aa L hpre hlay hrd hwl hlo
  obtain rfl : dV = .none := PySem.W.Dflts.none hD hdf
  obtain rfl : kV = .none := PySem.W.Dflts.noKw hD
  obtain ⟨a, vs, ns, rfl, rfl, hobj, hints, hlen⟩ := Att.script_of hn hpre hwl
  obtain ⟨_, KI, _, htk⟩ := PySem.W.X.z_facts hk y
  have KX := PySem.W.InK.keeps w _ _ KI L.keeps
  have tk : 0 < s₁.toks := Nat.lt_of_lt_of_le h0 (PySem.W.X.script_toks (ns := ns) (a := a) (by rw [PySem.W.ofPy, ofPys_ints]; exact L) htk)
  obtain ⟨fd, hb, hF⟩ := F w mg fa _ KX G.T.g hmg
  refine PySem.W.enter_call (codeAny_mono (law_call KX G.T.g G.T.b G.T.builtins G.T.nolimit hg tk hobj hints (Nat.le_trans hlen hn2) hr hF hb (fun H hO hS => hsp w H a ns hlen hO hS) fun H e s' => hCX w H s₁ e s') fun r s' hq => ?_)
  obtain ⟨rfl, h2, h3, h4⟩ := hq
  exact ⟨.inl ⟨.bool true, .bool true, [], rfl, fun _ => rfl, .bool true, Att.post_true l _, fun _ => ⟨List.Pairwise.nil, fun _ hm => (nomatch hm)⟩⟩, h2, h3, h4⟩
end L2
namespace L2
open PySem PySem.Spec PyProof.Rows
noncomputable def defArgs (s : Stmt) : Arguments := match s with
  | .FunctionDef _ a _ _ _ _ _ _ _ _ => a
  | _ => { posonlyargs := [], args := [], vararg := none, kwonlyargs := [], kw_defaults := [], kwarg := none, defaults := [] }
noncomputable def defBody (s : Stmt) : List Stmt := match s with
  | .FunctionDef _ _ b _ _ _ _ _ _ _ => b
  | _ => []
noncomputable def defScope (s : Stmt) : Scope := match s with
  | .FunctionDef _ _ _ _ _ _ sc _ _ _ => sc
  | _ => { kind := .function, names := [], isGenerator := false, isCoroutine := false }
abbrev CX0 : CXT := fun _ _ _ _ _ _ => False
abbrev E0 : XK := fun _ _ _ => False
theorem pass0 {X : Cx} : Passes CX0 X E0 := fun _ _ _ _ _ _ _ h => h.elim
structure Fun (K : PySem.W.Frag) (x qual : Str) (st : Stmt) (f : Addr) (fd : FuncData) : Prop where
  ex : ∃ (oc : Value) (od : Option Addr) (kV doc pm : Value) (an : Option Addr) (cdv ct : Value) (osl : Array (Option Value)),
    fd = PySem.W.fnOf x qual (defArgs st) (defBody st) (defScope st) .none kV doc pm an cdv ct ∧ K.lookup f = some ⟨oc, od, .func fd, osl⟩ ∧ PySem.W.codeIn K cdv qual = true
  kp : PySem.W.keepIn K (.ref f) = true
section
variable {P : Program} {w : World} {K : PySem.W.Frag} {mg : Str → Option Value} {base : Heap}
theorem Fun.ok {x qual : Str} {st : Stmt} {f : Addr} {fd : FuncData} {N ps : List Str} {k : Nat} {sp : Sp} (F : Fun K x qual st f fd) (S : FnScope N ps (defScope st)) (len : ∀ vs H Q E, sp vs H Q E → vs.length = ps.length)
    (hbody : ∀ (cdv : Value) (A : Around) (outer : List Env) (s : Shared) (H : Hp) (vs : List V) (Q : VK) (E : XK), Room k (A.deeper (envOfC qual (defScope st) s.heap.objs.size f cdv)) → sp vs H Q E →
      ∃ t, PSs (cxOf CX0 P w K mg base N qual (defScope st) f cdv A outer s H E).nox (defBody st) t ∧ t { nx := fun _ H' => Q .non H', rt := Q } (start N vs) H) : FnOk P w K mg base CX0 (k + 1) f fd ps sp := by
  obtain ⟨oc, od, kV, doc, pm, an, cdv, ct, osl, rfl, lk, hcd⟩ := F.ex
  refine fn_of lk hcd S len fun A outer s H vs Q E hr hsp => ?_
  obtain ⟨t, h, q⟩ := hbody cdv A outer s H vs Q E hr hsp
  exact ⟨t, h.nox, q⟩
theorem Fun.binds {x qual : Str} {st : Stmt} {f : Addr} {fd : FuncData} {ps : List Str} (F : Fun K x qual st f fd)
    (h : ∀ (kV doc pm : Value) (an : Option Addr) (cdv ct : Value) (us : List Value), us.length = ps.length → bindArgs (PySem.W.fnOf x qual (defArgs st) (defBody st) (defScope st) .none kV doc pm an cdv ct) ⟨us, []⟩ = pure (ps.zip us)) : Binds K fd ps [] := by
  obtain ⟨oc, od, kV, doc, pm, an, cdv, ct, osl, rfl, lk, hcd⟩ := F.ex
  exact .all (h kV doc pm an cdv ct)
theorem fun_mk {x qual : Str} {st : Stmt} {f : Addr} {oc : Value} {od an : Option Addr} {osl : Array (Option Value)} {kV doc pm cdv ct : Value} (l : K.lookup f = some ⟨oc, od, .func (PySem.W.fnOf x qual (defArgs st) (defBody st) (defScope st) .none kV doc pm an cdv ct), osl⟩)
    (c : PySem.W.codeIn K cdv qual = true) (k : PySem.W.keepIn K (.ref f) = true) : Fun K x qual st f (PySem.W.fnOf x qual (defArgs st) (defBody st) (defScope st) .none kV doc pm an cdv ct) := ⟨⟨oc, od, kV, doc, pm, an, cdv, ct, osl, rfl, l, c⟩, k⟩
end
theorem hu_of {A : Around} {k : Nat} (hr : Room k A) : A.units + 1 < cLine := Nat.lt_of_le_of_lt (Nat.add_le_add_left (by decide : 1 ≤ 64) _) hr.units
section
variable {X : Cx}
theorem pv (i : Nat) {x : Str} {pos : Pos} (hN : autoParam (X.N[i]? = some x) L2.au._auto_1) (hv : Vis X.env.scope x := by first | exact Or.inl rfl | exact Or.inr (Or.inl rfl) | exact Or.inr (Or.inr rfl)) (hd : autoParam ((x == ("__debug__" : Str)) = false) L2.au._auto_2)
    (hcd : autoParam ((x == ("__classdict__" : Str)) = false) L2.au._auto_2) : PE X (.Name x pos) (tVar i) := pe_var hN hv hd hcd
end
theorem iteF {A B : Prop} (h : B) : if false = true then A else B := by
  rw [if_neg Bool.false_ne_true]
  exact h
theorem iteT {A B : Prop} (h : A) : if true = true then A else B := by
  rw [if_pos rfl]
  exact h
def Same (H H' : Hp) : Prop := ∀ b o, H b = some o → H' b = some o
theorem Same.refl (H : Hp) : Same H H := fun _ _ h => h
theorem Same.seq {K : PySem.W.Frag} {H H' : Hp} {a : Addr} {xs : List V} (e : Same H H') (h : SqL K H a xs) : SqL K H' a xs := by
  rcases h with (h | ⟨o, h⟩) | h
  · exact .inl (.inl (e _ _ h))
  · exact .inl (.inr ⟨o, e _ _ h⟩)
  · exact .inr h
section
variable {X : Cx}
theorem call_lenD : CallR X (.builtin "len") (fun xs H Q => ∃ a kvs, xs = [V.ref a] ∧ H a = some (.dK kvs) ∧ Q (.int kvs.length) H) := by
  intro pins s σ H xs us Q I r h
  obtain ⟨a, kvs, rfl, ha, q⟩ := h
  obtain ⟨u, rfl, ru⟩ := vals1 r
  cases ru
  exact d_len I (.inl ha) fun t s' I' => ⟨.int kvs.length, H, I', ⟨t, rfl⟩, q⟩
end
end L2
namespace L2
open PySem PySem.Spec PyProof.Rows
theorem noE {α : Type} {t : Sem α} {Q : α → Shared → Prop} {M : Model} {A : Around} {E : Value → Shared → Prop} {s : Shared} (h : wpAny M A t Q (fun _ _ => False) s) : wpAny M A t Q E s :=
  wpAny_mono h (fun _ _ q => q) fun _ _ z => False.elim z
theorem closure_ex {env : Env} : ∀ (names : List (Str × NameKind)) (acc : List (Str × Addr)), (∀ y ∈ names, y.2 = .free → ∃ c, env.cells.lookup y.1 = some c) → (∀ x c, acc.lookup x = some c → env.cells.lookup x = some c) →
    ∃ cl, (forIn names acc fun (x : Str × NameKind) (r : List (Str × Addr)) =>
        (if (x.2 == .free) = true then (do let a ← cellOf env x.1; pure (ForInStep.yield ((x.1, a) :: r))) else pure (ForInStep.yield r) : Sem (ForInStep (List (Str × Addr))))) = (pure cl : Sem (List (Str × Addr))) ∧
      (∀ x c, cl.lookup x = some c → env.cells.lookup x = some c) ∧ (∀ x, (∃ c, acc.lookup x = some c) → ∃ c, cl.lookup x = some c) ∧ ∀ y ∈ names, y.2 = .free → ∃ c, cl.lookup y.1 = some c
  | [], acc, _, h2 => ⟨acc, by rw [List.forIn_nil], h2, fun _ h => h, fun _ h => by cases h⟩
  | (n, k) :: r, acc, h1, h2 => by
    by_cases hk : k = .free
    · subst hk
      obtain ⟨c, hc⟩ := h1 (n, .free) List.mem_cons_self rfl
      obtain ⟨cl, e, q1, q2, q3⟩ := closure_ex r ((n, c) :: acc) (fun y hy => h1 y (List.mem_cons_of_mem _ hy)) (fun x d hd => by
        rw [List.lookup_cons] at hd
        cases hx : x == n with
        | true => rw [hx] at hd; cases hd; rw [beq_iff_eq.mp hx]; exact hc
        | false => rw [hx] at hd; exact h2 x d hd)
      refine ⟨cl, ?_, q1, fun x hx => q2 x ?_, fun y hy hf => ?_⟩
      · rw [List.forIn_cons]
        have e0 : cellOf env n = pure c := by unfold cellOf; rw [hc]
        simp only [beq_self_eq_true, if_true, e0]
        exact e
      · rw [List.lookup_cons]
        cases x == n with
        | true => exact ⟨c, rfl⟩
        | false => exact hx
      · rcases List.mem_cons.mp hy with rfl | hy
        · exact q2 n ⟨c, by rw [List.lookup_cons]; simp⟩
        · exact q3 y hy hf
    · obtain ⟨cl, e, q1, q2, q3⟩ := closure_ex r acc (fun y hy => h1 y (List.mem_cons_of_mem _ hy)) h2
      refine ⟨cl, ?_, q1, q2, fun y hy hf => ?_⟩
      · rw [List.forIn_cons]
        have hb : (k == NameKind.free) = false := by simpa using hk
        simp only [hb, Bool.false_eq_true, if_false]
        exact e
      · rcases List.mem_cons.mp hy with rfl | hy
        · exact absurd hf hk
        · exact q3 y hy hf
theorem closureFor_ex {env : Env} {scope : Scope} (h : ∀ y ∈ scope.names, y.2 = .free → ∃ c, env.cells.lookup y.1 = some c) :
    ∃ cl, closureFor scope env = pure cl ∧ (∀ x c, cl.lookup x = some c → env.cells.lookup x = some c) ∧ ∀ y ∈ scope.names, y.2 = .free → ∃ c, cl.lookup y.1 = some c := by
  obtain ⟨cl, e, q1, _, q3⟩ := closure_ex (env := env) scope.names [] h (fun x c hc => by simp at hc)
  refine ⟨cl, ?_, q1, q3⟩
  unfold closureFor
  simp only []
  rw [show (forIn scope.names ([] : List (Str × Addr)) fun (x : Str × NameKind) (r : List (Str × Addr)) =>
        (match x with | (name, kind) => if (kind == .free) = true then (do let a ← cellOf env name; pure (ForInStep.yield ((name, a) :: r))) else pure (ForInStep.yield r) : Sem (ForInStep (List (Str × Addr))))) = (pure cl : Sem (List (Str × Addr))) from e]
  rfl
theorem lookup_relabel_free {env : Env} : ∀ {names : List (Str × NameKind)} {x : Str}, names.lookup x = some .free →
    (names.map fun (n, k) => if (k == NameKind.free && env.scope.kind == .function && env.kindOf n == some .cell) then (n, NameKind.cell) else (n, k)).lookup x = some .cell ∨
    (names.map fun (n, k) => if (k == NameKind.free && env.scope.kind == .function && env.kindOf n == some .cell) then (n, NameKind.cell) else (n, k)).lookup x = some .free
  | [], _, h => by simp at h
  | (n, k) :: r, x, h => by
    have ih := @lookup_relabel_free env r x
    show List.lookup x ((if (k == NameKind.free && env.scope.kind == .function && env.kindOf n == some .cell) = true then (n, NameKind.cell) else (n, k)) :: _) = _ ∨ List.lookup x ((if (k == NameKind.free && env.scope.kind == .function && env.kindOf n == some .cell) = true then (n, NameKind.cell) else (n, k)) :: _) = _
    cases hx : x == n with
    | true =>
      simp only [List.lookup_cons, hx] at h
      cases h
      by_cases hc : (NameKind.free == NameKind.free && env.scope.kind == .function && env.kindOf n == some .cell) = true
      · rw [if_pos hc]; exact .inl (by simp only [List.lookup_cons, hx])
      · rw [if_neg hc]; exact .inr (by simp only [List.lookup_cons, hx])
    | false =>
      simp only [List.lookup_cons, hx] at h
      by_cases hc : (k == NameKind.free && env.scope.kind == .function && env.kindOf n == some .cell) = true
      · rw [if_pos hc]; simp only [List.lookup_cons, hx]; exact ih h
      · rw [if_neg hc]; simp only [List.lookup_cons, hx]; exact ih h
theorem lookup_relabel_back {env : Env} : ∀ {names : List (Str × NameKind)} {x : Str} {k : NameKind},
    (names.map fun (n, k) => if (k == NameKind.free && env.scope.kind == .function && env.kindOf n == some .cell) then (n, NameKind.cell) else (n, k)).lookup x = some k →
    names.lookup x = some k ∨ (k = .cell ∧ names.lookup x = some .free)
  | [], _, _, h => by simp at h
  | (n, j) :: r, x, k, h => by
    have ih := @lookup_relabel_back env r x k
    have h : List.lookup x ((if (j == NameKind.free && env.scope.kind == .function && env.kindOf n == some .cell) = true then (n, NameKind.cell) else (n, j)) :: _) = some k := h
    by_cases hc : (j == NameKind.free && env.scope.kind == .function && env.kindOf n == some .cell) = true
    · rw [if_pos hc] at h
      cases hx : x == n with
      | true =>
        simp only [List.lookup_cons, hx] at h ⊢
        cases h
        have : j = .free := by
          cases j <;> simp at hc ⊢
        exact .inr ⟨rfl, by rw [this]⟩
      | false => simp only [List.lookup_cons, hx] at h ⊢; exact ih h
    · rw [if_neg hc] at h
      cases hx : x == n with
      | true => simp only [List.lookup_cons, hx] at h ⊢; exact .inl h
      | false => simp only [List.lookup_cons, hx] at h ⊢; exact ih h
theorem codeAny_compLoop_gen {prog : Program} {w : World} {A : Around} {R : Result → Shared → Prop} {s : Shared} {elt target iter : Expr} {ifs : List Expr} {scope : Scope} {pos : Pos} {it acc : Value} {env : Env} (I : Nat → Shared → Prop)
    (turn : ∀ n s, I n s → wpAny (model prog w) A (pyNext it) (fun r s₁ => match r with
      | none => R (.ok .next) s₁
      | some v => wpAny (model prog w) A (letOwnedTupleGo target it v) (fun _ s₁' => wpAny (model prog w) A (assign target env v) (fun _ s₂ =>
          wpAny (model prog w) A (forIn ifs true fun c r => if r = true then do let ok ← isTrue c env (eval c env); pure (ForInStep.yield ok) else pure (ForInStep.yield r)) (fun ok s₃ =>
            if ok = true then wpAny (model prog w) A (eval elt env) (fun x s₄ =>
              wpAny (model prog w) A (call (.builtin "list.append") [acc, x]) (fun _ s₅ => ∃ m, m < n ∧ I m s₅) (notedBy (model prog w) A env fun e s' => R (.error e) s') s₄) (notedBy (model prog w) A env fun e s' => R (.error e) s') s₃
            else ∃ m, m < n ∧ I m s₃) (notedBy (model prog w) A env fun e s' => R (.error e) s') s₂) (notedBy (model prog w) A env fun e s' => R (.error e) s') s₁') (notedBy (model prog w) A env fun e s' => R (.error e) s') s₁)
      (notedBy (model prog w) A env fun e s' => R (.error e) s') s)
    (n : Nat) (h : I n s) :
    codeAny (model prog w) A (.compLoop (.ListComp elt [⟨target, iter, ifs, 0⟩] scope pos) 0 it acc env) R s := by
  refine codeAny_loop rfl I (fun n s hI => ?_) n h
  show wpAny _ A ((compTurn (.ListComp elt [⟨target, iter, ifs, 0⟩] scope pos) 0 it acc env).onRaise (fun x => do noteFrame x env; theTreesLotGoes x)) _ _ s
  refine wpAny_noted ?_
  rw [compTurn_list]
  refine wpAny_bind (wpAny_standAt (wpAny_bind (wpAny_mono (turn n s hI) (fun r s₁ h₁ => ?_) fun _ _ h' => h')))
  cases r with
  | none => exact wpAny_pure h₁
  | some v =>
    refine wpAny_bind (wpAny_mono h₁ (fun _ s₁' h₁' => ?_) fun _ _ h' => h')
    refine wpAny_bind (wpAny_mono h₁' (fun _ s₂ h₂ => wpAny_bind (wpAny_mono h₂ (fun ok s₃ h₃ => ?_) fun _ _ h' => h')) fun _ _ h' => h')
    cases ok with
    | false => exact wpAny_pure ⟨rfl, h₃⟩
    | true =>
      exact wpAny_bind (wpAny_bind (wpAny_mono h₃ (fun x s₄ h₄ => wpAny_bind (wpAny_mono h₄ (fun _ s₅ h₅ => wpAny_pure (wpAny_pure ⟨rfl, h₅⟩)) fun _ _ h' => h')) fun _ _ h' => h'))
noncomputable def blk (X : Cx) (N : List Str) (scope : Scope) (cl : List (Str × Addr)) (C : Addr) (s₂ : Shared) (H₂ : Hp) (fp : List Addr) (pn : List (Addr × Obj)) : Cx :=
  { X with N := N, s₀ := s₂, H₀ := H₂, env := compEnvC scope cl C X.env, outer := X.stack, stack := X.stack, ex := fp, fn := fun _ => false, pn := pn, xe := fun _ _ => False }
noncomputable def grab (fr : List (Option Nat)) (σ : St) : St := fr.map fun o => match o with | some i => (σ[i]?).join | none => none
theorem grab_get {fr : List (Option Nat)} {σ : St} {j : Nat} {v : V} (h : (grab fr σ)[j]? = some (some v)) : ∃ i, fr[j]? = some (some i) ∧ σ[i]? = some (some v) := by
  unfold grab at h
  rw [List.getElem?_map] at h
  cases e : fr[j]? with
  | none => rw [e] at h; cases h
  | some o =>
    rw [e] at h
    cases o with
    | none => cases h
    | some i =>
      refine ⟨i, rfl, ?_⟩
      have h' : (σ[i]?).join = some v := Option.some.inj h
      cases e2 : σ[i]? with
      | none => rw [e2] at h'; cases h'
      | some x => rw [e2] at h'; cases x with
        | none => cases h'
        | some y => cases h'; rfl
def TgOk (fr : List (Option Nat)) (g : TG) : Prop := ∀ (x : V) (σ : St) (H : Hp) (Q : St → Hp → Prop), g x σ H Q → g x σ H fun σ2 H2 => Q σ2 H2 ∧ ∀ (j i : Nat), fr[j]? = some (some i) → σ2[j]? = σ[j]?
def TgsOk (fr : List (Option Nat)) (g : TGs) : Prop := ∀ (xs : List V) (σ : St) (H : Hp) (Q : St → Hp → Prop), g xs σ H Q → g xs σ H fun σ2 H2 => Q σ2 H2 ∧ ∀ (j i : Nat), fr[j]? = some (some i) → σ2[j]? = σ[j]?
theorem tg_name {fr : List (Option Nat)} {i : Nat} (h : autoParam (fr[i]? = some none) L2.au._auto_1) : TgOk fr (gName i) := fun x σ H Q q => ⟨q, fun j k hj => by
  have : i ≠ j := by rintro rfl; rw [h] at hj; cases hj
  rw [List.getElem?_set_ne this]⟩
theorem tg_nil {fr : List (Option Nat)} : TgsOk fr gNil := fun xs σ H Q ⟨e, q⟩ => ⟨e, q, fun _ _ _ => rfl⟩
theorem tg_cons {fr : List (Option Nat)} {i : Nat} {u : TGs} (h : fr[i]? = some none) (hu : TgsOk fr u) : TgsOk fr (gCons (gName i) u) := fun xs σ H Q ⟨v, r, e, q⟩ => by
  refine ⟨v, r, e, ?_⟩
  have q : u r (σ.set i (some v)) H Q := q
  have e2 := hu _ _ _ _ q
  have k : ∀ j k, fr[j]? = some (some k) → (σ.set i (some v))[j]? = σ[j]? := fun j k hj => by
    have : i ≠ j := by rintro rfl; rw [h] at hj; cases hj
    rw [List.getElem?_set_ne this]
  have e3 : (fun (σ2 : St) (H2 : Hp) => Q σ2 H2 ∧ ∀ (j k : Nat), fr[j]? = some (some k) → σ2[j]? = σ[j]?) = (fun (σ2 : St) (H2 : Hp) => Q σ2 H2 ∧ ∀ (j k : Nat), fr[j]? = some (some k) → σ2[j]? = (σ.set i (some v))[j]?) := by
    funext σ2 H2
    refine propext ⟨fun ⟨a, b⟩ => ⟨a, fun j m hj => (b j m hj).trans (k j m hj).symm⟩, fun ⟨a, b⟩ => ⟨a, fun j m hj => (b j m hj).trans (k j m hj)⟩⟩
  show u r (σ.set i (some v)) H _
  rw [e3]
  exact e2
theorem tg_tup {fr : List (Option Nat)} {K : PySem.W.Frag} {n : Nat} {u : TGs} (hu : TgsOk fr u) : TgOk fr (gTup K n u) := fun x σ H Q ⟨a, xs, e1, e2, e3, q⟩ => ⟨a, xs, e1, e2, e3, hu _ _ _ _ q⟩
def PTs (X : Cx) (ifs : List Expr) (t : TT) : Prop :=
  ∀ (pins : List (Addr × Obj)) (s : Shared) (σ : St) (H : Hp) (Q : Bool → Hp → Prop), Inv X pins σ H s → t σ H Q →
    wpAny (model X.prog X.w) X.A (forIn ifs true fun c r => if r = true then do let ok ← isTrue c X.env (eval c X.env); pure (ForInStep.yield ok) else pure (ForInStep.yield r)) (TP X pins σ Q) X.xe s
def tTT : TT := fun _ H Q => Q true H
theorem pts_nil {X : Cx} : PTs X [] tTT := fun _ _ _ H _ I h => wpAny_tests_nil ⟨H, I, h⟩
theorem pts_one {X : Cx} {c : Expr} {t : TT} (h : PT X c t) : PTs X [c] t := fun pins s σ H Q I hq => wpAny_tests_one (h pins s σ H Q I hq)
structure CompScope (X : Cx) (scope : Scope) (N : List Str) (fr : List (Option Nat)) : Prop where
  kind : scope.kind = .function
  nocell : ∀ y ∈ scope.names, y.2 ≠ .cell
  names : ∀ y ∈ scope.names, y.2 = .local → scope.names.lookup y.1 = some .local
  free : ∀ y ∈ scope.names, y.2 = .free → X.env.scope.names.lookup y.1 = some .cell ∨ X.env.scope.names.lookup y.1 = some .free
  len : N.length = fr.length
  at_ : ∀ (j i : Nat) (x : Str), fr[j]? = some (some i) → N[j]? = some x → X.N[i]? = some x ∧ scope.names.lookup x = some .free
noncomputable def compChk (osc : Scope) (ON : List Str) (scope : Scope) (N : List Str) (fr : List (Option Nat)) : Bool :=
  decide (scope.kind = .function) && scope.names.all (fun y => decide (y.2 ≠ .cell)) && scope.names.all (fun y => decide (y.2 ≠ .local) || decide (scope.names.lookup y.1 = some .local)) &&
  scope.names.all (fun y => decide (y.2 ≠ .free) || decide (osc.names.lookup y.1 = some .cell) || decide (osc.names.lookup y.1 = some .free)) && decide (N.length = fr.length) &&
  (fr.zip N).all (fun p => match p.1 with | some i => decide (ON[i]? = some p.2) && decide (scope.names.lookup p.2 = some .free) | none => true)
theorem comp_scope {X : Cx} {osc : Scope} {ON : List Str} {scope : Scope} {N : List Str} {fr : List (Option Nat)} (h : compChk osc ON scope N fr = true) (e1 : X.env.scope = osc) (e2 : X.N = ON) : CompScope X scope N fr := by
  subst e1 e2
  unfold compChk at h
  simp only [Bool.and_eq_true, List.all_eq_true, Bool.or_eq_true, decide_eq_true_eq] at h
  obtain ⟨⟨⟨⟨⟨h1, h2⟩, h3⟩, h4⟩, h5⟩, h6⟩ := h
  refine ⟨h1, h2, fun y hy e => (h3 y hy).resolve_left fun z => z e, fun y hy e => ?_, h5, fun j i x e1 e2 => ?_⟩
  · rcases h4 y hy with (z | z) | z
    · exact absurd e z
    · exact .inl z
    · exact .inr z
  · have hm : (some i, x) ∈ fr.zip N := by
      apply List.mem_of_getElem? (i := j)
      rw [List.getElem?_zip_eq_some]
      exact ⟨e1, e2⟩
    have := h6 _ hm
    simpa using this
def tComp (fr : List (Option Nat)) (wi : TI) (g : TG) (tt : TT) (te : TE) : TE := fun σ H Q => wi σ H fun J H1 =>
  ∃ W : Nat → Nat → List V → Hp → Prop, (∃ m, W 0 m [] H1) ∧ ∀ i m ys H, W i m ys H → ys.length ≤ sizeLine ∧
    ((J.stop i H ∧ ∀ p, H p = none → Q (.ref p) (upd H p (.lst ys))) ∨
     (J.go i H ∧ ∃ NN : List V → Hp → Prop, (∀ ys' H', NN ys' H' → ∃ m', m' < m ∧ W (i + 1) m' ys' H') ∧ ∀ x H', J.yld i H x H' → g x (grab fr σ) H' fun σ2 H2 => tt σ2 H2 fun b H3 =>
        if b = true then te σ2 H3 fun y H4 => NN (ys ++ [y]) H4 else NN ys H3))
structure BlkEnd (X : Cx) (pins : List (Addr × Obj)) (σ : St) (Q : VK) (C D : Addr) (s' : Shared) : Prop where
  ex : ∃ (ys : List V) (H : Hp), H D = none ∧ (∃ m, s'.heap.Ns C m) ∧ D ≠ C ∧ C ≠ X.env.locals ∧ (∀ x c, X.env.cells.lookup x = some c → c ≠ C) ∧ (∀ p ∈ X.pn ++ pins, p.1 ≠ C) ∧ X.s₀.heap.objs.size ≤ C ∧ C ∉ X.fs ∧
    (upd H D (.lst ys)) C = none ∧
    (∀ h', Heap.SameBut C s'.heap h' → Inv X pins σ (upd H D (.lst ys)) { s' with heap := h' }) ∧ Q (.ref D) (upd H D (.lst ys))
theorem comp_block {X : Cx} {elt iter tg : Expr} {ifs : List Expr} {scope : Scope} {pos : Pos} {N : List Str} {fr : List (Option Nat)} {g : TG} {tt : TT} {te : TE} {cl : List (Str × Addr)}
    (hcalm : X.calm = true) (S : CompScope X scope N fr) (hclS : ∀ x c, cl.lookup x = some c → X.env.cells.lookup x = some c) (hclH : ∀ y ∈ scope.names, y.2 = .free → ∃ c, cl.lookup y.1 = some c)
    (hg : ∀ C s₂ H₂ fp pn, PG (blk X N scope cl C s₂ H₂ fp pn) tg g) (hgo : TgOk fr g) (ht : ∀ C s₂ H₂ fp pn, PTs (blk X N scope cl C s₂ H₂ fp pn) ifs tt) (he : ∀ C s₂ H₂ fp pn, PE (blk X N scope cl C s₂ H₂ fp pn) elt te)
    {pins : List (Addr × Obj)} {s2 : Shared} {σ : St} {H2 : Hp} {Q : VK} {it : Addr} {fp : List Addr} {tn : Nat → Heap → Prop} {J : It} (I2 : Inv X pins σ H2 s2) (T : Turn X.prog X.w X.K tg J fp it tn) (st2 : tn 0 s2.heap) (f2 : ∀ b ∈ fp, FpOk X pins H2 b)
    (W : Nat → Nat → List V → Hp → Prop) (w0 : ∃ m, W 0 m [] H2)
    (turn : ∀ i m ys H, W i m ys H → ys.length ≤ sizeLine ∧
    ((J.stop i H ∧ ∀ p, H p = none → Q (.ref p) (upd H p (.lst ys))) ∨
     (J.go i H ∧ ∃ NN : List V → Hp → Prop, (∀ ys' H', NN ys' H' → ∃ m', m' < m ∧ W (i + 1) m' ys' H') ∧ ∀ x H', J.yld i H x H' → g x (grab fr σ) H' fun σ2 H2 => tt σ2 H2 fun b H3 =>
        if b = true then te σ2 H3 fun y H4 => NN (ys ++ [y]) H4 else NN ys H3)))
    {E : Value → Shared → Prop} {RR : Value → Addr → Result → Shared → Prop} (hRR : ∀ C D s', BlkEnd X pins σ Q C D s' → RR (.ref D) C (.ok .next) s') :
    wpAny (model X.prog X.w) X.A (newList []) (fun acc s₃ => wpAny (model X.prog X.w) X.A (newFunctionEnv scope X.env.globals cl [] X.env.qual none .none (some X.env)) (fun cenv s₄ =>
      codeAny (model X.prog X.w) X.A (.compStart (.ListComp elt [⟨tg, iter, ifs, 0⟩] scope pos) 0 (.ref it) acc { cenv with scope := relabel scope X.env }) (RR acc cenv.locals) s₄) E s₃) E s2 := by
  obtain ⟨m0, w0⟩ := w0
  refine wpAny_newObj_type (wpAny_newFunctionEnv S.nocell (by intro y hy; simp at hy) (fun h₁ hns₁ hsb₁ => ?_) S.kind)
  dsimp only at hns₁ hsb₁ ⊢
  generalize hHH : s2.heap.push { cls := .type "list", dict := none, data := .seq ([] : List Value).toArray } = HH at hns₁ hsb₁ ⊢
  have hC : HH.objs.size = s2.heap.objs.size + 1 := by rw [← hHH, Heap.size_push]
  generalize hDD : s2.heap.objs.size = D at *
  generalize hCC : HH.objs.size = C at *
  have hDlt : Nat.lt D C := by show D < C; rw [hC]; exact Nat.lt_succ_self _
  have hDC : D ≠ C := Nat.ne_of_lt hDlt
  have neD : ∀ {b : Addr}, Nat.lt b D → b ≠ D := fun h => Nat.ne_of_lt h
  have neC : ∀ {b : Addr}, Nat.lt b D → b ≠ C := fun h => Nat.ne_of_lt (Nat.lt_trans h hDlt)
  have below : ∀ (b : Addr) (o : Obj), s2.heap.get? b = some o → Nat.lt b D := fun b o e => by rw [← hDD]; exact Heap.lt_size e
  have old : ∀ b o, s2.heap.get? b = some o → h₁.get? b = some o := fun b o e => hsb₁.extBut b o (neC (below b o e)) (Heap.get?_push_of_some _ (hHH ▸ Heap.get?_push_of_some _ e))
  have hacc : h₁.get? D = some { cls := .type "list", data := .seq ([] : List Value).toArray } := hsb₁.extBut _ _ hDC (Heap.get?_push_of_some _ (by rw [← hHH, ← hDD]; exact Heap.get?_push_size _ rfl))
  have Lt : Nat.lt X.env.locals D := by rw [← hDD]; exact I2.lt
  have cellLt : ∀ x c, X.env.cells.lookup x = some c → Nat.lt c D := fun x c e => by
    obtain ⟨v, q⟩ := I2.cell x c e
    rw [← hDD]; exact q.lt
  have pinLt : ∀ p ∈ X.pn ++ pins, Nat.lt p.1 D := fun p hp => below p.1 p.2 (I2.pin p hp).1
  have freshH : ∀ b : Addr, Nat.le D b → H2 b = none := fun b hb => I2.hok.fresh (by rw [hDD]; exact hb)
  let X' : Cx := blk X N scope cl C s2 H2 fp (X.pn ++ pins)
  have okX : X'.Ok := by
    refine ⟨I2.ok.mod, S.kind, I2.ok.glob, I2.ok.blt, by show s2.heap.objs.size ≤ C; rw [hDD]; exact Nat.le_of_lt hDlt, fun x y c e1 e2 => I2.ok.inj x y c (hclS _ _ e1) (hclS _ _ e2), fun x hx => ?_, fun x c hf _ => (by cases hf), I2.ok.hd, I2.ok.frames, .inl rfl, fun b hb => ⟨?_, fun x c e => (f2 b hb).2.2.2.2.1 x c (hclS _ _ e)⟩, I2.bs, Nat.le_trans I2.ok.bsz I2.sz, fun b o e hb => ?_, fun b hb hm => ?_, I2.stack, I2.stkFree⟩
    · have hx : (relabel scope X.env).names.lookup x = some .cell ∨ (relabel scope X.env).names.lookup x = some .free := hx
      have hf : scope.names.lookup x = some .free := by
        rcases hx with hx | hx
        · rcases lookup_relabel_back hx with h | ⟨_, h⟩
          · exact absurd rfl (S.nocell _ (PySem.mem_of_lookup h))
          · exact h
        · rcases lookup_relabel_back hx with h | ⟨h, _⟩
          · exact h
          · cases h
      exact hclH _ (PySem.mem_of_lookup hf) rfl
    · obtain ⟨o, e, _⟩ := T.obj 0 _ st2 b hb
      exact neC (below b o e)
    · obtain ⟨_, _, _, h, _⟩ := f2 b hb
      rcases h with h | h
      · exact I2.ok.noex b o e h
      · have := Heap.lt_size (I2.ok.bs b o e).1
        exact absurd (Nat.lt_of_lt_of_le this h) (Nat.lt_irrefl _)
    · rcases List.mem_cons.mp (I2.stkSub b hm) with h | h
      · exact (f2 b hb).2.1 h
      · exact (f2 b hb).2.2.1 h
  have I4 : ∀ tk, 0 < tk → Inv X' [(D, { cls := .type "list", data := .seq ([] : List Value).toArray })] (grab fr σ) H2 { s2 with heap := h₁, toks := tk } := fun tk htk => by
    refine ⟨okX, rfl, I2.bare, Un.kept old, ⟨_, hns₁, fun j x v e1 e2 e3 => ?_⟩, fun x c e => ?_, freshH C (Nat.le_of_lt hDlt), fun x c e => I2.freeC x c (hclS _ _ e), fun p hp => ?_, I2.hok.kept old, ?_, htk⟩
    · obtain ⟨i, q1, q2⟩ := grab_get e2
      obtain ⟨a1, a2⟩ := S.at_ j i x q1 e1
      obtain ⟨m, hn, hl⟩ := I2.loc
      have vis : Vis X.env.scope x := by
        rcases S.free _ (PySem.mem_of_lookup a2) rfl with h | h
        · exact .inr (.inl h)
        · exact .inr (.inr h)
      obtain ⟨u, r, l⟩ := hl i x v a1 q2 vis
      refine ⟨u, r, .inr ⟨?_, ?_⟩⟩
      · exact lookup_relabel_free (env := X.env) a2
      · rcases l with ⟨hk, _⟩ | ⟨_, c, hc, hcell⟩
        · have hk : X.env.scope.names.lookup x = some .local := hk
          rcases S.free _ (PySem.mem_of_lookup a2) rfl with h | h
          · have h : X.env.scope.names.lookup x = some .cell := h
            rw [hk] at h; cases h
          · have h : X.env.scope.names.lookup x = some .free := h
            rw [hk] at h; cases h
        · obtain ⟨c', hc'⟩ := hclH _ (PySem.mem_of_lookup a2) rfl
          have : c = c' := by
            have := hclS _ _ hc'
            rw [hc] at this
            exact Option.some.inj this
          subst this
          obtain ⟨o, ho, hd⟩ := hcell
          exact ⟨c, hc', o, old c o ho, hd⟩
    · obtain ⟨v, o, ho, hd⟩ := I2.cell x c (hclS _ _ e)
      exact ⟨v, o, old c o ho, hd⟩
    · rcases List.mem_append.mp hp with hp | hp
      · obtain ⟨e, n, ne, nf, d⟩ := I2.pin p hp
        refine ⟨old _ _ e, n, ?_, fun hm => ?_, d⟩
        · exact neC (pinLt p hp)
        · rcases List.mem_cons.mp (I2.stkSub _ hm) with h | h
          · exact ne h
          · exact nf h
      · have hp : p = (D, { cls := .type "list", data := .seq ([] : List Value).toArray }) := by simpa using hp
        subst hp
        refine ⟨hacc, freshH D (Nat.le_refl _), hDC, fun hm => ?_, fun v z => by cases z⟩
        rcases List.mem_cons.mp (I2.stkSub _ hm) with h | h
        · exact neD Lt h.symm
        · exact I2.nofs (by rw [hDD]; exact Nat.le_refl _) h
    · show (grab fr σ).length = N.length
      unfold grab
      rw [List.length_map, S.len]
  have fpLt : ∀ b ∈ fp, Nat.lt b D := fun b hb => by
    obtain ⟨o, e, _⟩ := T.obj 0 _ st2 b hb
    exact below b o e
  have fpk : ∀ {H : Hp} {oD : Obj}, (∀ b ∈ fp, H b = none) → ∀ b ∈ fp, FpOk X' [(D, oD)] H b := fun {H oD} hn b hb => by
    refine ⟨hn b hb, ?_, fun hm => ?_, .inl hb, fun x c e => (f2 b hb).2.2.2.2.1 x c (hclS _ _ e), fun p hp => ?_⟩
    · exact neC (fpLt b hb)
    · rcases List.mem_cons.mp (I2.stkSub b hm) with h | h
      · exact (f2 b hb).2.1 h
      · exact (f2 b hb).2.2.1 h
    · rcases List.mem_append.mp hp with hp | hp
      · exact (f2 b hb).2.2.2.2.2 p hp
      · have hp : p = (D, oD) := by simpa using hp
        subst hp
        exact (neD (fpLt b hb)).symm
  have loop : ∀ s₃ : Shared, s₃ = { s2 with heap := h₁, toks := s2.toks + ([] : List (Str × Value)).length } →
      codeAny (model X.prog X.w) X.A (.compLoop (.ListComp elt [⟨tg, iter, ifs, 0⟩] scope pos) 0 (.ref it) (.ref D) (compEnvC scope cl C X.env)) (RR (.ref D) C) s₃ := by
    rintro s₃ rfl
    refine codeAny_compLoop_gen (fun n s' => ∃ i ys its k H', Inv X' [(D, ({ cls := .type "list", data := .seq its k } : Obj))] (grab fr σ) H' s' ∧ tn i s'.heap ∧ (∀ b ∈ fp, H' b = none) ∧ Vals ys its.toList ∧ W i n ys H') ?_ m0
      ⟨0, [], #[], _, H2, I4 _ (by first | exact I2.tk | exact Nat.succ_pos _), T.keep 0 _ _ st2 (fun b _ o e => old b o e), fun b hb => (f2 b hb).1, .nil, w0⟩
    rintro n s3 ⟨i, ys, its, k, H3, I3, st3, fr3, vy, w3⟩
    obtain ⟨hsz, h⟩ := turn i n ys H3 w3
    rcases h with ⟨stop, qn⟩ | ⟨go, NN, hNN, step⟩
    · refine noE (thn (T.done X' rfl rfl rfl hcalm i [(D, _)] s3 (grab fr σ) H3 _ I3 (fpk fr3) st3 stop) fun r s4 ⟨hr, I4⟩ => ?_)
      subst hr
      refine hRR C D s4 ⟨ys, H3, ?_⟩
      obtain ⟨pD, nD, _, _, _⟩ := I4.pin (D, _) (List.mem_append_right _ (List.mem_singleton.mpr rfl))
      have pD : s4.heap.get? D = some { cls := .type "list", data := .seq its k } := pD
      have nD : H3 D = none := nD
      have nC : H3 C = none := I4.free
      obtain ⟨mC, hnC, _⟩ := I4.loc
      refine ⟨nD, ⟨mC, hnC⟩, hDC, (neC Lt).symm, fun x c e z => ?_, fun p hp z => ?_, ?_, fun hm => ?_, ?_, fun h' hsb => ?_, qn D nD⟩
      · exact neC (cellLt x c e) z
      · exact neC (pinLt p hp) z
      · have := I2.sz; rw [hDD] at this; exact Nat.le_trans this (Nat.le_of_lt hDlt)
      · exact I2.nofs (by rw [hDD]; exact Nat.le_of_lt hDlt) hm
      · rw [upd_ne (Ne.symm hDC)]; exact nC
      · have un : Un (frs X.stack) fp H2 (upd H3 D (.lst ys)) s2.heap h' := by
          have u := I4.base
          have neC : ∀ (b : Addr) (o : Obj), s2.heap.get? b = some o → b ≠ C := fun b o e => neC (below b o e)
          have neD : ∀ (b : Addr) (o : Obj), s2.heap.get? b = some o → b ≠ D := fun b o e => neD (below b o e)
          have trkNe : ∀ b (o : HO), H3 b = some o → b ≠ D := fun b o e z => by rw [z, nD] at e; cases e
          refine ⟨fun b o e n hb hx => hsb.extBut b o (neC b o e) (u.keep b o e n hb hx), fun b o e n hb hx => ?_, fun b o e n hx => by rw [upd_ne (neD b o e)]; exact u.free b o e n hx, fun b o e hx => ?_, fun b xs e => ?_, fun b o xs e => ?_, fun b ps e => ?_⟩
          · obtain ⟨sl, q⟩ := u.slot b o e n hb hx
            exact ⟨sl, hsb.extBut b _ (neC b o e) q⟩
          · obtain ⟨o', q⟩ := u.there b o e hx
            exact ⟨o', hsb.extBut b _ (neC b o e) q⟩
          · have q := u.tups b xs e
            rw [upd_ne (trkNe b _ q)]; exact q
          · have q := u.frzs b o xs e
            rw [upd_ne (trkNe b _ q)]; exact q
          · obtain ⟨more, q⟩ := u.tbls b ps e
            exact ⟨more, by rw [upd_ne (trkNe b _ q)]; exact q⟩
        have hok : HOk X.prog X.w (upd H3 D (.lst ys)) h' := fun b u e => by
          by_cases hb : b = D
          · rw [hb, upd_same] at e
            cases e
            rw [hb]
            exact ⟨hsz, its.toList, k, vy, by simpa using hsb.extBut D _ hDC pD⟩
          · rw [upd_ne hb] at e
            refine (I4.hok b u e).stay (fun c v hc q => hsb.extBut c v ?_ q) (fun c q => ?_) fun c xs q => ?_
            · rcases hc with rfl | hc
              · rintro rfl; rw [nC] at e; cases e
              · rintro rfl; rw [nC] at hc; cases hc
            · rw [upd_ne (ne_of_none q nD)]; exact q
            · rw [upd_ne (ne_of_none q nD)]; exact q
        obtain ⟨hh, gg, dd, tt', os'⟩ := s4
        obtain rfl : os' = s2.os := I4.os
        refine (show Inv X pins σ (upd H3 D (.lst ys)) { s2 with heap := h', gens := gg, drawn := dd, toks := tt' } from I2.call (h' := h') (g' := gg) (d' := dd) (t' := tt') (ch := fp) un hok I4.bare fun b hb => ?_)
        obtain ⟨_, f1, _, f3, f4, f5⟩ := f2 b hb
        exact ⟨f3, f1, f4, f5⟩
    · refine noE (thn (T.item X' rfl rfl rfl hcalm i [(D, _)] s3 (grab fr σ) H3 _ I3 (fpk fr3) st3 go) fun r s4 ⟨u, hr, h4⟩ => ?_)
      subst hr
      refine noE (thn h4 fun _ s5 ⟨x, H5, I5, r5, y5, st5, fr5⟩ => ?_)
      have I5' := I5.pinned (fpk fr5) (T.obj _ _ st5)
      refine noE (thn (hg C s2 H2 fp (X.pn ++ pins) _ s5 (grab fr σ) H5 x u _ I5' r5 (hgo _ _ _ _ (step x H5 y5))) fun _ s6 ⟨σ6, H6, I6, q6, k6⟩ => ?_)
      refine noE (thn (ht C s2 H2 fp (X.pn ++ pins) _ s6 σ6 H6 _ I6 q6) fun b s7 ⟨H7, I7, q7⟩ => ?_)
      have back : ∀ {s8 : Shared} {H8 : Hp}, Inv X' ([(D, ({ cls := .type "list", data := .seq its k } : Obj))] ++ pinsAt fp s5.heap) σ6 H8 s8 → Inv X' [(D, ({ cls := .type "list", data := .seq its k } : Obj))] (grab fr σ) H8 s8 ∧ tn (i + 1) s8.heap ∧ ∀ b ∈ fp, H8 b = none := fun {s8 H8} I8 => by
        refine ⟨(I8.unpinned).weak ?_ fun j v e => ?_, T.keep _ _ _ st5 fun b hb o e => (I8.pin (b, o) (List.mem_append_right _ (List.mem_append_right _ (mem_pinsAt hb e)))).1, fun b hb => ?_⟩
        · rw [I8.len]; show (grab fr σ).length = N.length; unfold grab; rw [List.length_map, S.len]
        · obtain ⟨i', q1, _⟩ := grab_get e
          rw [k6 j i' q1]; exact e
        · obtain ⟨o, e, d⟩ := T.obj _ _ st5 b hb
          exact (I8.pin (b, o) (List.mem_append_right _ (List.mem_append_right _ (mem_pinsAt hb e)))).2.1
      cases b with
      | false =>
        rw [if_neg Bool.false_ne_true] at q7 ⊢
        obtain ⟨m', hm, w7⟩ := hNN _ _ q7
        obtain ⟨J1, J2, J3⟩ := back I7
        exact ⟨m', hm, i + 1, ys, its, k, H7, J1, J2, J3, vy, w7⟩
      | true =>
        rw [if_pos rfl] at q7 ⊢
        refine noE (thn (he C s2 H2 fp (X.pn ++ pins) _ s7 σ6 H7 _ I7 q7) fun y s8 ⟨yv, H8, I8, r8, n8⟩ => ?_)
        obtain ⟨m', hm, w8⟩ := hNN _ _ n8
        obtain ⟨J1, J2, J3⟩ := back I8
        obtain ⟨pD, nD, _, _, _⟩ := J1.pin (D, _) (List.mem_append_right _ (List.mem_singleton.mpr rfl))
        have pD : s8.heap.get? D = some { cls := .type "list", data := .seq its k } := pD
        have nD : H8 D = none := nD
        have hz' : its.size ≤ sizeLine := by
          have e1 : its.size = ys.length := by rw [vy.length]; simp
          rw [e1]; exact hsz
        refine wpAny_list_append_plain (hsz := hz') ⟨k, pD⟩ fun h' ⟨k', hl'⟩ hsb => ?_
        · refine ⟨m', hm, i + 1, ys ++ [yv], its.push y, k', H8, ?_, T.keep _ _ _ J2 fun b hb o e => ?_, J3, ?_, w8⟩
          · have K0 : Inv X' [] (grab fr σ) H8 s8 := J1.pins_of fun p hp => by cases hp
            have K1 : Inv X' [] (grab fr σ) H8 { s8 with heap := h' } := by
              refine K0.turned (it := D) (t' := s8.toks) (fun b o hb e => hsb.extBut b o hb e) nD hDC (.inr (by show s2.heap.objs.size ≤ D; rw [hDD]; exact Nat.le_refl _)) (fun x c e z => ?_) fun p hp z => ?_
              · exact neD (cellLt x c (hclS _ _ e)) z
              · have hp : p ∈ X.pn ++ pins := by
                  rcases List.mem_append.mp hp with hp | hp
                  · exact hp
                  · cases hp
                exact neD (pinLt p hp) z
            refine K1.pins_of fun p hp => ?_
            have hp : p = (D, ({ cls := .type "list", data := .seq (its.push y) k' } : Obj)) := by simpa using hp
            subst hp
            refine ⟨hl', nD, hDC, fun hm => ?_, fun v z => by cases z⟩
            rcases List.mem_cons.mp (I2.stkSub _ hm) with h | h
            · exact neD Lt h.symm
            · exact I2.nofs (by rw [hDD]; exact Nat.le_refl _) h
          · exact hsb.extBut b o (neD (fpLt b hb)) e
          · rw [Array.toList_push]
            exact Vals.append vy (.cons r8 .nil)
  exact codeAny_compStart_list (loop _ rfl) (T.self _ 0 _ _ _ (T.keep 0 _ _ st2 fun b _ o e => old b o e) (loop _ rfl))
theorem pe_comp {X : Cx} {elt iter tg : Expr} {ifs : List Expr} {scope : Scope} {pos : Pos} {N : List Str} {fr : List (Option Nat)} {wi : TI} {g : TG} {tt : TT} {te : TE}
    (hcalm : X.calm = true) (S : CompScope X scope N fr) (hi : PI X tg iter wi)
    (hg : ∀ cl C s₂ H₂ fp pn, PG (blk X N scope cl C s₂ H₂ fp pn) tg g) (hgo : TgOk fr g) (ht : ∀ cl C s₂ H₂ fp pn, PTs (blk X N scope cl C s₂ H₂ fp pn) ifs tt) (he : ∀ cl C s₂ H₂ fp pn, PE (blk X N scope cl C s₂ H₂ fp pn) elt te)
    (hs : autoParam (∀ x, foldedSetIterable iter X.env x = pure x) L2.au._auto_4) : PE X (.ListComp elt [⟨tg, iter, ifs, 0⟩] scope pos) (tComp fr wi g tt te) := by
  intro pins s σ H Q I h
  obtain ⟨cl, hclos, hclS, hclH⟩ := closureFor_ex (env := X.env) (scope := scope) fun y hy hf => I.ok.has y.1 (S.free y hy hf)
  rw [eval_ListComp]
  refine wpAny_comprehension_free (use := none) rfl hs hclos S.kind S.names (thn (hi pins s σ H _ I h) fun v s1 h1 => thn h1 fun itv s2 h2 => ?_)
  obtain ⟨it, fp, tn, J, H2, e, I2, T, st2, f2, W, w0, turn⟩ := h2
  subst e
  refine comp_block (RR := fun acc C => compPost (model X.prog X.w) X.A X.xe none (EP X pins σ Q) acc C) hcalm S hclS hclH (hg cl) hgo (ht cl) (he cl) I2 T st2 f2 W w0 turn fun C D s' B => ?_
  obtain ⟨ys, H', nD, hC, _, _, _, _, _, _, _, hI, q⟩ := B.ex
  obtain ⟨m, hn⟩ := hC
  exact ⟨m, hn, fun h' hs' => ⟨.ref D, _, hI h' hs', rfl, q⟩⟩
theorem ps_setC {X : Cx} {elt iter tg : Expr} {ifs : List Expr} {scope : Scope} {pos spos py : Pos} {N : List Str} {fr : List (Option Nat)} {wi : TI} {g : TG} {tt : TT} {te : TE} {i : Nat} {y : Str}
    (hN : X.N.Nodup) (hy : X.N[i]? = some y) (hly : X.env.scope.names.lookup y = some .local)
    (hcalm : X.calm = true) (S : CompScope X scope N fr) (hi : PI X tg iter wi)
    (hg : ∀ cl C s₂ H₂ fp pn, PG (blk X N scope cl C s₂ H₂ fp pn) tg g) (hgo : TgOk fr g) (ht : ∀ cl C s₂ H₂ fp pn, PTs (blk X N scope cl C s₂ H₂ fp pn) ifs tt) (he : ∀ cl C s₂ H₂ fp pn, PE (blk X N scope cl C s₂ H₂ fp pn) elt te)
    (hsw : autoParam (swapsWith (.ListComp elt [⟨tg, iter, ifs, 0⟩] scope pos) (some (.Name y py)) spos.line X.env = pure true) L2.au._auto_1)
    (hs : autoParam (∀ x, foldedSetIterable iter X.env x = pure x) L2.au._auto_4) : PS X (.Assign [.Name y py] (.ListComp elt [⟨tg, iter, ifs, 0⟩] scope pos) spos) (tAsg (tComp fr wi g tt te) (gName i)) := by
  intro pins s σ H D I h
  obtain ⟨cl, hclos, hclS, hclH⟩ := closureFor_ex (env := X.env) (scope := scope) fun y hy hf => I.ok.has y.1 (S.free y hy hf)
  rw [exec_Assign_Name_used _ _ _ _ hsw]
  refine wpAny_bind (wpAny_standAt (wpAny_bind ?_))
  show wpAny _ X.A (do let _ ← comprehension (.ListComp elt [⟨tg, iter, ifs, 0⟩] scope pos) scope X.env _ (newList []) false (eval iter X.env) (some (assign (.Name y py) X.env))) _ _ s
  refine wpAny_bind (wpAny_mono (wpAny_comprehension_free (use := some (assign (.Name y py) X.env)) (Q := fun _ s' => SP X pins D .next s') rfl hs hclos S.kind S.names
    (thn (hi pins s σ H _ I h) fun v s1 h1 => thn h1 fun itv s2 h2 => ?_)) (fun _ s' hq => wpAny_pure (wpAny_pure hq)) fun _ _ e => e)
  obtain ⟨it, fp, tn, J, H2, e, I2, T, st2, f2, W, w0, turn⟩ := h2
  subst e
  refine comp_block (Q := fun x H1 => gName i x σ H1 D.nx) (RR := fun acc C => compPost (model X.prog X.w) X.A X.xe (some (assign (.Name y py) X.env)) (fun _ s' => SP X pins D .next s') acc C) hcalm S hclS hclH (hg cl) hgo (ht cl) (he cl) I2 T st2 f2 W w0 turn fun C D' s' B => ?_
  obtain ⟨ys, H', nD, hC, hDC, hCL, hCc, hCp, hCs, hCf, hCn, hI, q⟩ := B.ex
  obtain ⟨m, hn⟩ := hC
  have I1 : Inv X pins σ (upd H' D' (.lst ys)) s' := by
    have := hI s'.heap (.refl ..)
    obtain ⟨hh, gg, dd, tt', os'⟩ := s'
    exact this
  show wpAny _ X.A (assign (.Name y py) X.env (.ref D')) _ _ _
  refine wpAny_assign_Name (store_ok2 I1 hN hy (.inl hly) (v := .ref D') rfl (fun s2 I3 ⟨a, sb, ha⟩ => ?_) (.inr hly))
  have hCa : C ≠ a := by
    rcases ha with rfl | ha
    · exact hCL
    · exact fun z => hCc y a ha z.symm
  refine ⟨m, hn.sameBut sb hCa, fun h3 hs3 => ?_⟩
  exact ⟨_, _, I3.turned (it := C) (t' := s2.toks) (fun b o hb e => hs3.extBut b o hb e) hCn hCL (.inr hCs) hCc hCp, q⟩
end L2
namespace L2
open PySem PySem.Spec PyProof.Rows
mutual
def Dv (K : PySem.W.Frag) (H : Hp) : PyData → V → Prop
  | .none, v => v = .non
  | .bool b, v => v = .bl b
  | .int i, v => v = .int i
  | .str x, v => v = .str x
  | .list ds, v => ∃ a vs, v = .ref a ∧ SqL K H a vs ∧ Dvs K H ds vs
  | .tuple ds, v => ∃ a vs, v = .ref a ∧ SqT K H a vs ∧ Dvs K H ds vs
  | .dict _, _ => False
def Dvs (K : PySem.W.Frag) (H : Hp) : List PyData → List V → Prop
  | [], vs => vs = []
  | d :: ds, vs => ∃ v r, vs = v :: r ∧ Dv K H d v ∧ Dvs K H ds r
end
section
variable {K : PySem.W.Frag} {H H' : Hp}
theorem Dvs.length : ∀ {ds : List PyData} {vs : List V}, Dvs K H ds vs → vs.length = ds.length
  | [], _, h => by rw [Dvs] at h; subst h; rfl
  | d :: ds, _, h => by
    rw [Dvs] at h
    obtain ⟨v, r, rfl, _, h⟩ := h
    rw [List.length_cons, List.length_cons, Dvs.length h]
theorem Dvs.get : ∀ {ds : List PyData} {vs : List V} {i : Nat} {d : PyData}, Dvs K H ds vs → ds[i]? = some d → ∃ v, vs[i]? = some v ∧ Dv K H d v
  | [], _, _, _, _, e => by simp at e
  | d :: ds, _, 0, _, h, e => by
    rw [Dvs] at h
    obtain ⟨v, r, rfl, h, _⟩ := h
    cases e
    exact ⟨v, rfl, h⟩
  | d :: ds, _, i + 1, _, h, e => by
    rw [Dvs] at h
    obtain ⟨v, r, rfl, _, h⟩ := h
    exact Dvs.get (i := i) h (by simpa using e)
theorem Dvs.get' : ∀ {ds : List PyData} {vs : List V} {i : Nat} {v : V}, Dvs K H ds vs → vs[i]? = some v → ∃ d, ds[i]? = some d ∧ Dv K H d v
  | [], _, _, _, h, e => by rw [Dvs] at h; subst h; simp at e
  | d :: ds, _, 0, _, h, e => by
    rw [Dvs] at h
    obtain ⟨v, r, rfl, h, _⟩ := h
    cases e
    exact ⟨d, rfl, h⟩
  | d :: ds, _, i + 1, _, h, e => by
    rw [Dvs] at h
    obtain ⟨v, r, rfl, _, h⟩ := h
    exact Dvs.get' (i := i) h (by simpa using e)
theorem Dvs.append : ∀ {ds es : List PyData} {vs ws : List V}, Dvs K H ds vs → Dvs K H es ws → Dvs K H (ds ++ es) (vs ++ ws)
  | [], _, _, _, h, g => by rw [Dvs] at h; subst h; exact g
  | d :: ds, es, _, _, h, g => by
    rw [Dvs] at h
    obtain ⟨v, r, rfl, h1, h⟩ := h
    show Dvs K H (d :: (ds ++ es)) _
    rw [Dvs]
    exact ⟨v, r ++ _, rfl, h1, Dvs.append h g⟩
theorem dvs_nil : Dvs K H [] [] := by rw [Dvs]
theorem dvs_cons {d : PyData} {ds : List PyData} {v : V} {vs : List V} (h : Dv K H d v) (t : Dvs K H ds vs) : Dvs K H (d :: ds) (v :: vs) := by rw [Dvs]; exact ⟨v, vs, rfl, h, t⟩
theorem dv_none {v : V} : Dv K H .none v ↔ v = .non := by rw [Dv]
theorem dv_bool {b : Bool} {v : V} : Dv K H (.bool b) v ↔ v = .bl b := by rw [Dv]
theorem dv_int {i : Int} {v : V} : Dv K H (.int i) v ↔ v = .int i := by rw [Dv]
theorem dv_str {x : Str} {v : V} : Dv K H (.str x) v ↔ v = .str x := by rw [Dv]
theorem dv_list {ds : List PyData} {v : V} : Dv K H (.list ds) v ↔ ∃ a vs, v = .ref a ∧ SqL K H a vs ∧ Dvs K H ds vs := by rw [Dv]
theorem dv_tuple {ds : List PyData} {v : V} : Dv K H (.tuple ds) v ↔ ∃ a vs, v = .ref a ∧ SqT K H a vs ∧ Dvs K H ds vs := by rw [Dv]
noncomputable def sDa (xs : List Str) : List PyData := xs.map .str
noncomputable def strV (xs : List Str) : List V := xs.map .str
theorem dvs_sDa : ∀ {xs : List Str} {vs : List V}, Dvs K H (sDa xs) vs ↔ vs = strV xs
  | [], _ => by show Dvs K H [] _ ↔ _ = []; rw [Dvs]
  | x :: xs, vs => by
    show Dvs K H (.str x :: sDa xs) vs ↔ vs = V.str x :: strV xs
    rw [Dvs]
    constructor
    · rintro ⟨v, r, rfl, h1, h2⟩
      rw [dv_str.mp h1, dvs_sDa.mp h2]
    · rintro rfl
      exact ⟨_, _, rfl, dv_str.mpr rfl, dvs_sDa.mpr rfl⟩
end
def TupK (H H' : Hp) : Prop := (∀ b xs, H b = some (.tup xs) → H' b = some (.tup xs)) ∧ ∀ b o xs, H b = some (.frz o (.tup xs)) → H' b = some (.frz o (.tup xs))
theorem Same.tupK {H H' : Hp} (h : Same H H') : TupK H H' := ⟨fun b xs e => h b _ e, fun b o xs e => h b _ e⟩
theorem TupK.trans {H H1 H2 : Hp} (a : TupK H H1) (b : TupK H1 H2) : TupK H H2 := ⟨fun c xs e => b.1 c xs (a.1 c xs e), fun c o xs e => b.2 c o xs (a.2 c o xs e)⟩
theorem TupK.sqT {K : PySem.W.Frag} {H H' : Hp} {a : Addr} {xs : List V} (e : TupK H H') (h : SqT K H a xs) : SqT K H' a xs := by
  rcases h with (h | ⟨o, h⟩) | h
  · exact .inl (.inl (e.1 _ _ h))
  · exact .inl (.inr ⟨o, e.2 _ _ _ h⟩)
  · exact .inr h
theorem Same.sqT {K : PySem.W.Frag} {H H' : Hp} {a : Addr} {xs : List V} (e : Same H H') (h : SqT K H a xs) : SqT K H' a xs := e.tupK.sqT h
theorem Same.sqL {K : PySem.W.Frag} {H H' : Hp} {a : Addr} {xs : List V} (e : Same H H') (h : SqL K H a xs) : SqL K H' a xs := e.seq h
theorem Same.new {H : Hp} {p : Addr} (h : H p = none) (o : HO) : Same H (upd H p o) := fun b u q => by rw [upd_ne (ne_of_none q h)]; exact q
def But (ps : List Addr) (H H' : Hp) : Prop := ∀ b o, H b = some o → b ∉ ps → H' b = some o
theorem But.refl (ps : List Addr) (H : Hp) : But ps H H := fun _ _ e _ => e
theorem But.upd {ps : List Addr} {H : Hp} {p : Addr} (h : p ∈ ps) (o : HO) : But ps H (upd H p o) := fun b u q n => by rw [upd_ne (by rintro rfl; exact n h)]; exact q
theorem But.mono {ps qs : List Addr} {H H' : Hp} (a : But ps H H') (h : ∀ b ∈ ps, b ∈ qs) : But qs H H' := fun c o e n => a c o e fun z => n (h c z)
mutual
/-- data without lists -/
noncomputable def fix : PyData → Bool
  | .none => true | .bool _ => true | .int _ => true | .str _ => true
  | .list _ => false
  | .tuple ds => fixs ds
  | .dict _ => false
noncomputable def fixs : List PyData → Bool
  | [] => true
  | d :: ds => fix d && fixs ds
end
mutual
theorem Dv.tupK {K : PySem.W.Frag} {H H' : Hp} (k : TupK H H') : ∀ (d : PyData) (v : V), fix d = true → Dv K H d v → Dv K H' d v
  | .none, _, _, h => dv_none.mpr (dv_none.mp h)
  | .bool _, _, _, h => dv_bool.mpr (dv_bool.mp h)
  | .int _, _, _, h => dv_int.mpr (dv_int.mp h)
  | .str _, _, _, h => dv_str.mpr (dv_str.mp h)
  | .list _, _, f, _ => by rw [fix] at f; cases f
  | .tuple ds, v, f, h => by
    rw [fix] at f
    obtain ⟨a, vs, rfl, hq, h⟩ := dv_tuple.mp h
    exact dv_tuple.mpr ⟨a, vs, rfl, k.sqT hq, Dvs.tupK k ds vs f h⟩
  | .dict _, _, f, _ => by rw [fix] at f; cases f
theorem Dvs.tupK {K : PySem.W.Frag} {H H' : Hp} (k : TupK H H') : ∀ (ds : List PyData) (vs : List V), fixs ds = true → Dvs K H ds vs → Dvs K H' ds vs
  | [], _, _, h => by rw [Dvs] at h ⊢; exact h
  | d :: ds, vs, f, h => by
    rw [fixs, Bool.and_eq_true] at f
    rw [Dvs] at h ⊢
    obtain ⟨v, r, e, h1, h2⟩ := h
    exact ⟨v, r, e, Dv.tupK k d v f.1 h1, Dvs.tupK k ds r f.2 h2⟩
end
mutual
theorem Dv.same {K : PySem.W.Frag} {H H' : Hp} (k : Same H H') : ∀ (d : PyData) (v : V), Dv K H d v → Dv K H' d v
  | .none, _, h => dv_none.mpr (dv_none.mp h)
  | .bool _, _, h => dv_bool.mpr (dv_bool.mp h)
  | .int _, _, h => dv_int.mpr (dv_int.mp h)
  | .str _, _, h => dv_str.mpr (dv_str.mp h)
  | .list ds, v, h => by
    obtain ⟨a, vs, rfl, hq, h⟩ := dv_list.mp h
    exact dv_list.mpr ⟨a, vs, rfl, k.sqL hq, Dvs.same k ds vs h⟩
  | .tuple ds, v, h => by
    obtain ⟨a, vs, rfl, hq, h⟩ := dv_tuple.mp h
    exact dv_tuple.mpr ⟨a, vs, rfl, k.sqT hq, Dvs.same k ds vs h⟩
  | .dict _, _, h => by rw [Dv] at h; exact h.elim
theorem Dvs.same {K : PySem.W.Frag} {H H' : Hp} (k : Same H H') : ∀ (ds : List PyData) (vs : List V), Dvs K H ds vs → Dvs K H' ds vs
  | [], _, h => by rw [Dvs] at h ⊢; exact h
  | d :: ds, vs, h => by
    rw [Dvs] at h ⊢
    obtain ⟨v, r, e, h1, h2⟩ := h
    exact ⟨v, r, e, Dv.same k d v h1, Dvs.same k ds r h2⟩
end
mutual
theorem Dv.reads {X : Cx} {pins : List (Addr × Obj)} {σ : St} {H : Hp} {s : Shared} (I : Inv X pins σ H s) : ∀ (d : PyData) (v : V) (u : Value), Dv X.K H d v → RelV v u → ∃ as, Reads s.heap u d as
  | .none, _, _, h, r => by rw [dv_none.mp h] at r; cases r; exact ⟨_, .none⟩
  | .bool b, _, _, h, r => by rw [dv_bool.mp h] at r; cases r; exact ⟨_, .bool b⟩
  | .int i, _, _, h, r => by rw [dv_int.mp h] at r; obtain ⟨t, rfl⟩ := r; exact ⟨_, .int i t⟩
  | .str x, _, _, h, r => by rw [dv_str.mp h] at r; obtain ⟨t, rfl⟩ := r; exact ⟨_, .str x t⟩
  | .list ds, _, _, h, r => by
    obtain ⟨a, vs, rfl, hq, h⟩ := dv_list.mp h
    cases r
    obtain ⟨its, rv, pl, _⟩ := I.list hq
    obtain ⟨o, e, c, n, d⟩ := pl.isList
    obtain ⟨as, ra⟩ := Dvs.reads I ds vs its h rv
    exact ⟨_, .list e c d (by simpa using ra)⟩
  | .tuple ds, _, _, h, r => by
    obtain ⟨a, vs, rfl, hq, h⟩ := dv_tuple.mp h
    cases r
    obtain ⟨its, rv, pl, _⟩ := I.tuple hq
    obtain ⟨o, e, c, n, d⟩ := pl
    obtain ⟨as, ra⟩ := Dvs.reads I ds vs its h rv
    exact ⟨_, .tuple e c d (by simpa using ra)⟩
  | .dict _, _, _, h, _ => by rw [Dv] at h; exact h.elim
theorem Dvs.reads {X : Cx} {pins : List (Addr × Obj)} {σ : St} {H : Hp} {s : Shared} (I : Inv X pins σ H s) : ∀ (ds : List PyData) (vs : List V) (us : List Value), Dvs X.K H ds vs → Vals vs us → ∃ as, ReadsAll s.heap us ds as
  | [], _, _, h, r => by rw [Dvs] at h; subst h; cases r; exact ⟨_, .nil⟩
  | d :: ds, _, _, h, r => by
    rw [Dvs] at h
    obtain ⟨v, r', rfl, h1, h2⟩ := h
    cases r with
    | cons r1 r2 =>
      obtain ⟨as, a1⟩ := Dv.reads I d v _ h1 r1
      obtain ⟨bs, a2⟩ := Dvs.reads I ds r' _ h2 r2
      exact ⟨_, .cons a1 a2⟩
end
end L2
namespace L2
open PySem PySem.Spec PyProof.Rows PySem.SeqAt
mutual
noncomputable def nd : PyData → Bool
  | .none => true | .bool _ => true | .int _ => true | .str _ => true
  | .list ds => nds ds
  | .tuple ds => nds ds
  | .dict _ => false
noncomputable def nds : List PyData → Bool
  | [] => true
  | d :: ds => nd d && nds ds
end
mutual
theorem Dv.nd {K : PySem.W.Frag} {H : Hp} : ∀ (d : PyData) (v : V), Dv K H d v → nd d = true
  | .none, _, _ => by rw [L2.nd]
  | .bool _, _, _ => by rw [L2.nd]
  | .int _, _, _ => by rw [L2.nd]
  | .str _, _, _ => by rw [L2.nd]
  | .list ds, _, h => by
    obtain ⟨a, vs, _, _, h⟩ := dv_list.mp h
    rw [L2.nd]; exact Dvs.nd ds vs h
  | .tuple ds, _, h => by
    obtain ⟨a, vs, _, _, h⟩ := dv_tuple.mp h
    rw [L2.nd]; exact Dvs.nd ds vs h
  | .dict _, _, h => by rw [Dv] at h; exact h.elim
theorem Dvs.nd {K : PySem.W.Frag} {H : Hp} : ∀ (ds : List PyData) (vs : List V), Dvs K H ds vs → nds ds = true
  | [], _, _ => by rw [nds]
  | d :: ds, vs, h => by
    rw [Dvs] at h
    obtain ⟨v, r, _, h1, h2⟩ := h
    rw [nds, Dv.nd d v h1, Dvs.nd ds r h2]; rfl
end
mutual
theorem one_read {h : Heap} : ∀ (d d' : PyData) (v : Value) (as as' : List Addr), nd d = true → Reads h v d as → Reads h v d' as' → d = d'
  | .none, _, _, _, _, _, r, q => by cases r; cases q; rfl
  | .bool _, _, _, _, _, _, r, q => by cases r; cases q; rfl
  | .int _, _, _, _, _, _, r, q => by cases r; cases q; rfl
  | .str _, _, _, _, _, _, r, q => by cases r; cases q; rfl
  | .dict _, _, _, _, _, n, _, _ => by rw [L2.nd] at n; cases n
  | .list xs, d', _, _, _, n, r, q => by
    rw [L2.nd] at n
    cases r with
    | list a1 a2 a3 a4 =>
      cases q with
      | list b1 b2 b3 b4 => rw [a1] at b1; cases b1; rw [a3] at b3; cases b3; rw [one_reads xs _ _ _ _ n a4 b4]
      | tuple b1 b2 b3 b4 => rw [a1] at b1; cases b1; rw [a2] at b2; exact absurd b2 (by simp)
      | dict b1 b2 => rw [a1] at b1; cases b1; rw [a2] at b2; exact absurd b2 (by simp)
  | .tuple xs, d', _, _, _, n, r, q => by
    rw [L2.nd] at n
    cases r with
    | tuple a1 a2 a3 a4 =>
      cases q with
      | tuple b1 b2 b3 b4 => rw [a1] at b1; cases b1; rw [a3] at b3; cases b3; rw [one_reads xs _ _ _ _ n a4 b4]
      | list b1 b2 b3 b4 => rw [a1] at b1; cases b1; rw [a2] at b2; exact absurd b2 (by simp)
      | dict b1 b2 => rw [a1] at b1; cases b1; rw [a2] at b2; exact absurd b2 (by simp)
theorem one_reads {h : Heap} : ∀ (xs ys : List PyData) (vs : List Value) (as as' : List Addr), nds xs = true → ReadsAll h vs xs as → ReadsAll h vs ys as' → xs = ys
  | [], _, _, _, _, _, r, q => by cases r; cases q; rfl
  | x :: xs, _, _, _, _, n, r, q => by
    rw [nds, Bool.and_eq_true] at n
    cases r with
    | cons r1 r2 =>
      cases q with
      | cons q1 q2 => rw [one_read x _ _ _ _ n.1 r1 q1, one_reads xs _ _ _ _ n.2 r2 q2]
end
mutual
theorem eqv_self : ∀ d : PyData, nd d = true → PyData.eqv d d = true
  | .none, _ => rfl
  | .bool b, _ => by simp [PyData.eqv]
  | .int i, _ => by simp [PyData.eqv]
  | .str x, _ => by simp [PyData.eqv]
  | .list xs, h => by rw [PyData.eqv]; rw [L2.nd] at h; exact eqvs_self xs h
  | .tuple xs, h => by rw [PyData.eqv]; rw [L2.nd] at h; exact eqvs_self xs h
  | .dict _, h => by rw [L2.nd] at h; cases h
theorem eqvs_self : ∀ xs : List PyData, nds xs = true → PyData.eqvAll xs xs = true
  | [], _ => rfl
  | x :: xs, h => by
    rw [nds, Bool.and_eq_true] at h
    rw [PyData.eqvAll, eqv_self x h.1, eqvs_self xs h.2]; rfl
end
theorem readsAll_len {h : Heap} : ∀ {xs : List PyData} {vs : List Value} {as : List Addr}, ReadsAll h vs xs as → vs.length = xs.length
  | [], _, _, r => by cases r; rfl
  | _ :: xs, _, _, r => by
    cases r with
    | cons _ r' => rw [List.length_cons, List.length_cons, readsAll_len r']
mutual
theorem eqAt_own : ∀ (da db : PyData) (A : Around) (s : Shared) (a b : Value) (as bs : List Addr), Reads s.heap a da as → Reads s.heap b db bs → nd da = true → nd db = true → A.units + min da.depth db.depth < cLine → EqAt A s a b (PyData.eqv da db)
  | .none, db, A, s, _, _, _, _, ra, rb, _, hb, hu => by
    cases ra
    cases rb with
    | none => exact EqAt.same _
    | bool y => exact EqAt.none_bool y
    | int y u => exact EqAt.none_int y u
    | str y u => exact EqAt.none_str y u
    | list k1 k2 k3 k4 => exact EqAt.none_list ⟨_, k1, k2, _, k3⟩ (room_here hu)
    | tuple k1 k2 k3 k4 => exact EqAt.none_tuple ⟨_, k1, k2, _, k3⟩ (room_here hu)
    | dict => rw [L2.nd] at hb; cases hb
  | .bool x, db, A, s, _, _, _, _, ra, rb, _, hb, hu => by
    cases ra
    cases rb with
    | none => exact EqAt.bool_none x
    | bool y => exact EqAt.bool_bool x y
    | int y u => exact EqAt.bool_int x y u
    | str y u => exact EqAt.bool_str x y u
    | list k1 k2 k3 k4 => exact EqAt.bool_list x ⟨_, k1, k2, _, k3⟩ (room_here hu)
    | tuple k1 k2 k3 k4 => exact EqAt.bool_tuple x ⟨_, k1, k2, _, k3⟩ (room_here hu)
    | dict => rw [L2.nd] at hb; cases hb
  | .int x, db, A, s, _, _, _, _, ra, rb, _, hb, hu => by
    cases ra
    cases rb with
    | none => exact EqAt.int_none x _
    | bool y => exact EqAt.int_bool x _ y
    | int y u => exact EqAt.int_int x _ y u
    | str y u => exact EqAt.int_str x _ y u
    | list k1 k2 k3 k4 => exact EqAt.int_list x _ ⟨_, k1, k2, _, k3⟩ (room_here hu)
    | tuple k1 k2 k3 k4 => exact EqAt.int_tuple x _ ⟨_, k1, k2, _, k3⟩ (room_here hu)
    | dict => rw [L2.nd] at hb; cases hb
  | .str x, db, A, s, _, _, _, _, ra, rb, _, hb, hu => by
    cases ra
    cases rb with
    | none => exact EqAt.str_none x _
    | bool y => exact EqAt.str_bool x _ y
    | int y u => exact EqAt.str_int x _ y u
    | str y u => exact EqAt.str_str x _ y u
    | list k1 k2 k3 k4 => exact EqAt.str_list x _ ⟨_, k1, k2, _, k3⟩ (room_here hu)
    | tuple k1 k2 k3 k4 => exact EqAt.str_tuple x _ ⟨_, k1, k2, _, k3⟩ (room_here hu)
    | dict => rw [L2.nd] at hb; cases hb
  | .list xs, db, A, s, _, _, _, _, ra, rb, ha, hb, hu => by
    have ra0 := ra
    have rb0 := rb
    cases ra with
    | @list l o1 vs1 n1 xs as h1 h2 h3 h4 =>
      cases rb with
      | none => exact EqAt.list_none ⟨_, h1, h2, _, h3⟩ (room_here hu)
      | bool y => exact EqAt.list_bool y ⟨_, h1, h2, _, h3⟩ (room_here hu)
      | int y u => exact EqAt.list_int y u ⟨_, h1, h2, _, h3⟩ (room_here hu)
      | str y u => exact EqAt.list_str y u ⟨_, h1, h2, _, h3⟩ (room_here hu)
      | tuple k1 k2 k3 k4 => exact EqAt.list_tuple ⟨_, h1, h2, _, h3⟩ ⟨_, k1, k2, _, k3⟩ (room_here hu)
      | @list b o vs2 n2 ys bs k1 k2 k3 k4 =>
        by_cases e : l = b
        · subst e
          rw [one_read _ _ _ _ _ ha ra0 rb0, eqv_self _ hb]
          exact EqAt.same _
        · refine EqAt.of_refs e ?_
          have l1 := readsAll_len h4
          have l2 := readsAll_len k4
          rw [L2.nd] at ha hb
          by_cases hz : xs.length = ys.length
          · have := RcAt.lists (A := A) (s := s) (e := pairEq xs ys) ⟨_, h1, h2, _, h3⟩ ⟨_, k1, k2, _, k3⟩ (by simp at l1 l2; omega) (room_here hu) (fun j h1 h2 => by have q := eqAt_items xs ys A.in1 s _ _ _ _ h4 k4 ha hb (room_in (by rw [PyData.depth, PyData.depth] at hu; exact hu)) j (by simpa using h1) (by simpa using h2); rw [Array.getElem_toList, Array.getElem_toList] at q; exact q)
            rw [show PyData.eqv (.list xs) (.list ys) = PyData.eqvAll xs ys by rw [PyData.eqv], ← eqvAll_same_length hz]
            have e1 : vs1.size = xs.length := by simpa using l1
            rw [e1] at this
            exact this
          · rw [show PyData.eqv (.list xs) (.list ys) = PyData.eqvAll xs ys by rw [PyData.eqv], eqvAll_other_length hz]
            exact RcAt.lists_lengths ⟨_, h1, h2, _, h3⟩ ⟨_, k1, k2, _, k3⟩ (by simp at l1 l2; simp; omega) (room_here hu)
      | dict => rw [L2.nd] at hb; cases hb
  | .tuple xs, db, A, s, _, _, _, _, ra, rb, ha, hb, hu => by
    have ra0 := ra
    have rb0 := rb
    cases ra with
    | @tuple l o1 vs1 n1 xs as h1 h2 h3 h4 =>
      cases rb with
      | none => exact EqAt.tuple_none ⟨_, h1, h2, _, h3⟩ (room_here hu)
      | bool y => exact EqAt.tuple_bool y ⟨_, h1, h2, _, h3⟩ (room_here hu)
      | int y u => exact EqAt.tuple_int y u ⟨_, h1, h2, _, h3⟩ (room_here hu)
      | str y u => exact EqAt.tuple_str y u ⟨_, h1, h2, _, h3⟩ (room_here hu)
      | list k1 k2 k3 k4 => exact EqAt.tuple_list ⟨_, h1, h2, _, h3⟩ ⟨_, k1, k2, _, k3⟩ (room_here hu)
      | @tuple b o vs2 n2 ys bs k1 k2 k3 k4 =>
        by_cases e : l = b
        · subst e
          rw [one_read _ _ _ _ _ ha ra0 rb0, eqv_self _ hb]
          exact EqAt.same _
        · refine EqAt.of_refs e ?_
          have l1 := readsAll_len h4
          have l2 := readsAll_len k4
          rw [L2.nd] at ha hb
          have := RcAt.tuples (A := A) (s := s) (e := pairEq xs ys) ⟨_, h1, h2, _, h3⟩ ⟨_, k1, k2, _, k3⟩ (room_here hu) (fun j h1 h2 => by have q := eqAt_items xs ys A.in1 s _ _ _ _ h4 k4 ha hb (room_in (by rw [PyData.depth, PyData.depth] at hu; exact hu)) j (by simpa using h1) (by simpa using h2); rw [Array.getElem_toList, Array.getElem_toList] at q; exact q)
          rw [show PyData.eqv (.tuple xs) (.tuple ys) = PyData.eqvAll xs ys by rw [PyData.eqv], ← eqvAll_eq xs ys]
          have e1 : vs1.size = xs.length := by simpa using l1
          have e2 : vs2.size = ys.length := by simpa using l2
          rw [e1, e2] at this
          exact this
      | dict => rw [L2.nd] at hb; cases hb
  | .dict _, _, _, _, _, _, _, _, _, _, ha, _, _ => by rw [L2.nd] at ha; cases ha
theorem eqAt_items : ∀ (xs ys : List PyData) (A : Around) (s : Shared) (us ws : List Value) (as bs : List Addr), ReadsAll s.heap us xs as → ReadsAll s.heap ws ys bs → nds xs = true → nds ys = true → A.units + min (PyData.depthAll xs) (PyData.depthAll ys) < cLine →
    ∀ j (h1 : j < us.length) (h2 : j < ws.length), EqAt A s us[j] ws[j] (pairEq xs ys j)
  | [], _, _, _, _, _, _, _, r, _, _, _, _ => by cases r; intro j h1; simp at h1
  | x :: xs, ys, A, s, _, ws, _, _, r, q, ha, hb, hu => by
    cases r with
    | @cons u us d ds as1 as2 r1 r2 =>
      cases q with
      | nil => intro j h1 h2; simp at h2
      | @cons w ws y ys bs1 bs2 q1 q2 =>
        rw [nds, Bool.and_eq_true] at ha hb
        rw [PyData.depthAll, PyData.depthAll] at hu
        intro j h1 h2
        cases j with
        | zero => exact eqAt_own x y A s u w _ _ r1 q1 ha.1 hb.1 (room_head hu)
        | succ j =>
          exact eqAt_items xs ys A s us ws _ _ r2 q2 ha.2 hb.2 (room_tail hu) j (by simpa using h1) (by simpa using h2)
end
theorem rc_own {da db : PyData} {A : Around} {s : Shared} {a b : Value} {as bs : List Addr} (ra : Reads s.heap a da as) (rb : Reads s.heap b db bs) (ha : nd da = true) (hb : nd db = true) (hu : A.units + min da.depth db.depth < cLine) : RcAt A s a b (PyData.eqv da db) := by
  cases ra with
  | none =>
    cases rb with
    | none => exact RcAt.none_none
    | bool y => exact RcAt.none_bool y
    | int y u => exact RcAt.none_int y u
    | str y u => exact RcAt.none_str y u
    | @list l2 o2 ws n2 ys bs k1 k2 k3 k4 => exact RcAt.none_list ⟨_, k1, k2, _, k3⟩ (room_here hu)
    | @tuple l2 o2 ws n2 ys bs k1 k2 k3 k4 => exact RcAt.none_tuple ⟨_, k1, k2, _, k3⟩ (room_here hu)
    | dict => rw [L2.nd] at hb; cases hb
  | bool x =>
    cases rb with
    | none => exact RcAt.bool_none x
    | bool y => exact RcAt.bool_bool x y
    | int y u => exact RcAt.bool_int x y u
    | str y u => exact RcAt.bool_str x y u
    | @list l2 o2 ws n2 ys bs k1 k2 k3 k4 => exact RcAt.bool_list x ⟨_, k1, k2, _, k3⟩ (room_here hu)
    | @tuple l2 o2 ws n2 ys bs k1 k2 k3 k4 => exact RcAt.bool_tuple x ⟨_, k1, k2, _, k3⟩ (room_here hu)
    | dict => rw [L2.nd] at hb; cases hb
  | int x t =>
    cases rb with
    | none => exact RcAt.int_none x t
    | bool y => exact RcAt.int_bool x t y
    | int y u => exact RcAt.int_int x t y u
    | str y u => exact RcAt.int_str x t y u
    | @list l2 o2 ws n2 ys bs k1 k2 k3 k4 => exact RcAt.int_list x t ⟨_, k1, k2, _, k3⟩ (room_here hu)
    | @tuple l2 o2 ws n2 ys bs k1 k2 k3 k4 => exact RcAt.int_tuple x t ⟨_, k1, k2, _, k3⟩ (room_here hu)
    | dict => rw [L2.nd] at hb; cases hb
  | str x t =>
    cases rb with
    | none => exact RcAt.str_none x t
    | bool y => exact RcAt.str_bool x t y
    | int y u => exact RcAt.str_int x t y u
    | str y u => exact RcAt.str_str x t y u
    | @list l2 o2 ws n2 ys bs k1 k2 k3 k4 => exact RcAt.str_list x t ⟨_, k1, k2, _, k3⟩ (room_here hu)
    | @tuple l2 o2 ws n2 ys bs k1 k2 k3 k4 => exact RcAt.str_tuple x t ⟨_, k1, k2, _, k3⟩ (room_here hu)
    | dict => rw [L2.nd] at hb; cases hb
  | @list l o vs n xs as h1 h2 h3 h4 =>
    cases rb with
    | none => exact RcAt.list_none ⟨_, h1, h2, _, h3⟩ (room_here hu)
    | bool y => exact RcAt.list_bool y ⟨_, h1, h2, _, h3⟩ (room_here hu)
    | int y u => exact RcAt.list_int y u ⟨_, h1, h2, _, h3⟩ (room_here hu)
    | str y u => exact RcAt.list_str y u ⟨_, h1, h2, _, h3⟩ (room_here hu)
    | @list l2 o2 ws n2 ys bs k1 k2 k3 k4 =>
      have l1 : vs.size = xs.length := by simpa using readsAll_len h4
      have l2 : ws.size = ys.length := by simpa using readsAll_len k4
      rw [L2.nd] at ha hb
      rw [PyData.depth, PyData.depth] at hu
      have hi : ∀ j (h1 : j < vs.size) (h2 : j < ws.size), EqAt A.in1 s vs[j] ws[j] (pairEq xs ys j) := fun j h1 h2 => by
        have q := eqAt_items xs ys A.in1 s _ _ _ _ h4 k4 ha hb (room_in hu) j (by simpa using h1) (by simpa using h2)
        rw [Array.getElem_toList, Array.getElem_toList] at q
        exact q
      have hu' : A.units < cLine := room_here hu
      rw [show PyData.eqv (.list xs) (.list ys) = PyData.eqvAll xs ys by rw [PyData.eqv]]
      by_cases hz : xs.length = ys.length
      · have q := RcAt.lists (A := A) (s := s) (e := pairEq xs ys) ⟨_, h1, h2, _, h3⟩ ⟨_, k1, k2, _, k3⟩ (by omega) hu' hi
        rw [l1, eqvAll_same_length hz] at q
        exact q
      · rw [eqvAll_other_length hz]
        exact RcAt.lists_lengths ⟨_, h1, h2, _, h3⟩ ⟨_, k1, k2, _, k3⟩ (by simp; omega) hu'
    | @tuple l2 o2 ws n2 ys bs k1 k2 k3 k4 => exact RcAt.list_tuple ⟨_, h1, h2, _, h3⟩ ⟨_, k1, k2, _, k3⟩ (room_here hu)
    | dict => rw [L2.nd] at hb; cases hb
  | @tuple l o vs n xs as h1 h2 h3 h4 =>
    cases rb with
    | none => exact RcAt.tuple_none ⟨_, h1, h2, _, h3⟩ (room_here hu)
    | bool y => exact RcAt.tuple_bool y ⟨_, h1, h2, _, h3⟩ (room_here hu)
    | int y u => exact RcAt.tuple_int y u ⟨_, h1, h2, _, h3⟩ (room_here hu)
    | str y u => exact RcAt.tuple_str y u ⟨_, h1, h2, _, h3⟩ (room_here hu)
    | @list l2 o2 ws n2 ys bs k1 k2 k3 k4 => exact RcAt.tuple_list ⟨_, h1, h2, _, h3⟩ ⟨_, k1, k2, _, k3⟩ (room_here hu)
    | @tuple l2 o2 ws n2 ys bs k1 k2 k3 k4 =>
      have l1 : vs.size = xs.length := by simpa using readsAll_len h4
      have l2 : ws.size = ys.length := by simpa using readsAll_len k4
      rw [L2.nd] at ha hb
      rw [PyData.depth, PyData.depth] at hu
      have hi : ∀ j (h1 : j < vs.size) (h2 : j < ws.size), EqAt A.in1 s vs[j] ws[j] (pairEq xs ys j) := fun j h1 h2 => by
        have q := eqAt_items xs ys A.in1 s _ _ _ _ h4 k4 ha hb (room_in hu) j (by simpa using h1) (by simpa using h2)
        rw [Array.getElem_toList, Array.getElem_toList] at q
        exact q
      have hu' : A.units < cLine := room_here hu
      rw [show PyData.eqv (.tuple xs) (.tuple ys) = PyData.eqvAll xs ys by rw [PyData.eqv]]
      have q := RcAt.tuples (A := A) (s := s) (e := pairEq xs ys) ⟨_, h1, h2, _, h3⟩ ⟨_, k1, k2, _, k3⟩ hu' hi
      rw [l1, l2, eqvAll_eq xs ys] at q
      exact q
    | dict => rw [L2.nd] at hb; cases hb
  | dict => rw [L2.nd] at ha; cases ha
theorem rcNe_own {da db : PyData} {A : Around} {s : Shared} {a b : Value} {as bs : List Addr} (ra : Reads s.heap a da as) (rb : Reads s.heap b db bs) (ha : nd da = true) (hb : nd db = true) (hu : A.units + min da.depth db.depth < cLine) : RcNeAt A s a b (!PyData.eqv da db) := by
  cases ra with
  | none =>
    cases rb with
    | none => exact RcNeAt.none_none
    | bool y => exact RcNeAt.none_bool y
    | int y u => exact RcNeAt.none_int y u
    | str y u => exact RcNeAt.none_str y u
    | @list l2 o2 ws n2 ys bs k1 k2 k3 k4 => exact RcNeAt.none_list ⟨_, k1, k2, _, k3⟩ (room_here hu)
    | @tuple l2 o2 ws n2 ys bs k1 k2 k3 k4 => exact RcNeAt.none_tuple ⟨_, k1, k2, _, k3⟩ (room_here hu)
    | dict => rw [L2.nd] at hb; cases hb
  | bool x =>
    cases rb with
    | none => exact RcNeAt.bool_none x
    | bool y => exact RcNeAt.bool_bool x y
    | int y u => exact RcNeAt.bool_int x y u
    | str y u => exact RcNeAt.bool_str x y u
    | @list l2 o2 ws n2 ys bs k1 k2 k3 k4 => exact RcNeAt.bool_list x ⟨_, k1, k2, _, k3⟩ (room_here hu)
    | @tuple l2 o2 ws n2 ys bs k1 k2 k3 k4 => exact RcNeAt.bool_tuple x ⟨_, k1, k2, _, k3⟩ (room_here hu)
    | dict => rw [L2.nd] at hb; cases hb
  | int x t =>
    cases rb with
    | none => exact RcNeAt.int_none x t
    | bool y => exact RcNeAt.int_bool x t y
    | int y u => exact RcNeAt.int_int x t y u
    | str y u => exact RcNeAt.int_str x t y u
    | @list l2 o2 ws n2 ys bs k1 k2 k3 k4 => exact RcNeAt.int_list x t ⟨_, k1, k2, _, k3⟩ (room_here hu)
    | @tuple l2 o2 ws n2 ys bs k1 k2 k3 k4 => exact RcNeAt.int_tuple x t ⟨_, k1, k2, _, k3⟩ (room_here hu)
    | dict => rw [L2.nd] at hb; cases hb
  | str x t =>
    cases rb with
    | none => exact RcNeAt.str_none x t
    | bool y => exact RcNeAt.str_bool x t y
    | int y u => exact RcNeAt.str_int x t y u
    | str y u => exact RcNeAt.str_str x t y u
    | @list l2 o2 ws n2 ys bs k1 k2 k3 k4 => exact RcNeAt.str_list x t ⟨_, k1, k2, _, k3⟩ (room_here hu)
    | @tuple l2 o2 ws n2 ys bs k1 k2 k3 k4 => exact RcNeAt.str_tuple x t ⟨_, k1, k2, _, k3⟩ (room_here hu)
    | dict => rw [L2.nd] at hb; cases hb
  | @list l o vs n xs as h1 h2 h3 h4 =>
    cases rb with
    | none => exact RcNeAt.list_none ⟨_, h1, h2, _, h3⟩ (room_here hu)
    | bool y => exact RcNeAt.list_bool y ⟨_, h1, h2, _, h3⟩ (room_here hu)
    | int y u => exact RcNeAt.list_int y u ⟨_, h1, h2, _, h3⟩ (room_here hu)
    | str y u => exact RcNeAt.list_str y u ⟨_, h1, h2, _, h3⟩ (room_here hu)
    | @list l2 o2 ws n2 ys bs k1 k2 k3 k4 =>
      have l1 : vs.size = xs.length := by simpa using readsAll_len h4
      have l2 : ws.size = ys.length := by simpa using readsAll_len k4
      rw [L2.nd] at ha hb
      rw [PyData.depth, PyData.depth] at hu
      have hi : ∀ j (h1 : j < vs.size) (h2 : j < ws.size), EqAt A.in1 s vs[j] ws[j] (pairEq xs ys j) := fun j h1 h2 => by
        have q := eqAt_items xs ys A.in1 s _ _ _ _ h4 k4 ha hb (room_in hu) j (by simpa using h1) (by simpa using h2)
        rw [Array.getElem_toList, Array.getElem_toList] at q
        exact q
      have hu' : A.units < cLine := room_here hu
      rw [show PyData.eqv (.list xs) (.list ys) = PyData.eqvAll xs ys by rw [PyData.eqv]]
      by_cases hz : xs.length = ys.length
      · have q := RcNeAt.lists (A := A) (s := s) (e := pairEq xs ys) ⟨_, h1, h2, _, h3⟩ ⟨_, k1, k2, _, k3⟩ (by omega) hu' hi
        rw [l1, eqvAll_same_length hz] at q
        exact q
      · rw [eqvAll_other_length hz]
        exact RcNeAt.lists_lengths ⟨_, h1, h2, _, h3⟩ ⟨_, k1, k2, _, k3⟩ (by simp; omega) hu'
    | @tuple l2 o2 ws n2 ys bs k1 k2 k3 k4 => exact RcNeAt.list_tuple ⟨_, h1, h2, _, h3⟩ ⟨_, k1, k2, _, k3⟩ (room_here hu)
    | dict => rw [L2.nd] at hb; cases hb
  | @tuple l o vs n xs as h1 h2 h3 h4 =>
    cases rb with
    | none => exact RcNeAt.tuple_none ⟨_, h1, h2, _, h3⟩ (room_here hu)
    | bool y => exact RcNeAt.tuple_bool y ⟨_, h1, h2, _, h3⟩ (room_here hu)
    | int y u => exact RcNeAt.tuple_int y u ⟨_, h1, h2, _, h3⟩ (room_here hu)
    | str y u => exact RcNeAt.tuple_str y u ⟨_, h1, h2, _, h3⟩ (room_here hu)
    | @list l2 o2 ws n2 ys bs k1 k2 k3 k4 => exact RcNeAt.tuple_list ⟨_, h1, h2, _, h3⟩ ⟨_, k1, k2, _, k3⟩ (room_here hu)
    | @tuple l2 o2 ws n2 ys bs k1 k2 k3 k4 =>
      have l1 : vs.size = xs.length := by simpa using readsAll_len h4
      have l2 : ws.size = ys.length := by simpa using readsAll_len k4
      rw [L2.nd] at ha hb
      rw [PyData.depth, PyData.depth] at hu
      have hi : ∀ j (h1 : j < vs.size) (h2 : j < ws.size), EqAt A.in1 s vs[j] ws[j] (pairEq xs ys j) := fun j h1 h2 => by
        have q := eqAt_items xs ys A.in1 s _ _ _ _ h4 k4 ha hb (room_in hu) j (by simpa using h1) (by simpa using h2)
        rw [Array.getElem_toList, Array.getElem_toList] at q
        exact q
      have hu' : A.units < cLine := room_here hu
      rw [show PyData.eqv (.tuple xs) (.tuple ys) = PyData.eqvAll xs ys by rw [PyData.eqv]]
      have q := RcNeAt.tuples (A := A) (s := s) (e := pairEq xs ys) ⟨_, h1, h2, _, h3⟩ ⟨_, k1, k2, _, k3⟩ hu' hi
      rw [l1, l2, eqvAll_eq xs ys] at q
      exact q
    | dict => rw [L2.nd] at hb; cases hb
  | dict => rw [L2.nd] at ha; cases ha
end L2
namespace L2
open PySem PySem.Spec PyProof.Rows PySem.SeqAt
section
variable {X : Cx}
theorem u190 {k : Nat} {A : Around} (r : Room k A) : A.units + 190 < cLine := by have := r.un; omega
def rEqA (K : PySem.W.Frag) : R2 := fun x y H Q => rEq x y H Q ∨ ∃ d e, Dv K H d x ∧ Dv K H e y ∧ min d.depth e.depth ≤ 190 ∧ Q (.bl (PyData.eqv d e)) H
def rNeA (K : PySem.W.Frag) : R2 := fun x y H Q => rNe x y H Q ∨ ∃ d e, Dv K H d x ∧ Dv K H e y ∧ min d.depth e.depth ≤ 190 ∧ Q (.bl (!PyData.eqv d e)) H
theorem op_eqA (hu : X.A.units + 190 < cLine) : OpR X (compareOp .Eq) (rEqA X.K) := by
  refine op_eq.or ?_
  intro pins s σ H x y v u Q I rx ry h
  obtain ⟨d, e, hx, hy, hz, q⟩ := h
  obtain ⟨as, ra⟩ := Dv.reads I d x v hx rx
  obtain ⟨bs, rb⟩ := Dv.reads I e y u hy ry
  have hroom : X.A.units + min d.depth e.depth < cLine := Nat.lt_of_le_of_lt (Nat.add_le_add_left hz _) hu
  exact rc_own ra rb (Dv.nd d x hx) (Dv.nd e y hy) hroom X.prog X.w X.xe _ ⟨.bl _, H, I, rfl, q⟩
theorem op_neA (hu : X.A.units + 190 < cLine) : OpR X (compareOp .NotEq) (rNeA X.K) := by
  refine op_ne.or ?_
  intro pins s σ H x y v u Q I rx ry h
  obtain ⟨d, e, hx, hy, hz, q⟩ := h
  obtain ⟨as, ra⟩ := Dv.reads I d x v hx rx
  obtain ⟨bs, rb⟩ := Dv.reads I e y u hy ry
  have hroom : X.A.units + min d.depth e.depth < cLine := Nat.lt_of_le_of_lt (Nat.add_le_add_left hz _) hu
  exact rcNe_own ra rb (Dv.nd d x hx) (Dv.nd e y hy) hroom X.prog X.w X.xe _ ⟨.bl _, H, I, rfl, q⟩
def rAddA (K : PySem.W.Frag) : R2 := fun x y H Q => rI0 (fun i j => .int (i + j)) x y H Q ∨ (∃ i j, x = .str i ∧ y = .str j ∧ i.length + j.length ≤ sizeLine ∧ Q (.str (i ++ j)) H) ∨ rCat x y H Q ∨ rCatT K x y H Q
theorem op_addA : OpR X (binaryOp .Add) (rAddA X.K) := op_add.or (op_add_str.or (op_cat.or op_catT))
def rMulS : R2 := fun x y H Q => ∃ z n, x = .str z ∧ y = .int n ∧ 0 ≤ n ∧ n ≤ 1000 ∧ z.length ≤ 1000 ∧ Q (.str (PySem.Txt.mul z n)) H
theorem op_mul_str : OpR X (binaryOp .Mult) rMulS := by
  intro pins s σ H x y v u Q I rx ry h
  obtain ⟨z, n, rfl, rfl, h0, h1, h2, q⟩ := h
  obtain ⟨t, rfl⟩ := rx
  obtain ⟨t', rfl⟩ := ry
  refine wpAny_with_toks (n := 1) I.tk (SB.mul ⟨?_, fun hn _ => ?_, fun hn _ => ?_⟩ fun t' k ht => ⟨.str _, H, I.tok _ ht, ⟨_, rfl⟩, q⟩)
  · rw [decide_eq_false (by omega), decide_eq_false (by omega)]; rfl
  · have e1 : (2 ^ 63 - 1 : Int) / n ≥ (2 ^ 63 - 1) / 1000 := by
      have hp : (0 : Int) < n := by omega
      apply Int.le_ediv_of_mul_le hp
      have : (2 ^ 63 - 1 : Int) / 1000 * n ≤ (2 ^ 63 - 1) / 1000 * 1000 := Int.mul_le_mul_of_nonneg_left h1 (by decide)
      have e : (2 ^ 63 - 1 : Int) / 1000 * 1000 ≤ 2 ^ 63 - 1 := by decide
      omega
    have e2 : (2 ^ 63 - 1 : Int) / 1000 ≥ 1000 := by decide
    omega
  · have : z.length * n.toNat ≤ 1000 * 1000 := Nat.mul_le_mul h2 (by omega)
    have hs : sizeLine = 16777216 := sizeLine_eq
    unfold Builtin.Str.tooLong
    exact decide_eq_false (by omega)
def rMulA : R2 := fun x y H Q => rI CMul (fun i j => .int (i * j)) x y H Q ∨ rMulS x y H Q ∨ rRep x y H Q
theorem op_mulA : OpR X (binaryOp .Mult) rMulA := op_mul.or (op_mul_str.or op_rep)
def rLtS : R2 := fun x y H Q => ∃ i j : Str, x = .str i ∧ y = .str j ∧ Q (.bl (decide (i.cps.toList < j.cps.toList))) H
def rLeS : R2 := fun x y H Q => ∃ i j : Str, x = .str i ∧ y = .str j ∧ Q (.bl (!decide (j.cps.toList < i.cps.toList))) H
def rGtS : R2 := fun x y H Q => ∃ i j : Str, x = .str i ∧ y = .str j ∧ Q (.bl (decide (j.cps.toList < i.cps.toList))) H
def rGeS : R2 := fun x y H Q => ∃ i j : Str, x = .str i ∧ y = .str j ∧ Q (.bl (!decide (i.cps.toList < j.cps.toList))) H
theorem op_le_str : OpR X (compareOp .LtE) rLeS := by
  intro pins s σ H x y v u Q I rx ry h
  obtain ⟨i, j, rfl, rfl, q⟩ := h
  obtain ⟨t, rfl⟩ := rx
  obtain ⟨t', rfl⟩ := ry
  exact PySem.P.le_str ⟨.bl _, H, I, rfl, q⟩
theorem op_gt_str : OpR X (compareOp .Gt) rGtS := by
  intro pins s σ H x y v u Q I rx ry h
  obtain ⟨i, j, rfl, rfl, q⟩ := h
  obtain ⟨t, rfl⟩ := rx
  obtain ⟨t', rfl⟩ := ry
  exact PySem.P.gt_str ⟨.bl _, H, I, rfl, q⟩
theorem op_ge_str : OpR X (compareOp .GtE) rGeS := by
  intro pins s σ H x y v u Q I rx ry h
  obtain ⟨i, j, rfl, rfl, q⟩ := h
  obtain ⟨t, rfl⟩ := rx
  obtain ⟨t', rfl⟩ := ry
  exact PySem.P.ge_str ⟨.bl _, H, I, rfl, q⟩
def rLtA : R2 := fun x y H Q => rI0 (fun i j => .bl (decide (i < j))) x y H Q ∨ rLtS x y H Q
def rLeA : R2 := fun x y H Q => rI0 (fun i j => .bl (decide (i ≤ j))) x y H Q ∨ rLeS x y H Q
def rGtA : R2 := fun x y H Q => rI0 (fun i j => .bl (decide (j < i))) x y H Q ∨ rGtS x y H Q
def rGeA : R2 := fun x y H Q => rI0 (fun i j => .bl (decide (j ≤ i))) x y H Q ∨ rGeS x y H Q
theorem op_ltA : OpR X (compareOp .Lt) rLtA := op_lt.or op_lt_str
theorem op_leA : OpR X (compareOp .LtE) rLeA := op_le.or op_le_str
theorem op_gtA : OpR X (compareOp .Gt) rGtA := op_gt.or op_gt_str
theorem op_geA : OpR X (compareOp .GtE) rGeA := op_ge.or op_ge_str
def rInS (neg : Bool) : R2 := fun x y H Q => ∃ i j : Str, x = .str i ∧ y = .str j ∧ Q (.bl (if neg then !(!(Builtin.Str.occurrences j i 0 j.length 1).isEmpty) else !(Builtin.Str.occurrences j i 0 j.length 1).isEmpty)) H
def rInA (K : PySem.W.Frag) (neg : Bool) : R2 := fun x y H Q => rIn K neg x y H Q ∨ rInS neg x y H Q
theorem op_inA : OpR X (compareOp .In) (rInA X.K false) := op_in_seq.or op_in_str
theorem op_notinA : OpR X (compareOp .NotIn) (rInA X.K true) := op_notIn_seq.or op_notIn_str
def rIsA : R2 := fun x y H Q => y = .non ∧ Q (.bl (decide (x = .non))) H
def rIsNotA : R2 := fun x y H Q => y = .non ∧ Q (.bl (!decide (x = .non))) H
theorem op_isA : OpR X (compareOp .Is) rIsA := op_isN
theorem op_isnotA : OpR X (compareOp .IsNot) rIsNotA := op_notN
def rLenA (K : PySem.W.Frag) : List V → Hp → VK → Prop := fun xs H Q => (∃ p ys, xs = [.ref p] ∧ (SqL K H p ys ∨ SqT K H p ys) ∧ Q (.int ys.length) H) ∨ (∃ z, xs = [.str z] ∧ z.length ≤ sizeLine ∧ Q (.int z.length) H) ∨
  ∃ a kvs, xs = [V.ref a] ∧ H a = some (.dK kvs) ∧ Q (.int kvs.length) H
theorem call_lenA : CallR X (.builtin "len") (rLenA X.K) := call_len_seq.or (call_len_str.or call_lenD)
def rListA (K : PySem.W.Frag) : List V → Hp → VK → Prop := fun xs H Q => ∃ p ys, xs = [.ref p] ∧ (SqL K H p ys ∨ SqT K H p ys) ∧ ∀ l, H l = none → Q (.ref l) (upd H l (.lst ys))
theorem call_listA : CallR X (.type "list") (rListA X.K) := call_list_of
def rTupleA (K : PySem.W.Frag) : List V → Hp → VK → Prop := fun xs H Q => ∃ p ys, xs = [.ref p] ∧ ((SqL K H p ys ∧ ∀ l, H l = none → Q (.ref l) (upd H l (.tup ys))) ∨ (SqT K H p ys ∧ Q (.ref p) H))
theorem call_tupleA : CallR X (.type "tuple") (rTupleA X.K) := call_tuple_of
def rIntA : List V → Hp → VK → Prop := fun xs H Q => (∃ i, xs = [.int i] ∧ Q (.int i) H) ∨ ∃ k, xs = [.bl k] ∧ Q (.int (if k then 1 else 0)) H
theorem call_intA : CallR X (.type "int") rIntA := call_int1
theorem strs_are : ∀ {xs : List Str} {us : List Value}, Vals (strV xs) us → StrsAre us xs
  | [], _, h => by cases h; exact .nil
  | x :: xs, _, h => by
    have h : Vals (V.str x :: strV xs) _ := h
    cases h with
    | cons r t =>
      obtain ⟨t', rfl⟩ := r
      exact .cons x t' (strs_are t)
theorem vals_strs : ∀ {xs : List Str} {us : List Value}, StrsAre us xs → Vals (strV xs) us
  | _, _, .nil => .nil
  | _, _, .cons y t h => .cons ⟨t, rfl⟩ (vals_strs h)
def rSortedS (K : PySem.W.Frag) : List V → Hp → VK → Prop := fun xs H Q => ∃ p ys, xs = [.ref p] ∧ SqL K H p (strV ys) ∧ ys.length < 64 ∧
  ∀ l ys', ys'.Perm ys → sortedS ys' = true → H l = none → Q (.ref l) (upd H l (.lst (strV ys')))
theorem call_sortedA : CallR X (.builtin "sorted") (rSortedS X.K) := by
  intro pins s σ H xs us Q I r h
  obtain ⟨p, ys, rfl, hq, hl, q⟩ := h
  obtain ⟨u, rfl, rx⟩ := vals1 r
  cases rx
  obtain ⟨its, rv, pl, hz⟩ := I.list hq
  have hlen := rv.length
  have hn : (strV ys).length = ys.length := List.length_map _
  refine sorted_strs pl.isList (strs_are rv) (by omega) fun out ss' h1 h2 h3 => ?_
  have kp : ∀ b o, s.heap.get? b = some o → (sortedAll s.heap its out).get? b = some o := fun b o e => sortedAll_old e
  obtain ⟨e, he⟩ := sortedAll_at s.heap its out
  have hf : H (s.heap.objs.size + 1) = none := I.hok.fresh (Nat.le_succ _)
  have hz' : (strV ss').length ≤ sizeLine := by
    have := h2.length_eq
    show (ss'.map V.str).length ≤ _
    rw [List.length_map]; rw [hn] at hz; omega
  refine ⟨.ref (s.heap.objs.size + 1), _, I.laid (t' := s.toks) (o := .lst (strV ss')) kp (Nat.le_succ _) ?_, rfl, q _ _ h2 h3 hf⟩
  exact ⟨hz', out.toList, e, vals_strs h1, by simpa [seqObj] using he⟩
def rJoin (K : PySem.W.Frag) : V → List V → Hp → VK → Prop := fun x vs H Q => ∃ z p ys, x = .str z ∧ vs = [.ref p] ∧ (SqL K H p (strV ys) ∨ SqT K H p (strV ys)) ∧ (ys.map (·.length)).sum + ys.length * z.length ≤ 16777216 ∧ Q (.str (PySem.Txt.join z ys)) H
theorem mt_join : MtR X "str.join" (rJoin X.K) := by
  intro pins s σ H x vs v us Q I rx rv h
  obtain ⟨z, p, ys, rfl, rfl, hq, hs, q⟩ := h
  obtain ⟨t, rfl⟩ := rx
  obtain ⟨u, rfl, ru⟩ := rv.one
  cases ru
  rcases hq with hq | hq
  · obtain ⟨its, r, pl, hz⟩ := I.list hq
    exact wpAny_with_toks (n := 1) I.tk (join_list pl.isList (by simpa using strs_are r) hs fun t' k ht => ⟨.str _, H, I.tok _ ht, ⟨_, rfl⟩, q⟩)
  · obtain ⟨its, r, pl, hz⟩ := I.tuple hq
    exact wpAny_with_toks (n := 1) I.tk (join_tuple pl (by simpa using strs_are r) hs fun t' k ht => ⟨.str _, H, I.tok _ ht, ⟨_, rfl⟩, q⟩)
noncomputable def insAt {α : Type} (xs : List α) (k : Nat) (y : α) : List α := xs.take k ++ y :: xs.drop k
def rInsert : V → List V → Hp → VK → Prop := fun x vs H Q => ∃ (l : Addr) (xs : List V) (i : Int) (y : V), x = .ref l ∧ vs = [.int i, y] ∧ H l = some (.lst xs) ∧ 0 ≤ i ∧ i ≤ xs.length ∧ xs.length < sizeLine ∧ Q .non (upd H l (.lst (insAt xs i.toNat y)))
theorem mt_insert : MtR X "list.insert" rInsert := by
  intro pins s σ H x vs v us Q I rx rv h
  obtain ⟨l, xs, i, y, rfl, rfl, hH, h0, h1, hz, q⟩ := h
  cases rx
  obtain ⟨u, w', rfl, ru, rw'⟩ := rv.two
  obtain ⟨t, rfl⟩ := ru
  obtain ⟨z, its, n, r, hl, e⟩ := I.lstM hH
  have hs : sizeLine = 16777216 := sizeLine_eq
  refine call_meets F.slot_list_insert ⟨_, e, rfl⟩ F.entry_list_insert (F.args_list_insert_3 _ _ _) (AutoListH.list_insert_list_int_val_1 l its.toArray n i t w' (by rw [fitsIndex_both (by omega) (by omega)]; exact Bool.false_ne_true) (by rw [List.size_toArray]; omega)) ⟨e, ?_⟩
  refine ⟨.non, _, I.lset (its' := insAt its i.toNat w') (t' := s.toks) hH e ?_ ?_ ?_, rfl, q⟩
  · have hi : ¬ i < 0 := by omega
    have hm : min i.toNat its.length = i.toNat := by omega
    simp only [hi, if_false, List.size_toArray, hm]
    unfold insAt
    apply Array.toList_inj.mp
    simp
    exact List.take_of_length_le (by rw [List.length_drop]; exact Nat.le_refl _)
  · exact Vals.append (r.take i.toNat) (.cons rw' (r.drop i.toNat))
  · unfold insAt
    rw [List.length_append, List.length_cons, List.length_take, List.length_drop]
    omega
end
end L2
namespace L2
open PySem PySem.Spec PyProof.Rows PySem.SeqAt
def iAny (K : PySem.W.Frag) (tl : TE) : TI := fun σ H R => tl σ H fun x H1 => ∃ a, x = .ref a ∧ (((∃ xs, SqL K H1 a xs) ∧ R (Itl K a) H1) ∨ ((∃ xs, SqT K H1 a xs) ∧ R (Itt K a) H1))
theorem pi_any {X : Cx} {tg l : Expr} {tl : TE} (hl : PE X l tl) : PI X tg l (iAny X.K tl) := by
  intro pins s σ H R I h
  refine thn (hl pins s σ H _ I h) fun v s1 ⟨x, H1, I1, r1, q1⟩ => ?_
  obtain ⟨a, e, q⟩ := q1
  subst e
  cases r1
  rcases q with ⟨⟨xs, hq⟩, q⟩ | ⟨⟨xs, hq⟩, q⟩
  · obtain ⟨its, rv, p, hz⟩ := I1.list hq
    refine wpAny_pyIter_list p.isList ?_
    refine ⟨s1.heap.objs.size, [s1.heap.objs.size], _, _, H1, rfl, I1.kept (t' := s1.toks) fun b o e => Heap.get?_push_of_some _ e, turn_list a _, ⟨_, Heap.get?_push_size _ rfl, rfl, rfl⟩, fun b hb => ?_, q⟩
    have e : b = s1.heap.objs.size := by simpa using hb
    subst e
    exact I1.fpOk (Nat.le_refl _) (I1.hok.fresh (Nat.le_refl _))
  · obtain ⟨its, rv, p, hz⟩ := I1.tuple hq
    refine wpAny_pyIter_tuple (show s1.heap.IsTuple a its.toArray from p) ?_
    refine ⟨s1.heap.objs.size, [s1.heap.objs.size], _, _, H1, rfl, I1.kept (t' := s1.toks) fun b o e => Heap.get?_push_of_some _ e, turn_tuple a _, ⟨_, Heap.get?_push_size _ rfl, rfl, rfl⟩, fun b hb => ?_, q⟩
    have e : b = s1.heap.objs.size := by simpa using hb
    subst e
    exact I1.fpOk (Nat.le_refl _) (I1.hok.fresh (Nat.le_refl _))
theorem st_for {wi : TI} {g : TG} {tb : TS} {D : Ends} {σ : St} {H : Hp} (h : wi σ H fun J H1 => ∃ W : Nat → Nat → St → Hp → Prop, (∃ m, W 0 m σ H1) ∧ ∀ i m σ H, W i m σ H →
  (J.stop i H ∧ D.nx σ H) ∨ (J.go i H ∧ ∃ N : St → Hp → Prop, (∀ σ' H', N σ' H' → ∃ m', m' < m ∧ W (i + 1) m' σ' H') ∧ ∀ x H', J.yld i H x H' → g x σ H' fun σ2 H2 => tb (Ends.lp D (N)) σ2 H2)) : tFor wi g tb D σ H := h
abbrev ForW (g : TG) (tb : TS) (D : Ends) (σ : St) (J : It) (H1 : Hp) : Prop := ∃ W : Nat → Nat → St → Hp → Prop, (∃ m, W 0 m σ H1) ∧ ∀ i m σ H, W i m σ H →
  (J.stop i H ∧ D.nx σ H) ∨ (J.go i H ∧ ∃ N : St → Hp → Prop, (∀ σ' H', N σ' H' → ∃ m', m' < m ∧ W (i + 1) m' σ' H') ∧ ∀ x H', J.yld i H x H' → g x σ H' fun σ2 H2 => tb (Ends.lp D (N)) σ2 H2)
theorem any_for {K : PySem.W.Frag} {g : TG} {tb : TS} {D : Ends} {σ : St} {H : Hp} {a : Addr} {xs : List V} (hq : SqL K H a xs ∨ SqT K H a xs) (Pv : Nat → St → Hp → Prop) (h0 : Pv 0 σ H)
    (hl : SqL K H a xs → ∀ i σ H, i ≤ xs.length → Pv i σ H → SqL K H a xs) (ht : SqT K H a xs → ∀ i σ H, i ≤ xs.length → Pv i σ H → SqT K H a xs)
    (hs : ∀ i x σ H, xs[i]? = some x → Pv i σ H → g x σ H fun σ2 H2 => tb (Ends.lp D (PAt Pv (i + 1))) σ2 H2) (hd : ∀ σ H, Pv xs.length σ H → D.nx σ H) :
    ∃ b, V.ref a = .ref b ∧ (((∃ xs, SqL K H b xs) ∧ ForW g tb D σ (Itl K b) H) ∨ ((∃ xs, SqT K H b xs) ∧ ForW g tb D σ (Itt K b) H)) := by
  refine ⟨a, rfl, ?_⟩
  rcases hq with hq | hq
  · exact .inl ⟨⟨xs, hq⟩, for_list Pv h0 (hl hq) hs hd⟩
  · exact .inr ⟨⟨xs, hq⟩, for_tup Pv h0 (ht hq) hs hd⟩
theorem rng1_for {g : TG} {tb : TS} {D : Ends} {σ : St} {H : Hp} {n : Int} (h0 : 0 ≤ n) (hn : n < 2 ^ 62) (Pv : Nat → St → Hp → Prop) (p0 : Pv 0 σ H)
    (hs : ∀ (i : Nat) σ H, (i : Int) < n → Pv i σ H → g (.int i) σ H fun σ2 H2 => tb (Ends.lp D (PAt Pv (i + 1))) σ2 H2) (hd : ∀ σ H, Pv n.toNat σ H → D.nx σ H) :
    ∃ j : Int, [V.int n] = [.int j] ∧ -(2 ^ 62) ≤ j ∧ j < 2 ^ 62 ∧ ForW g tb D σ (Itr 0 j.toNat) H :=
  ⟨n, rfl, by omega, hn, for_range (lo := 0) (n := n.toNat) Pv p0 (fun i σ H hi p => by rw [Int.zero_add]; exact hs i σ H (by omega) p) hd⟩
abbrev CompW (g : TG) (tt : TT) (te : TE) (σ' : St) (Q : VK) (J : It) (H1 : Hp) : Prop := ∃ W : Nat → Nat → List V → Hp → Prop, (∃ m, W 0 m [] H1) ∧ ∀ i m ys H, W i m ys H → ys.length ≤ sizeLine ∧
    ((J.stop i H ∧ ∀ p, H p = none → Q (.ref p) (upd H p (.lst ys))) ∨
     (J.go i H ∧ ∃ NN : List V → Hp → Prop, (∀ ys' H', NN ys' H' → ∃ m', m' < m ∧ W (i + 1) m' ys' H') ∧ ∀ x H', J.yld i H x H' → g x σ' H' fun σ2 H2 => tt σ2 H2 fun b H3 =>
        if b = true then te σ2 H3 fun y H4 => NN (ys ++ [y]) H4 else NN ys H3))
theorem st_comp {fr : List (Option Nat)} {wi : TI} {g : TG} {tt : TT} {te : TE} {σ : St} {H : Hp} {Q : VK} (h : wi σ H (CompW g tt te (grab fr σ) Q)) : tComp fr wi g tt te σ H Q := h
theorem comp_of {J : It} {n : Nat} {g : TG} {tt : TT} {te : TE} {σ' : St} {H : Hp} {Q : VK} (item : Nat → V → Prop) (Pv : Nat → List V → Hp → Prop) (h0 : Pv 0 [] H) (hlen : ∀ i ys H, i ≤ n → Pv i ys H → ys.length ≤ sizeLine)
    (hgo : ∀ i ys H, i < n → Pv i ys H → J.go i H) (hy : ∀ i ys H x H', i < n → Pv i ys H → J.yld i H x H' → H' = H ∧ item i x) (hst : ∀ ys H, Pv n ys H → J.stop n H)
    (hs : ∀ i x ys H, i < n → item i x → Pv i ys H → g x σ' H fun σ2 H2 => tt σ2 H2 fun b H3 => if b = true then te σ2 H3 fun y H4 => PAt Pv (i + 1) (ys ++ [y]) H4 else PAt Pv (i + 1) ys H3)
    (hd : ∀ ys H, Pv n ys H → ∀ p, H p = none → Q (.ref p) (upd H p (.lst ys))) : CompW g tt te σ' Q J H := by
  refine ⟨fun i m ys H => m = n - i ∧ i ≤ n ∧ Pv i ys H, ⟨n, by simp, Nat.zero_le _, h0⟩, ?_⟩
  rintro i m ys H ⟨rfl, hi, p⟩
  refine ⟨hlen i ys H hi p, ?_⟩
  by_cases hlt : i < n
  · refine .inr ⟨hgo i ys H hlt p, Pv (i + 1), fun ys' H' q => ⟨n - (i + 1), by omega, rfl, hlt, q⟩, fun x H' y => ?_⟩
    obtain ⟨rfl, hx⟩ := hy i ys H x H' hlt p y
    exact hs i x ys _ hlt hx p
  · have e : i = n := by omega
    subst e
    exact .inl ⟨hst ys H p, hd ys H p⟩
theorem any_compL {K : PySem.W.Frag} {g : TG} {tt : TT} {te : TE} {σ' : St} {H : Hp} {Q : VK} {a : Addr} {xs : List V} (hq : SqL K H a xs) (Pv : Nat → List V → Hp → Prop) (h0 : Pv 0 [] H) (hlen : ∀ i ys H, i ≤ xs.length → Pv i ys H → ys.length ≤ sizeLine)
    (hl : ∀ i ys H, i ≤ xs.length → Pv i ys H → SqL K H a xs)
    (hs : ∀ i x ys H, xs[i]? = some x → Pv i ys H → g x σ' H fun σ2 H2 => tt σ2 H2 fun b H3 => if b = true then te σ2 H3 fun y H4 => PAt Pv (i + 1) (ys ++ [y]) H4 else PAt Pv (i + 1) ys H3)
    (hd : ∀ ys H, Pv xs.length ys H → ∀ p, H p = none → Q (.ref p) (upd H p (.lst ys))) :
    ∃ b, V.ref a = .ref b ∧ (((∃ xs, SqL K H b xs) ∧ CompW g tt te σ' Q (Itl K b) H) ∨ ((∃ xs, SqT K H b xs) ∧ CompW g tt te σ' Q (Itt K b) H)) := by
  refine ⟨a, rfl, .inl ⟨⟨xs, hq⟩, comp_of (n := xs.length) (fun i x => xs[i]? = some x) Pv h0 hlen (fun i ys H hi p => ?_) (fun i ys H x H' hi p y => ?_) (fun ys H p => ?_) (fun i x ys H _ hx p => hs i x ys H hx p) hd⟩⟩
  · exact ⟨xs, xs[i], hl i ys H (Nat.le_of_lt hi) p, by simp [hi]⟩
  · exact ⟨y.1, y.2 xs (hl i ys H (Nat.le_of_lt hi) p)⟩
  · exact ⟨xs, hl _ ys H (Nat.le_refl _) p, Nat.le_refl _⟩
theorem any_forL {K : PySem.W.Frag} {g : TG} {tb : TS} {D : Ends} {σ : St} {H : Hp} {a : Addr} {xs : List V} (hq : SqL K H a xs) (Pv : Nat → St → Hp → Prop) (h0 : Pv 0 σ H)
    (hl : ∀ i σ H, i ≤ xs.length → Pv i σ H → SqL K H a xs)
    (hs : ∀ i x σ H, xs[i]? = some x → Pv i σ H → g x σ H fun σ2 H2 => tb (Ends.lp D (PAt Pv (i + 1))) σ2 H2) (hd : ∀ σ H, Pv xs.length σ H → D.nx σ H) :
    ∃ b, V.ref a = .ref b ∧ (((∃ xs, SqL K H b xs) ∧ ForW g tb D σ (Itl K b) H) ∨ ((∃ xs, SqT K H b xs) ∧ ForW g tb D σ (Itt K b) H)) :=
  ⟨a, rfl, .inl ⟨⟨xs, hq⟩, for_list Pv h0 hl hs hd⟩⟩
theorem rng1_comp {g : TG} {tt : TT} {te : TE} {σ' : St} {H : Hp} {Q : VK} {n : Int} (h0 : 0 ≤ n) (hn : n < 2 ^ 62) (Pv : Nat → List V → Hp → Prop) (p0 : Pv 0 [] H) (hlen : ∀ (i : Nat) ys H, (i : Int) ≤ n → Pv i ys H → ys.length ≤ sizeLine)
    (hs : ∀ (i : Nat) ys H, (i : Int) < n → Pv i ys H → g (.int i) σ' H fun σ2 H2 => tt σ2 H2 fun b H3 => if b = true then te σ2 H3 fun y H4 => PAt Pv (i + 1) (ys ++ [y]) H4 else PAt Pv (i + 1) ys H3)
    (hd : ∀ ys H, Pv n.toNat ys H → ∀ p, H p = none → Q (.ref p) (upd H p (.lst ys))) :
    ∃ j : Int, [V.int n] = [.int j] ∧ -(2 ^ 62) ≤ j ∧ j < 2 ^ 62 ∧ CompW g tt te σ' Q (Itr 0 j.toNat) H :=
  ⟨n, rfl, by omega, hn, comp_of (n := n.toNat) (fun i x => x = .int i) Pv p0 (fun i ys H hi p => hlen i ys H (by omega) p) (fun i ys H hi _ => hi) (fun i ys H x H' hi _ y => ⟨y.1, by rw [y.2, Int.zero_add]⟩) (fun ys H _ => Nat.le_refl _)
    (fun i x ys H hi hx p => by subst hx; exact hs i ys H (by omega) p) hd⟩
theorem rng2_comp {g : TG} {tt : TT} {te : TE} {σ' : St} {H : Hp} {Q : VK} {lo hi : Int} (h1 : -(2 ^ 62) ≤ lo) (h2 : lo ≤ hi) (h3 : hi < 2 ^ 62) (Pv : Nat → List V → Hp → Prop) (p0 : Pv 0 [] H) (hlen : ∀ (i : Nat) ys H, lo + i ≤ hi → Pv i ys H → ys.length ≤ sizeLine)
    (hs : ∀ (i : Nat) ys H, lo + i < hi → Pv i ys H → g (.int (lo + i)) σ' H fun σ2 H2 => tt σ2 H2 fun b H3 => if b = true then te σ2 H3 fun y H4 => PAt Pv (i + 1) (ys ++ [y]) H4 else PAt Pv (i + 1) ys H3)
    (hd : ∀ ys H, Pv (hi - lo).toNat ys H → ∀ p, H p = none → Q (.ref p) (upd H p (.lst ys))) :
    ∃ i j : Int, [V.int lo, V.int hi] = [.int i, .int j] ∧ (-(2 ^ 62) ≤ i ∧ i < 2 ^ 62 ∧ -(2 ^ 62) ≤ j ∧ j < 2 ^ 62) ∧ CompW g tt te σ' Q (Itr i (j - i).toNat) H :=
  ⟨lo, hi, rfl, ⟨h1, by omega, by omega, h3⟩, comp_of (n := (hi - lo).toNat) (fun i x => x = .int (lo + i)) Pv p0 (fun i ys H hi' p => hlen i ys H (by omega) p) (fun i ys H hi' _ => hi') (fun i ys H x H' hi' _ y => y) (fun ys H _ => Nat.le_refl _)
    (fun i x ys H hi' hx p => by subst hx; exact hs i ys H (by omega) p) hd⟩
section
variable {σ : St} {H : Hp} {Q : VK} {D : Ends}
theorem st_seq {t u : TS} (h : t (Ends.sq D u) σ H) : tSeq t u D σ H := h
theorem st_next (h : D.nx σ H) : tNext D σ H := h
theorem st_asg {te : TE} {g : TG} (h : te σ H fun x H1 => g x σ H1 D.nx) : tAsg te g D σ H := h
theorem st_name {i : Nat} {v : V} {R : St → Hp → Prop} (h : R (σ.set i (some v)) H) : gName i v σ H R := h
theorem st_var {i : Nat} {v : V} (e : σ[i]? = some (some v)) (h : Q v H) : tVar i σ H Q := ⟨v, e, h⟩
theorem st_C {v : V} (h : Q v H) : tC v σ H Q := h
theorem st_op {r : R2} {ta tb : TE} (h : ta σ H fun x H1 => tb σ H1 fun y H2 => r x y H2 Q) : tOp r ta tb σ H Q := h
theorem st_un {r : V → Hp → VK → Prop} {ta : TE} (h : ta σ H fun x H1 => r x H1 Q) : tUn r ta σ H Q := h
theorem st_ret {te : TE} (h : te σ H D.rt) : tRet te D σ H := h
theorem st_drop {te : TE} (h : te σ H fun _ H1 => D.nx σ H1) : tDrop te D σ H := h
theorem st_if {c : TT} {t u : TS} (h : c σ H fun b H1 => if b = true then t D σ H1 else u D σ H1) : tIfS c t u D σ H := h
theorem st_ifE {c : TT} {ta tb : TE} (h : c σ H fun b H1 => if b = true then ta σ H1 Q else tb σ H1 Q) : tIf c ta tb σ H Q := h
theorem st_test {t : TE} {R : Bool → Hp → Prop} (h : t σ H fun x H' => ∃ k, x = .bl k ∧ R k H') : tTest t σ H R := h
theorem st_B {t : TE} {R : Bool → Hp → Prop} (h : t σ H fun x H' => ∃ k, x = .bl k ∧ R k H') : tB t σ H R := h
theorem st_bl {b : Bool} {R : Bool → Prop} (h : R b) : ∃ k, V.bl b = .bl k ∧ R k := ⟨b, rfl, h⟩
theorem st_and {t u : TT} {R : Bool → Hp → Prop} (h : t σ H fun c H1 => if c = true then u σ H1 R else R false H1) : tAnd t u σ H R := h
theorem st_or {t u : TT} {R : Bool → Hp → Prop} (h : t σ H fun c H1 => if c = true then R true H1 else u σ H1 R) : tOr t u σ H R := h
theorem st_not {t : TT} {R : Bool → Hp → Prop} (h : t σ H fun c H1 => R (!c) H1) : tNot t σ H R := h
theorem st_andV {ta tb : TE} (h : ta σ H fun x H1 => ∃ c, x = .bl c ∧ if c = true then tb σ H1 Q else Q (.bl false) H1) : tAndV ta tb σ H Q := h
theorem st_notV {ta : TE} (h : ta σ H fun x H1 => ∃ c, x = .bl c ∧ Q (.bl (!c)) H1) : tNotV ta σ H Q := h
theorem st_nil {R : List V → Hp → Prop} (h : R [] H) : tNil σ H R := h
theorem st_cons {ta : TE} {tr : TA} {R : List V → Hp → Prop} (h : ta σ H fun x H1 => tr σ H1 fun xs H2 => R (x :: xs) H2) : tCons ta tr σ H R := h
theorem st_tup {t : TA} (h : t σ H fun xs H1 => xs.length ≤ sizeLine ∧ ∀ p, H1 p = none → Q (.ref p) (upd H1 p (.tup xs))) : tTup t σ H Q := h
theorem st_lst {t : TA} (h : t σ H fun xs H1 => xs.length ≤ sizeLine ∧ ∀ p, H1 p = none → Q (.ref p) (upd H1 p (.lst xs))) : tLst t σ H Q := h
theorem st_call {sp : Sp} {dvs : List V} {E : XK} {t : TA} (h : t σ H fun vs H1 => sp (vs ++ dvs) H1 Q E) : tCall sp dvs E t σ H Q := h
theorem st_CB {r : List V → Hp → VK → Prop} {t : TA} (h : t σ H fun vs H1 => r vs H1 Q) : tCB r t σ H Q := h
theorem st_tt {R : Bool → Hp → Prop} (h : R true H) : tTT σ H R := h
theorem st_any {K : PySem.W.Frag} {tl : TE} {R : It → Hp → Prop} (h : tl σ H fun x H1 => ∃ a, x = .ref a ∧ (((∃ xs, SqL K H1 a xs) ∧ R (Itl K a) H1) ∨ ((∃ xs, SqT K H1 a xs) ∧ R (Itt K a) H1))) : iAny K tl σ H R := h
theorem st_rng1 {ta : TA} {R : It → Hp → Prop} (h : ta σ H fun vs H1 => ∃ j : Int, vs = [.int j] ∧ -(2 ^ 62) ≤ j ∧ j < 2 ^ 62 ∧ R (Itr 0 j.toNat) H1) : iRng1 ta σ H R := h
theorem st_rng2 {ta : TA} {R : It → Hp → Prop} (h : ta σ H fun vs H1 => ∃ i j : Int, vs = [.int i, .int j] ∧ (-(2 ^ 62) ≤ i ∧ i < 2 ^ 62 ∧ -(2 ^ 62) ≤ j ∧ j < 2 ^ 62) ∧ R (Itr i (j - i).toNat) H1) : iRng2 ta σ H R := h
theorem st_sub {to ti : TE} {t : TSet} {v : V} {R : St → Hp → Prop} (h : to σ H fun o H1 => ti σ H1 fun i H2 => t o i v H2 fun H3 => R σ H3) : gSub to ti t v σ H R := h
theorem st_bm {K : PySem.W.Frag} {T : String} {r : V → List V → Hp → VK → Prop} {to : TE} {t : TA} (h : to σ H fun x H1 => tyV K T x H1 ∧ t σ H1 fun xs H2 => r x xs H2 Q) : tBM K T r to t σ H Q := h
theorem st_chain {r r' : R2} {ta tb tc : TE} (h : ta σ H fun x H1 => tb σ H1 fun y H2 => r x y H2 fun z H3 => ∃ k, z = .bl k ∧ (if k = true then tc σ H3 fun w' H4 => r' y w' H4 Q else Q (.bl false) H3)) : tChain r r' ta tb tc σ H Q := h
end
section
variable {H : Hp} {Q : VK} {K : PySem.W.Frag}
theorem v_addI {i j : Int} (h : Q (.int (i + j)) H) : rAddA K (.int i) (.int j) H Q := .inl ⟨i, j, rfl, rfl, h⟩
theorem v_addS {i j : Str} (hz : i.length + j.length ≤ sizeLine) (h : Q (.str (i ++ j)) H) : rAddA K (.str i) (.str j) H Q := .inr (.inl ⟨i, j, rfl, rfl, hz, h⟩)
theorem v_cat {a b : Addr} {xs ys : List V} (h1 : H a = some (.lst xs)) (h2 : H b = some (.lst ys)) (hz : xs.length + ys.length ≤ sizeLine) (h : ∀ p, H p = none → Q (.ref p) (upd H p (.lst (xs ++ ys)))) : rAddA K (.ref a) (.ref b) H Q := .inr (.inr (.inl ⟨a, b, xs, ys, rfl, rfl, h1, h2, hz, h⟩))
theorem v_subI {i j : Int} (h : Q (.int (i - j)) H) : rI0 (fun i j => .int (i - j)) (.int i) (.int j) H Q := ⟨i, j, rfl, rfl, h⟩
theorem v_mulI {i j : Int} (c : CMul i j) (h : Q (.int (i * j)) H) : rMulA (.int i) (.int j) H Q := .inl ⟨i, j, rfl, rfl, c, h⟩
theorem v_mulS {z : Str} {n : Int} (h0 : 0 ≤ n) (h1 : n ≤ 1000) (h2 : z.length ≤ 1000) (h : Q (.str (PySem.Txt.mul z n)) H) : rMulA (.str z) (.int n) H Q := .inr (.inl ⟨z, n, rfl, rfl, h0, h1, h2, h⟩)
theorem v_fdiv {i j : Int} (c : CDiv i j) (h : Q (.int (i / j)) H) : rI CDiv (fun i j => .int (i / j)) (.int i) (.int j) H Q := ⟨i, j, rfl, rfl, c, h⟩
theorem v_mod {i j : Int} (c : 0 < j) (h : Q (.int (i % j)) H) : rI (fun _ j => 0 < j) (fun i j => .int (i % j)) (.int i) (.int j) H Q := ⟨i, j, rfl, rfl, c, h⟩
theorem v_ltI {i j : Int} (h : Q (.bl (decide (i < j))) H) : rLtA (.int i) (.int j) H Q := .inl ⟨i, j, rfl, rfl, h⟩
theorem v_leI {i j : Int} (h : Q (.bl (decide (i ≤ j))) H) : rLeA (.int i) (.int j) H Q := .inl ⟨i, j, rfl, rfl, h⟩
theorem v_gtI {i j : Int} (h : Q (.bl (decide (j < i))) H) : rGtA (.int i) (.int j) H Q := .inl ⟨i, j, rfl, rfl, h⟩
theorem v_geI {i j : Int} (h : Q (.bl (decide (j ≤ i))) H) : rGeA (.int i) (.int j) H Q := .inl ⟨i, j, rfl, rfl, h⟩
theorem v_eq {x y : V} (c : scal x y = true) (h : Q (.bl (decide (x = y))) H) : rEqA K x y H Q := .inl ⟨c, h⟩
theorem v_ne {x y : V} (c : scal x y = true) (h : Q (.bl (!decide (x = y))) H) : rNeA K x y H Q := .inl ⟨c, h⟩
theorem v_eqD {x y : V} {d e : PyData} (h1 : Dv K H d x) (h2 : Dv K H e y) (hz : d.depth ≤ 64) (h : Q (.bl (PyData.eqv d e)) H) : rEqA K x y H Q := .inr ⟨d, e, h1, h2, by omega, h⟩
theorem v_eqM {x y : V} {d e : PyData} (h1 : Dv K H d x) (h2 : Dv K H e y) (hz : min d.depth e.depth ≤ 190) (h : Q (.bl (PyData.eqv d e)) H) : rEqA K x y H Q := .inr ⟨d, e, h1, h2, hz, h⟩
theorem v_neD {x y : V} {d e : PyData} (h1 : Dv K H d x) (h2 : Dv K H e y) (hz : d.depth ≤ 64) (h : Q (.bl (!PyData.eqv d e)) H) : rNeA K x y H Q := .inr ⟨d, e, h1, h2, by omega, h⟩
theorem v_neM {x y : V} {d e : PyData} (h1 : Dv K H d x) (h2 : Dv K H e y) (hz : min d.depth e.depth ≤ 190) (h : Q (.bl (!PyData.eqv d e)) H) : rNeA K x y H Q := .inr ⟨d, e, h1, h2, hz, h⟩
theorem v_is {x : V} (h : Q (.bl (decide (x = .non))) H) : rIsA x .non H Q := ⟨rfl, h⟩
theorem v_isnot {x : V} (h : Q (.bl (!decide (x = .non))) H) : rIsNotA x .non H Q := ⟨rfl, h⟩
theorem v_ixL {p : Addr} {xs : List V} {i : Int} {v : V} (h1 : SqL K H p xs) (e : atI xs i = some v) (h : Q v H) : rIx K (.ref p) (.int i) H Q := .inl ⟨p, xs, i, v, rfl, rfl, h1, e, h⟩
theorem v_ixT {p : Addr} {xs : List V} {i : Int} {v : V} (h1 : SqT K H p xs) (e : atI xs i = some v) (h : Q v H) : rIx K (.ref p) (.int i) H Q := .inr (.inl ⟨p, xs, i, v, rfl, rfl, h1, e, h⟩)
theorem v_ixS {z : Str} {i : Int} {c : Nat} (hz : z.length ≤ sizeLine) (e : atI z.cps.toList i = some c) (h : Q (.str ⟨#[c]⟩) H) : rIx K (.str z) (.int i) H Q := .inr (.inr ⟨z, i, c, rfl, rfl, hz, e, h⟩)
theorem v_in {x : V} {p : Addr} {xs : List V} (h1 : SqL K H p xs ∨ SqT K H p xs) (fx : flatV x = true) (fs : xs.all flatV = true) (h : Q (.bl (inV x xs)) H) : rInA K false x (.ref p) H Q := .inl ⟨p, xs, rfl, h1, fx, fs, h⟩
theorem v_notin {x : V} {p : Addr} {xs : List V} (h1 : SqL K H p xs ∨ SqT K H p xs) (fx : flatV x = true) (fs : xs.all flatV = true) (h : Q (.bl (!inV x xs)) H) : rInA K true x (.ref p) H Q := .inl ⟨p, xs, rfl, h1, fx, fs, h⟩
theorem v_lenQ {p : Addr} {xs : List V} (h1 : SqL K H p xs ∨ SqT K H p xs) (h : Q (.int xs.length) H) : rLenA K [.ref p] H Q := .inl ⟨p, xs, rfl, h1, h⟩
theorem v_lenS {z : Str} (hz : z.length ≤ sizeLine) (h : Q (.int z.length) H) : rLenA K [.str z] H Q := .inr (.inl ⟨z, rfl, hz, h⟩)
theorem v_setL {p : Addr} {xs : List V} {k : Int} {v : V} {j : Nat} {R : Hp → Prop} (h1 : H p = some (.lst xs)) (e : ixN xs.length k = some j) (h : R (upd H p (.lst (xs.set j v)))) : rSetL (.ref p) (.int k) v H R := ⟨p, xs, k, j, rfl, rfl, h1, e, h⟩
theorem v_append {p : Addr} {xs : List V} {y : V} (h1 : H p = some (.lst xs)) (hz : xs.length < sizeLine) (h : Q .non (upd H p (.lst (xs ++ [y])))) : rAppend (.ref p) [y] H Q := ⟨p, xs, y, rfl, rfl, h1, hz, h⟩
theorem v_insert {p : Addr} {xs : List V} {i : Int} {y : V} (h1 : H p = some (.lst xs)) (h0 : 0 ≤ i) (hi : i ≤ xs.length) (hz : xs.length < sizeLine) (h : Q .non (upd H p (.lst (insAt xs i.toNat y)))) : rInsert (.ref p) [.int i, y] H Q := ⟨p, xs, i, y, rfl, rfl, h1, h0, hi, hz, h⟩
end
end L2
namespace L2
open PySem PySem.Spec PyProof.Rows PySem.SeqAt
noncomputable def Itv (n : Nat) : It := ⟨fun i _ => i < n, fun i H x H' => H' = H ∧ x = .int ((n : Int) - 1 - i), fun i _ => n ≤ i⟩
theorem turn_rev {P : Program} {w : World} {K : PySem.W.Frag} {tg : Expr} (it : Addr) (n : Nat) : Turn P w K tg (Itv n) [it] it (fun i h => IsRangeIter h it ((n : Int) - 1 + (i : Nat) * (-1)) ((n : Int) - (i : Nat)) (-1)) where
  mem := by simp
  obj := fun i h st b hb => by
    have e : b = it := by simpa using hb
    subst e
    exact ⟨_, st, fun v z => by
      have z' : Data.fields _ = Data.cell v := z
      cases z'⟩
  keep := fun i h h' st k => k it (by simp) _ st
  item := by
    intro X hP hw hK hc i pins s σ H E I hf st hg
    subst hP hw hK
    obtain ⟨f0, f1, f2, f3, f4, f5⟩ := hf it (by simp)
    have W := Walks.range (prog := X.prog) (w := X.w) (I.ok.hd hc) it ((n : Int) - 1) (-1) n
    refine wpAny_with_toks (n := 1) I.tk (W.item i s _ _ hg st fun v h' tk hv st' kk ht => ?_)
    have ht : 0 < tk := ht
    obtain ⟨t, rfl⟩ := hv
    have I1 : Inv X pins σ H { s with heap := h', toks := tk } := I.turned (fun b o hb e => kk b o (by simpa using hb) e) f0 f1 f3 f4 f5
    refine ⟨_, rfl, go_of (s := { s with heap := h', toks := tk }) (n := "range_iterator") st' rfl rfl (by decide) ⟨.int ((n : Int) - 1 - i), H, I1, ⟨t, ?_⟩, ⟨rfl, rfl⟩, st', fun b hb => (hf b hb).1⟩⟩
    have e : (n : Int) - 1 + (i : Int) * (-1) = (n : Int) - 1 - i := by omega
    rw [e]
  done := by
    intro X hP hw hK hc i pins s σ H E I hf st hg
    subst hP hw hK
    obtain ⟨f0, f1, f2, f3, f4, f5⟩ := hf it (by simp)
    exact wpAny_pyNext_range_end (I.ok.hd hc) st (by have : n ≤ i := hg; omega) fun h' eb => ⟨rfl, I.turned (t' := s.toks) (fun b o hb e => eb b o hb e) f0 f1 f3 f4 f5⟩
  self := fun _ _ _ _ _ st h => wpAny_pyIter_rangeiter st h
section
variable {X : Cx}
def rSetA : TSet := fun o i v H Q => rSetL o i v H Q ∨ ∃ a H', o = .ref a ∧ DPut H a i v H' ∧ Q H'
theorem set_any' (hu : X.A.units + 1 < cLine) : PSet X rSetA := by
  intro pins s σ H o i v ov iv u Q I ro ri rv h
  rcases h with h | ⟨a, H', rfl, g, q⟩
  · exact set_list pins s σ H o i v ov iv u Q I ro ri rv h
  · cases ro
    exact d_setItem hu I g ri rv fun s' I' => ⟨H', I', q⟩
def rIxA (K : PySem.W.Frag) : R2 := rIx K
theorem ix_any' (hu : X.A.units + 1 < cLine) : IxR X (rIxA X.K) := ix_seq
def rInD (neg : Bool) : R2 := fun x y H Q => ∃ a o, y = .ref a ∧ DGet H a x o ∧ Q (.bl (if neg then !o.isSome else o.isSome)) H
def rInB (K : PySem.W.Frag) (neg : Bool) : R2 := fun x y H Q => rInA K neg x y H Q ∨ rInD neg x y H Q
theorem op_inB (hu : X.A.units + 1 < cLine) : OpR X (compareOp .In) (rInB X.K false) := by
  refine op_inA.or ?_
  intro pins s σ H x y v u Q I rx ry h
  obtain ⟨a, o, rfl, g, q⟩ := h
  cases ry
  exact d_in hu I g rx fun s' I' => ⟨.bl o.isSome, H, I', rfl, q⟩
theorem op_notinB (hu : X.A.units + 1 < cLine) : OpR X (compareOp .NotIn) (rInB X.K true) := by
  refine op_notinA.or ?_
  intro pins s σ H x y v u Q I rx ry h
  obtain ⟨a, o, rfl, g, q⟩ := h
  cases ry
  exact d_notIn hu I g rx fun s' I' => ⟨.bl (!o.isSome), H, I', rfl, q⟩
theorem m1 {o e : Expr} {m : Str} {apos cpos : Pos} (base : autoParam (attributeBase o m X.env (eval o X.env) = eval o X.env) L2.au._auto_1)
    (few : autoParam (((backTo cpos (starEach [e] X.env)).all (fun x => !x.1) && (backToKw cpos (keywordEach [] X.env)).all (fun x => x.1.isSome)
    && decide (([e] : List Expr).length + ([] : List Keyword).length + (if ([] : List Keyword).isEmpty then 0 else 1) < 30)) = true) L2.au._auto_1) (line : autoParam ((apos.endLine == cpos.line) = true) L2.au._auto_1) (trees : autoParam (backTo cpos (starEach [e] X.env) = [(false, eval e X.env)]) L2.au._auto_1) : M1 X o m apos e cpos := ⟨base, few, line, trees⟩
def rIsi (K : PySem.W.Frag) : List V → Hp → VK → Prop := fun xs H Q => (∃ (x : V) (T : String) (t : Value) (b : Bool), xs = [x, .ty T] ∧ TyOf K H x t ∧ PySem.W.kitOne K t (.type T) = some b ∧ Q (.bl b) H) ∨
  ∃ (a : Addr) (ys : List V) (T : String) (b : Bool), xs = [.ref a, .ty T] ∧ SqT K H a ys ∧ PySem.W.kitOne K (.type "tuple") (.type T) = some b ∧ Q (.bl b) H
theorem call_isinstanceA : CallR X (.builtin "isinstance") (rIsi X.K) := by
  intro pins s σ H xs us Q I r h
  rcases h with ⟨x, T, t, b, rfl, ty, e, q⟩ | ⟨a, ys, T, b, rfl, hq, e, q⟩
  · obtain ⟨u, w', rfl, r1, r2⟩ := vals2 r
    cases r2
    exact wpAny_with_toks (n := 1) I.tk (isinst_ok I r1 ty e fun tk ht => ⟨.bl b, H, I.tok _ ht, rfl, q⟩)
  · obtain ⟨u, w', rfl, r1, r2⟩ := vals2 r
    cases r2
    cases r1
    obtain ⟨its, rv, pl, hz⟩ := I.tuple hq
    obtain ⟨o, h1, h2, _⟩ := pl
    exact wpAny_with_toks (n := 1) I.tk (PySem.W.kia_one PySem.W.kitx_tuple I.kIn ⟨o, h1, h2⟩ e (fun z => nomatch z) fun tk ht => ⟨.bl b, H, I.tok _ ht, rfl, q⟩)
theorem v_isi {K : PySem.W.Frag} {H : Hp} {Q : VK} {x : V} {T : String} {t : Value} {b : Bool} (ty : TyOf K H x t) (e : PySem.W.kitOne K t (.type T) = some b) (h : Q (.bl b) H) : rIsi K [x, .ty T] H Q := .inl ⟨x, T, t, b, rfl, ty, e, h⟩
theorem v_isiT {K : PySem.W.Frag} {H : Hp} {Q : VK} {a : Addr} {ys : List V} {T : String} {b : Bool} (hq : SqT K H a ys) (e : PySem.W.kitOne K (.type "tuple") (.type T) = some b) (h : Q (.bl b) H) : rIsi K [.ref a, .ty T] H Q := .inr ⟨a, ys, T, b, rfl, hq, e, h⟩
example (K : PySem.W.Frag) : PySem.W.kitOne K (.type "str") (.type "str") = some true := by rfl
example (K : PySem.W.Frag) : PySem.W.kitOne K (.type "bool") (.type "int") = some true := by rfl
example (K : PySem.W.Frag) : PySem.W.kitOne K (.type "int") (.type "bool") = some false := by rfl
example (K : PySem.W.Frag) : PySem.W.kitOne K (.type "list") (.type "list") = some true := by rfl
end
end L2
namespace L2
open PySem PySem.Spec PyProof.Rows PySem.SeqAt
section
variable {X : Cx} {pins : List (Addr × Obj)} {σ : List (Option V)} {H : Hp} {s : Shared} {h' : Heap}
theorem Inv.turnLaid {a : Addr} {o : HO} {t' : Nat} {ch : List Addr} (I : Inv X pins σ H s) (hf : ∀ b ∈ ch, FpOk X pins H b)
    (k : ∀ b u, b ∉ ch → s.heap.get? b = some u → h'.get? b = some u) (hp : s.heap.objs.size ≤ a) (new : ObjOk X.prog X.w (upd H a o) h' a o) (ht : 0 < t') :
    Inv X pins σ (upd H a o) { s with heap := h', toks := t' } := by
  have hn : H a = none := I.hok.fresh hp
  have nit : ∀ b u, H b = some u → b ∉ ch := fun b u e z => by rw [(hf b z).1] at e; cases e
  have up : ∀ {b : Addr} {u : HO}, H b = some u → upd H a o b = some u := fun {b u} e => by rw [upd_ne (ne_of_none e hn)]; exact e
  have neA : ∀ b u, s.heap.get? b = some u → b ≠ a := fun b u e => Nat.ne_of_lt (Nat.lt_of_lt_of_le (Heap.lt_size e) hp)
  refine I.step (g' := s.gens) (d' := s.drawn) (ch := ch) (fun b hb => ?_) (fun b u _ _ hc e _ => k b u hc e) (fun b u _ _ hc e _ => ⟨u.slots, k b u hc e⟩) (fun b u _ e n => by rw [upd_ne (neA b u e)]; exact n)
    (fun b u hc e => ⟨u, k b u hc e⟩) (fun _ _ e => up e) (fun _ _ _ e => up e) (fun b ps e => ⟨#[], by rw [up e]; simp⟩) (fun m hm => ?_) (fun b u e => ?_) I.bare ht
  · obtain ⟨f0, f1, f2, f3, f4, f5⟩ := hf b hb
    exact ⟨f3, f1, f4, f5⟩
  · obtain ⟨ob, es, ep, ho, r⟩ := hm
    exact ⟨ob, es, ep, k _ ob (fun z => (hf _ z).2.1 rfl) ho, r⟩
  · by_cases hb : b = a
    · subst hb; rw [upd_same] at e; cases e; exact new
    · rw [upd_ne hb] at e
      refine (I.hok b u e).stay (fun c v hc q => k c v ?_ q) (fun _ q => up q) fun _ _ q => up q
      rcases hc with z | z
      · rw [z]; exact nit b u e
      · exact nit c _ z
end
section
variable {X : Cx} {pins : List (Addr × Obj)} {σ : List (Option V)} {H : Hp} {s : Shared} {h' : Heap}
theorem Inv.turnedL {t' : Nat} {ch : List Addr} (I : Inv X pins σ H s) (hf : ∀ b ∈ ch, FpOk X pins H b) (k : ∀ b u, b ∉ ch → s.heap.get? b = some u → h'.get? b = some u) (ht : 0 < t') :
    Inv X pins σ H { s with heap := h', toks := t' } := by
  have nit : ∀ b u, H b = some u → b ∉ ch := fun b u e z => by rw [(hf b z).1] at e; cases e
  refine I.step (g' := s.gens) (d' := s.drawn) (ch := ch) (fun b hb => ?_) (fun b u _ _ hc e _ => k b u hc e) (fun b u _ _ hc e _ => ⟨u.slots, k b u hc e⟩) (fun _ _ _ _ n => n)
    (fun b u hc e => ⟨u, k b u hc e⟩) (fun _ _ e => e) (fun _ _ _ e => e) (fun b ps e => ⟨#[], by rw [e]; simp⟩) (fun m hm => ?_) (fun b u e => ?_) I.bare ht
  · obtain ⟨f0, f1, f2, f3, f4, f5⟩ := hf b hb
    exact ⟨f3, f1, f4, f5⟩
  · obtain ⟨ob, es, ep, ho, r⟩ := hm
    exact ⟨ob, es, ep, k _ ob (fun z => (hf _ z).2.1 rfl) ho, r⟩
  · refine (I.hok b u e).stay (fun c v hc q => k c v ?_ q) (fun _ q => q) fun _ _ q => q
    rcases hc with z | z
    · rw [z]; exact nit b u e
    · exact nit c _ z
end
noncomputable def cutS (x : Str) (lo hi : Option Int) : Str := ⟨((x.cps.toList.drop (HT.sIx x.cps.toList.length 0 lo)).take (HT.sIx x.cps.toList.length x.cps.toList.length hi - HT.sIx x.cps.toList.length 0 lo)).toArray⟩
def rSlS : V → Option Int → Option Int → Hp → VK → Prop := fun x lo hi H Q => ∃ z, x = .str z ∧ z.length ≤ sizeLine ∧ Q (.str (cutS z lo hi)) H
theorem pick_cutS (x : Str) (lo hi : Option Int) : (⟨((Builtin.Str.strSliceIndices lo hi 1 x.length).filterMap (x.cps[·]?)).toArray⟩ : Str) = cutS x lo hi := by
  obtain ⟨h1, h2, h3⟩ := slice_bounds lo hi x.length
  have e : Builtin.Str.strSliceIndices lo hi 1 x.length = sliceRange (sliceBounds lo hi none x.length).1 (sliceBounds lo hi none x.length).2.1 (sliceBounds lo hi none x.length).2.2 := rfl
  rw [e, h1, h2, h3]
  unfold cutS
  rw [sliceRange_one, pick_run]
  rfl
theorem sIx_le (n d : Nat) (o : Option Int) (h : d ≤ n) : HT.sIx n d o ≤ n := by
  cases o with
  | none => exact h
  | some v =>
    show (if v < 0 then (v + (n : Int)).toNat else min v.toNat n) ≤ n
    split <;> omega
theorem sl_str {X : Cx} : SlR X rSlS := by
  intro pins s σ H x v vl vu lo hi sl Q I rx hs pl pu h
  obtain ⟨z, rfl, hz, q⟩ := h
  obtain ⟨t, rfl⟩ := rx
  refine ⟨"str", _, PySem.F.slot_str_getitem.lookup, typeIs_str _ _ _, ?_⟩
  have part : ∀ {v : Value} {k : Option Int}, IsPart v k → ∃ l : Option (Int × Tok), v = partValue l ∧ l.map (·.1) = k := fun {v k} h => by
    cases h with
    | none => exact ⟨none, rfl, rfl⟩
    | int i t => exact ⟨some (i, t), rfl, rfl⟩
  obtain ⟨l, rfl, el⟩ := part pl
  obtain ⟨u, rfl, eu⟩ := part pu
  refine wpAny_getItem_str_slice (l := l) (u := u) (st := none) hs rfl ?_
  have ep : slicePicked z l u none = Builtin.Str.strSliceIndices lo hi 1 z.length := by unfold slicePicked; rw [el, eu]; rfl
  have ec := pick_cutS z lo hi
  unfold sliceMade
  rw [ep]
  split
  · rename_i hc
    have hlen : (Builtin.Str.strSliceIndices lo hi 1 z.length).length = z.length := by simpa using hc
    have : cutS z lo hi = z := by
      obtain ⟨h1, h2, h3⟩ := slice_bounds lo hi z.length
      have e : Builtin.Str.strSliceIndices lo hi 1 z.length = sliceRange (sliceBounds lo hi none z.length).1 (sliceBounds lo hi none z.length).2.1 (sliceBounds lo hi none z.length).2.2 := rfl
      rw [e, h1, h2, h3, sliceRange_one, List.length_map, List.length_range] at hlen
      have hb := sIx_le z.length z.length hi (Nat.le_refl _)
      have el : z.cps.toList.length = z.length := Array.length_toList
      obtain ⟨⟨l⟩⟩ := z
      unfold cutS
      rw [el, hlen]
      by_cases h0 : HT.sIx (Str.length ⟨⟨l⟩⟩) 0 lo = 0
      · rw [h0, List.drop_zero, List.take_of_length_le (Nat.le_of_eq el)]
      · have : Str.length ⟨⟨l⟩⟩ = 0 := by omega
        rw [this, List.take_zero]
        have : l = [] := List.eq_nil_of_length_eq_zero (by rw [← this]; exact el.symm ▸ rfl)
        rw [this]
    rw [this] at q
    exact ⟨.str z, H, I, ⟨_, rfl⟩, q⟩
  · rw [ec]
    refine ⟨?_, .str _, H, I.tok _, ⟨_, rfl⟩, q⟩
    have : (cutS z lo hi).length ≤ z.length := by
      unfold cutS Str.length
      simp only [List.size_toArray, List.length_take, List.length_drop, Array.length_toList]
      omega
    omega
def rSlA (K : PySem.W.Frag) : V → Option Int → Option Int → Hp → VK → Prop := fun x lo hi H Q => rSlS x lo hi H Q ∨ rSlT K x lo hi H Q ∨ rSlL K x lo hi H Q
theorem sl_any {X : Cx} : SlR X (rSlA X.K) := sl_str.or (sl_tup.or sl_list)
section
variable {K : PySem.W.Frag} {σ : St} {H : Hp} {Q : VK}
theorem v_slL {a : Addr} {xs : List V} {lo hi : Option Int} (hx : SqL K H a xs) (h : ∀ p, H p = none → Q (.ref p) (upd H p (.lst (cutV xs lo hi)))) : rSlA K (.ref a) lo hi H Q := .inr (.inr ⟨a, xs, rfl, hx, h⟩)
theorem st_sl {r : V → Option Int → Option Int → Hp → VK → Prop} {te : TE} {tl th : TO} (h : te σ H fun x H1 => tl σ H1 fun l H2 => th σ H2 fun u H3 => r x l u H3 Q) : tSl r te tl th σ H Q := h
theorem st_part {t : TE} {R : Option Int → Hp → Prop} (h : t σ H fun x H1 => ∃ i, x = .int i ∧ R (some i) H1) : tPart t σ H R := h
theorem st_nopart {R : Option Int → Hp → Prop} (h : R none H) : tNoPart σ H R := h
theorem st_int {i : Int} {R : Int → Prop} (h : R i) : ∃ j, V.int i = .int j ∧ R j := ⟨i, rfl, h⟩
theorem v_eqS {x y : Str} (h : Q (.bl (decide (x = y))) H) : rEqA K (.str x) (.str y) H Q := by
  refine v_eq rfl ?_
  have e : (decide ((V.str x) = V.str y)) = decide (x = y) := by simp
  rw [e]; exact h
theorem v_neS {x y : Str} (h : Q (.bl (!decide (x = y))) H) : rNeA K (.str x) (.str y) H Q := by
  refine v_ne rfl ?_
  have e : (decide ((V.str x) = V.str y)) = decide (x = y) := by simp
  rw [e]; exact h
theorem v_eqI {x y : Int} (h : Q (.bl (decide (x = y))) H) : rEqA K (.int x) (.int y) H Q := by
  refine v_eq rfl ?_
  have e : (decide ((V.int x) = V.int y)) = decide (x = y) := by simp
  rw [e]; exact h
theorem v_neI {x y : Int} (h : Q (.bl (!decide (x = y))) H) : rNeA K (.int x) (.int y) H Q := by
  refine v_ne rfl ?_
  have e : (decide ((V.int x) = V.int y)) = decide (x = y) := by simp
  rw [e]; exact h
end
def tStrs (xs : List Str) : TA := fun _ H R => R (strV xs) H
theorem pa_s0 {X : Cx} : PA X [] (tStrs []) := pa_nil
theorem pa_s1 {X : Cx} {es : List Expr} {xs : List Str} {x : Str} {j : Nat} {p : Pos} (h : PA X es (tStrs xs)) : PA X (.Constant (.str x) j p :: es) (tStrs (x :: xs)) := pa_cons (te := tC (.str x)) pe_str h
theorem st_strs {σ : St} {H : Hp} {xs : List Str} {R : List V → Hp → Prop} (h : R (strV xs) H) : tStrs xs σ H R := h
end L2
namespace L2
open PySem PySem.Spec PyProof.Rows PySem.SeqAt PySem.Builtin PySem.Builtin.Str
section
variable {X : Cx}
theorem blVals : ∀ {bs : List Bool} {us : List Value}, Vals (bs.map V.bl) us → us = bs.map Value.bool
  | [], _, h => by cases h; rfl
  | b :: bs, _, h => by
    have h : Vals (V.bl b :: bs.map V.bl) _ := h
    cases h with
    | cons r t => rw [blVals t]; cases (show _ = Value.bool b from r); rfl
theorem range_any (bs : List Bool) : (List.range bs.length).any (fun i => (bs[i]?).getD false) = bs.any id := by
  rw [Bool.eq_iff_iff, List.any_eq_true, List.any_eq_true]
  constructor
  · rintro ⟨i, hi, h⟩
    have hi := List.mem_range.mp hi
    rw [List.getElem?_eq_getElem hi] at h
    exact ⟨_, List.getElem_mem hi, h⟩
  · rintro ⟨b, hb, h⟩
    obtain ⟨i, hi, e⟩ := List.getElem_of_mem hb
    exact ⟨i, List.mem_range.mpr hi, by rw [List.getElem?_eq_getElem hi, e]; exact h⟩
def r_any (K : PySem.W.Frag) : List V → Hp → VK → Prop := fun xs H Q => ∃ (p : Addr) (bs : List Bool), xs = [.ref p] ∧ SqL K H p (bs.map V.bl) ∧ Q (.bl (bs.any id)) H
theorem call_anyA (hc : X.calm = true) : CallR X (.builtin "any") (r_any X.K) := by
  intro pins s σ H xs us Q I r h
  obtain ⟨p, bs, rfl, hq, q⟩ := h
  obtain ⟨u, rfl, ru⟩ := vals1 r
  cases ru
  obtain ⟨its, rv, pl, hz⟩ := I.list hq
  have ei := blVals rv
  subst ei
  refine wpAny_with_toks (n := 1) I.tk (call_any_walk (wpAny_pyIter_list pl.isList ?_))
  have ne : p ≠ s.heap.objs.size := Nat.ne_of_lt (by obtain ⟨o, e, _⟩ := pl.isList; exact Heap.lt_size e)
  refine ⟨_, _, _, _, _, _, fun i => (bs[i]?).getD false, rfl, Walks.list (show X.A.in1.handled = none from I.ok.hd hc) s.heap.objs.size p ne _, ⟨⟨_, Heap.get?_push_size _ rfl, rfl, rfl⟩, pl.isList.at fun o e => Heap.get?_push_of_some _ e⟩, ?_, fun h' tk hk ht => ?_⟩
  · intro i v s Q E hP hQ
    have hP : (bs.map Value.bool)[i]? = some v := by simpa using hP
    rw [List.getElem?_map] at hP
    obtain ⟨b, hb, rfl⟩ := Option.map_eq_some_iff.mp hP
    have hQ : Q ((bs[i]?).getD false) s := hQ
    rw [hb] at hQ
    exact wpAny_pure hQ
  · refine ⟨.bl (bs.any id), H, I.kept (fun b o e => hk b o ?_ (Heap.get?_push_of_some _ e)) ht, ?_, q⟩
    · intro z
      have : b = s.heap.objs.size := by simpa using z
      exact absurd (Heap.lt_size e) (by rw [this]; exact Nat.lt_irrefl _)
    · show Value.bool _ = Value.bool _
      rw [← range_any bs]
      congr 2
      simp
section
variable {K : PySem.W.Frag} {σ : St} {H : Hp} {Q : VK}
theorem v_any {p : Addr} {bs : List Bool} (h : SqL K H p (bs.map V.bl)) (q : Q (.bl (bs.any id)) H) : r_any K [.ref p] H Q := ⟨p, bs, rfl, h, q⟩
end
end
end L2
namespace L2
open PySem PySem.Spec PyProof.Rows PySem.SeqAt
theorem range_rev (n : Nat) : ((List.range n).map fun (k : Nat) => ((n : Int) - 1 + -1 * (k : Int)).toNat) = (List.range n).reverse := by
  apply List.ext_getElem
  · simp
  · intro i h1 h2
    simp only [List.getElem_map, List.getElem_range, List.getElem_reverse, List.length_range]
    simp only [List.length_map, List.length_range] at h1
    omega
theorem pick_range {α : Type} (xs : List α) : (List.range xs.length).filterMap (xs[·]?) = xs := by
  induction xs with
  | nil => rfl
  | cons x xs ih =>
    rw [List.length_cons, List.range_succ_eq_map, List.filterMap_cons, List.filterMap_map]
    show x :: _ = _
    congr 1
theorem slicePick_rev (items : List Value) : slicePick items.toArray none none (some (-1)) = items.reverse.toArray := by
  unfold slicePick sliceBounds sliceRange
  simp only [Option.getD_some, List.size_toArray]
  have h : ¬ ((-1 : Int) > 0) := by decide
  simp only [if_neg h]
  have ec : (if (items.length : Int) - 1 > -1 then ((items.length : Int) - 1 - -1 - -1 - 1) / (- -1) else 0).toNat = items.length := by
    by_cases h0 : (items.length : Int) - 1 > -1
    · rw [if_pos h0]
      have : (- -1 : Int) = 1 := by decide
      rw [this, Int.ediv_one]; omega
    · rw [if_neg h0]; omega
  rw [ec, range_rev, List.filterMap_reverse]
  congr 2
  have : (fun (x : Nat) => (items.toArray)[x]?) = fun (x : Nat) => items[x]? := by funext x; simp
  rw [this, pick_range]
section
variable {X : Cx}
def tRev3 (K : PySem.W.Frag) (te : TE) : TE := fun σ H Q => te σ H fun x H1 => ∃ a xs, x = .ref a ∧ SqL K H1 a xs ∧ ∀ p, H1 p = none → Q (.ref p) (upd H1 p (.lst xs.reverse))
theorem pe_rev3 {e k : Expr} {te : TE} {p2 pos : Pos} (he : PE X e te) (hk : PE X k (tUn (rU fun i => .int (-i)) (tC (.int 1)))) : PE X (.Subscript e (.Slice none none (some k) p2) pos) (tRev3 X.K te) := by
  intro pins s σ H Q I h
  refine Subscript_ (thn (he pins s σ H _ I h) fun v s1 ⟨x, H1, I1, r1, q1⟩ => ?_)
  obtain ⟨a, xs, rfl, hx, q⟩ := q1
  refine wpAny_Slice ?_
  rw [evalPart_none]
  refine wpAny_pure (wpAny_pure ?_)
  rw [evalPart_some]
  refine thn (hk pins s1 σ H1 (fun y H2 => y = .int (-1) ∧ H2 = H1) I1 ⟨1, rfl, rfl, rfl⟩) fun vk s2 ⟨y, H2, I2, r2, ey, eH⟩ => ?_
  subst ey
  subst eH
  obtain ⟨tk, rfl⟩ := r2
  have I4 : Inv X pins σ H2 { s2 with heap := s2.heap.push { cls := .type "slice", data := .fields #[.none, .none, .int (-1) tk] } } := I2.kept (t' := s2.toks) fun b ob q => Heap.get?_push_of_some _ q
  cases r1
  obtain ⟨its, r, ht, hz⟩ := I4.list hx
  have hlen := r.length
  refine tail_any (ops := [.ref a, .ref s2.heap.objs.size]) ht.isList.typeIs slot_list_getitem.lookup ?_ (by with_unfolding_all rfl)
  refine wpAny_getItem_list_slice ht.isList (Heap.IsSliceOf.new ..) .none .none (.int (-1) tk) (by simp) ?_ (by rw [List.size_toArray] <;> omega)
  rw [slicePick_rev]
  refine ⟨.ref _, _, I4.laid (t' := s2.toks) (o := .lst xs.reverse) (fun b ob q => Heap.get?_push_of_some _ q) (Nat.le_refl _) ?_, rfl, q _ (I4.hok.fresh (Nat.le_refl _))⟩
  exact ⟨by rw [List.length_reverse]; exact hz, _, 0, Vals.reverse r, Heap.get?_push_size _ rfl⟩
end
section
variable {σ : St} {H : Hp} {Q : VK} {K : PySem.W.Frag}
theorem st_rev3 {te : TE} (h : te σ H fun x H1 => ∃ a xs, x = .ref a ∧ SqL K H1 a xs ∧ ∀ p, H1 p = none → Q (.ref p) (upd H1 p (.lst xs.reverse))) : tRev3 K te σ H Q := h
theorem st_bm0 {T : String} {r : V → List V → Hp → VK → Prop} {to : TE} (h : to σ H fun x H1 => tyV K T x H1 ∧ r x [] H1 Q) : tBM0 K T r to σ H Q := h
theorem v_pop {p : Addr} {xs : List V} {y : V} (h1 : H p = some (.lst (xs ++ [y]))) (h : Q y (upd H p (.lst xs))) : rPop (.ref p) [] H Q :=
  ⟨p, xs ++ [y], y, rfl, rfl, h1, by simp, by rw [List.dropLast_concat]; exact h⟩
end
section
variable {prog : Program} {w : World} {A : Around} {E : Value → Shared → Prop} {s : Shared}
theorem getItem_tuple_whole {t sl : Addr} {items : Array Value} {vl vu : Value} {lo hi : Option Int} {Q : Value → Shared → Prop} (ht : IsTup s.heap t items) (hs : s.heap.IsSliceOf sl vl vu .none) (pl : IsPart vl lo) (pu : IsPart vu hi)
    (hw : HT.sIx items.size 0 lo = 0 ∧ HT.sIx items.size items.size hi = items.size) (h : Q (.ref t) s) : wpAny (model prog w) A (getItem (.ref t) (.ref sl)) Q E s := by
  obtain ⟨os, hos, hcs, hds⟩ := id hs
  have hTs : s.TypeIs (.ref sl) "slice" := ⟨os, hos, hcs⟩
  unfold getItem
  try with_reducible refine wpAny_holding ?_
  first | refine wpAny_bind (wpAny_pure ?_) | skip
  refine wpAny_bind (wpAny_sequenceKey ht.typeIs (by decide) ?_)
  refine wpAny_bind (wpAny_callSpecial?_slot (name := Str.ofString "__getitem__") ht.typeIs PyProof.Rows.slot_tuple_getitem
    (wpAny_call_entry PyProof.Rows.slot_tuple_getitem ht.typeIs entry_tuple_getitem ?_ (args_tuple_getitem _ _)))
  show wpAny _ _ (Builtin.Tuple.tupleItemsOf (.ref t) >>= _) _ _ s
  refine wpAny_bind (tupleItemsOf_ ht ?_)
  refine wpAny_bind (wpAny_typeOf hTs ?_)
  rw [if_pos (by decide)]
  refine wpAny_bind (HT.sliceApplied_gen hs pl pu ?_)
  have hyes : ((((HT.sIx items.size 0 lo : Nat) : Int) == 0 && (1 : Int) == 1 && (HT.sIx items.size items.size hi - HT.sIx items.size 0 lo) == items.size) = true) := by
    rw [hw.1, hw.2]; simp
  show wpAny _ _ (if (((HT.sIx items.size 0 lo : Nat) : Int) == 0 && (1 : Int) == 1 && (HT.sIx items.size items.size hi - HT.sIx items.size 0 lo) == items.size) = true then _ else _) _ _ s
  rw [if_pos hyes]
  refine wpAny_bind (m := Builtin.Tuple.tupleIsExact (.ref t)) ?_
  unfold Builtin.Tuple.tupleIsExact
  refine wpAny_bind (wpAny_typeOf ht.typeIs (wpAny_pure ?_))
  rw [if_pos (by decide)]
  first
    | exact wpAny_bind (wpAny_rule (wpAny_bind (wpAny_pure ⟨_, rfl, wpAny_pure h⟩)))
    | exact wpAny_bind (wpAny_rule (wpAny_pure ⟨_, rfl, wpAny_pure h⟩))
    | exact wpAny_bind (wpAny_rule (wpAny_pure (wpAny_pure ⟨_, rfl, wpAny_pure h⟩)))
end
section
variable {X : Cx}
def rSlW (K : PySem.W.Frag) : V → Option Int → Option Int → Hp → VK → Prop := fun x lo hi H Q => ∃ a xs, x = .ref a ∧ SqT K H a xs ∧ (HT.sIx xs.length 0 lo = 0 ∧ HT.sIx xs.length xs.length hi = xs.length) ∧ Q (.ref a) H
theorem sl_tupW : SlR X (rSlW X.K) := by
  intro pins s σ H x v vl vu lo hi sl Q I rx hs pl pu h
  obtain ⟨a, xs, rfl, hx, hw, q⟩ := h
  cases rx
  obtain ⟨its, r, ht, hz⟩ := I.tuple hx
  have hlen : its.toArray.size = xs.length := by rw [List.size_toArray]; exact r.length.symm
  refine ⟨"tuple", _, PyProof.Rows.slot_tuple_getitem.lookup, ht.typeIs, ?_⟩
  exact getItem_tuple_whole ht hs pl pu (by rw [hlen]; exact hw) ⟨.ref a, H, I, rfl, q⟩
def rSlB (K : PySem.W.Frag) : V → Option Int → Option Int → Hp → VK → Prop := fun x lo hi H Q => rSlA K x lo hi H Q ∨ rSlW K x lo hi H Q
theorem sl_anyB : SlR X (rSlB X.K) := sl_any.or sl_tupW
def rCat0 (K : PySem.W.Frag) : R2 := fun x y H Q => ∃ a b ys, x = .ref a ∧ y = .ref b ∧ SqT K H a [] ∧ SqT K H b ys ∧ Q (.ref b) H
theorem op_cat0 : OpR X (binaryOp .Add) (rCat0 X.K) := by
  intro pins s σ H x y v u Q I rx ry h
  obtain ⟨a, b, ys, rfl, rfl, ha, hb, q⟩ := h
  cases rx
  cases ry
  obtain ⟨its, r1, p1, _⟩ := I.tuple ha
  obtain ⟨its2, r2, p2, _⟩ := I.tuple hb
  cases r1
  obtain ⟨⟨cls, dd, data, sl⟩, ho, hc, n, hd⟩ := id p1
  obtain ⟨⟨cls2, dd2, data2, sl2⟩, ho2, hc2, n2, hd2⟩ := id p2
  simp only at hc hd hc2 hd2
  subst hc hd hc2 hd2
  exact concat_meets ⟨_, ho, rfl⟩ ⟨_, ho2, rfl⟩ noFill_tuple_add seq_tuple_add PySem.F.slot_tuple_add PySem.F.entry_tuple_add (PySem.F.args_tuple_add_2 _ _)
      (tuple_addW0 a b _ its2.toArray n n2 dd dd2 sl sl2 (by simp)) ⟨ho, ho2, ⟨.ref b, H, I, rfl, q⟩⟩
def rAddB (K : PySem.W.Frag) : R2 := fun x y H Q => rAddA K x y H Q ∨ rCat0 K x y H Q
theorem op_addB : OpR X (binaryOp .Add) (rAddB X.K) := op_addA.or op_cat0
end
section
variable {H : Hp} {Q : VK} {K : PySem.W.Frag}
theorem v_catT {a b : Addr} {xs ys : List V} (h1 : SqT K H a xs) (h2 : SqT K H b ys) (hz : xs.length + ys.length ≤ sizeLine) (h : ∀ p H', Same H H' → SqT K H' p (xs ++ ys) → Q (.ref p) H') : rAddB K (.ref a) (.ref b) H Q := by
  by_cases hx : xs = []
  · subst hx
    exact .inr ⟨a, b, ys, rfl, rfl, h1, h2, h b H (fun _ _ e => e) h2⟩
  · refine .inl (.inr (.inr (.inr ⟨a, b, xs, ys, rfl, rfl, h1, h2, hx, hz, fun hy => ?_, fun hy p hp => h p _ (Same.new hp _) (SqT.of upd_same)⟩)))
    subst hy
    exact h a H (fun _ _ e => e) (by rw [List.append_nil]; exact h1)
theorem v_slT {a : Addr} {xs : List V} {lo hi : Option Int} (h1 : SqT K H a xs) (h : ∀ p H', Same H H' → SqT K H' p (cutV xs lo hi) → Q (.ref p) H') : rSlB K (.ref a) lo hi H Q := by
  by_cases hw : HT.sIx xs.length 0 lo = 0 ∧ HT.sIx xs.length xs.length hi = xs.length
  · refine .inr ⟨a, xs, rfl, h1, hw, h a H (fun _ _ e => e) ?_⟩
    unfold cutV
    rw [hw.1, hw.2, List.drop_zero, Nat.sub_zero, List.take_length]; exact h1
  · exact .inl (.inr (.inl ⟨a, xs, rfl, h1, hw, fun p hp => h p _ (Same.new hp _) (SqT.of upd_same)⟩))
end
def iRng3 (ta : TA) : TI := fun σ H R => ta σ H fun vs H1 => ∃ n : Nat, vs = [.int ((n : Int) - 1), .int (-1), .int (-1)] ∧ (n : Int) < 2 ^ 62 ∧ R (Itv n) H1
theorem size_down (n : Nat) : Builtin.Range.rangeSize ((n : Int) - 1) (-1) (-1) = n := by
  unfold Builtin.Range.rangeSize
  rw [if_neg (by decide)]
  have e : (- (-1) : Int) = 1 := by decide
  rw [e, Int.ediv_one]
  split <;> omega
theorem pi_range3 {X : Cx} {tg : Expr} {a b c : Expr} {ta : TA} {p pos : Pos} (hg : Gl X "range") (hm : X.mg "range" = none) (ha : PA X [a, b, c] ta)
    (hs : autoParam (starEach [a, b, c] X.env = (false, eval a X.env) :: starEach [b, c] X.env) L2.au._auto_1) (hs2 : autoParam (starEach [b, c] X.env = [(false, eval b X.env), (false, eval c X.env)]) L2.au._auto_1) :
    PI X tg (.Call (.Name "range" p) [a, b, c] [] pos) (iRng3 ta) := by
  intro pins s σ H R I h
  refine Call_ (ld_blt I hg hm boot_range (PyProof.Rows.callWith_type1 (thn (ha pos pins s σ H _ I h) fun us s1 ⟨vs, H1, I1, r1, q1⟩ => ?_) hs (by rw [hs2]; rfl)))
  obtain ⟨n, e, q1, q⟩ := q1
  subst e
  cases r1 with
  | cons r rr =>
    cases rr with
    | cons r' rr =>
      cases rr with
      | cons r'' rr =>
        cases rr
        obtain ⟨t, rfl⟩ := r
        obtain ⟨t', rfl⟩ := r'
        obtain ⟨t'', rfl⟩ := r''
        refine call_range_3 (by decide) ?_ (Or.inl (PyProof.noPylong_small (by decide)))
        have I2 : Inv X pins σ H1 { s1 with heap := s1.heap.push { cls := .type "range", data := .fields #[.int ((n : Int) - 1) t, .int (-1) t', .int (-1) t''] }, toks := s1.toks } := I1.kept (t' := s1.toks) fun b o e => Heap.get?_push_of_some _ e
        refine wpAny_pyIter_range (IsRange.new ..) ?_ ?_
        · unfold Builtin.Range.small
          rw [size_down]
          simp only [Builtin.Range.rangeFitsLong, Bool.and_eq_true, Bool.or_eq_true, decide_eq_true_eq, beq_iff_eq, show ¬ ((-1 : Int) > 0) by decide, if_false]
          omega
        refine ⟨_, [_], _, _, H1, rfl, I2.kept (t' := s1.toks) fun b o e => Heap.get?_push_of_some _ e, turn_rev _ n, ?_, fun b hb => ?_, q⟩
        · have e1 : (n : Int) - 1 + ((0 : Nat) : Int) * (-1) = (n : Int) - 1 := by simp
          have e2 : (n : Int) - ((0 : Nat) : Int) = n := by simp
          rw [e1, e2]
          have := Heap.get?_push_size (s1.heap.push { cls := .type "range", data := .fields #[.int ((n : Int) - 1) t, .int (-1) t', .int (-1) t''] }) (o := { cls := .type "range_iterator", data := .fields #[rawInt ((n : Int) - 1), rawInt (Builtin.Range.rangeSize ((n : Int) - 1) (-1) (-1)), rawInt (-1)] }) rfl
          rw [size_down] at this ⊢
          exact this
        · have e : b = (s1.heap.push { cls := .type "range", data := .fields #[.int ((n : Int) - 1) t, .int (-1) t', .int (-1) t''] }).objs.size := by simpa using hb
          subst e
          exact I2.fpOk (Nat.le_refl _) (I2.hok.fresh (Nat.le_refl _))
section
variable {σ : St} {H : Hp}
theorem st_rng3 {ta : TA} {R : It → Hp → Prop} (h : ta σ H fun vs H1 => ∃ n : Nat, vs = [.int ((n : Int) - 1), .int (-1), .int (-1)] ∧ (n : Int) < 2 ^ 62 ∧ R (Itv n) H1) : iRng3 ta σ H R := h
end
section
variable {prog : Program} {w : World} {A : Around} {E : Value → Shared → Prop} {s : Shared}
theorem nextOf_tuple_item {it l : Addr} {i : Nat} {items} {x : Value} {Q : Value → Shared → Prop} (hit : s.heap.IsTupleIter it l i) (hl : s.heap.IsTuple l items) (hx : items[i]? = some x)
    (hQ : ∀ h', h'.IsTupleIter it l (i + 1) → Heap.SameBut it s.heap h' → Q x { s with heap := h' }) :
    wpAny (model prog w) A (Builtin.SmallTypes.nextOf (.ref it)) Q E s := by
  obtain ⟨o, ho, hc, hd⟩ := id hit
  obtain ⟨ol, hol, _, nl, hdl⟩ := hl
  unfold Builtin.SmallTypes.nextOf
  refine wpAny_bind (wpAny_callSpecial?_slot (name := Str.ofString "__next__") hit.typeIs F.slot_tuple_iterator_next
    (wpAny_call_entry F.slot_tuple_iterator_next hit.typeIs F.entry_tuple_iterator_next ?_ (F.args_tuple_iterator_next_1 _)))
  show wpAny _ _ (field (.ref it) 0 >>= _) _ _ s
  refine wpAny_bind (wpAny_field ho hd (x := .ref l) rfl ?_)
  show wpAny _ _ (if (Value.ref l == Value.none) = true then _ else _) _ _ s
  rw [if_neg (show ¬ ((Value.ref l == Value.none) = true) from Bool.false_ne_true)]
  show wpAny _ _ (field (.ref it) 1 >>= _) _ _ s
  refine wpAny_bind (wpAny_field ho hd (x := .int i 0) rfl ?_)
  show wpAny _ _ (seqItems? (.ref l) >>= _) _ _ s
  refine wpAny_bind (wpAny_seqItems hol hdl ?_)
  simp only [Int.toNat_natCast, hx]
  refine wpAny_bind (wpAny_setField ho hd (by simp) (wpAny_pure ⟨x, rfl, wpAny_pure (hQ _ ?_ (Heap.SameBut.update ..))⟩))
  exact ⟨_, Heap.get?_update_self _ ho (Obj.isFreed_of_fields (Obj.data_mapFields hd _)), (Obj.cls_mapFields ..).trans hc, by
    rw [Obj.data_mapFields hd]; simp [rawInt]⟩
theorem nextOf_tuple_end {it l : Addr} {i : Nat} {items} {Q : Value → Shared → Prop} (hh : A.handled = none) (hit : s.heap.IsTupleIter it l i) (hl : s.heap.IsTuple l items) (hx : items[i]? = none)
    (hE : ∀ h' e, Heap.ExtBut it s.heap h' → (∃ o, h'.get? e = some o ∧ o.cls = .type "StopIteration") → E (.ref e) { s with heap := h' }) :
    wpAny (model prog w) A (Builtin.SmallTypes.nextOf (.ref it)) Q E s := by
  obtain ⟨o, ho, hc, hd⟩ := id hit
  obtain ⟨ol, hol, _, nl, hdl⟩ := hl
  unfold Builtin.SmallTypes.nextOf
  refine wpAny_bind (wpAny_callSpecial?_slot (name := Str.ofString "__next__") hit.typeIs F.slot_tuple_iterator_next
    (wpAny_call_entry F.slot_tuple_iterator_next hit.typeIs F.entry_tuple_iterator_next ?_ (F.args_tuple_iterator_next_1 _)))
  show wpAny _ _ (field (.ref it) 0 >>= _) _ _ s
  refine wpAny_bind (wpAny_field ho hd (x := .ref l) rfl ?_)
  show wpAny _ _ (if (Value.ref l == Value.none) = true then _ else _) _ _ s
  rw [if_neg (show ¬ ((Value.ref l == Value.none) = true) from Bool.false_ne_true)]
  show wpAny _ _ (field (.ref it) 1 >>= _) _ _ s
  refine wpAny_bind (wpAny_field ho hd (x := .int i 0) rfl ?_)
  show wpAny _ _ (seqItems? (.ref l) >>= _) _ _ s
  refine wpAny_bind (wpAny_seqItems hol hdl ?_)
  simp only [Int.toNat_natCast, hx]
  refine wpAny_bind (wpAny_rule (wpAny_bind (wpAny_setField ho hd (by simp) ?_)))
  show wpAny _ _ (newExc (.type "StopIteration") [] >>= _) _ _ _
  refine wpAny_bind ?_
  simp only [newExc, newTuple]
  refine wpAny_bind (wpAny_newObj_type ?_ (by size_fits))
  refine wpAny_bind (m := firstArgMember _ _) (wpAny_of_eq (a := Value.none) (by first | rfl | (simp only [firstArgMember]; rfl)) ?_)
  refine wpAny_newObj_type ?_ (by size_fits)
  simp only [raiseNew]
  refine wpAny_bind (wpAny_handled ?_)
  first | rw [show A.in1.handled = none from hh] | rw [hh]
  refine wpAny_bind (wpAny_pure (wpAny_throw ?_))
  exact hE _ _ (((Heap.SameBut.update ..).extBut.push _).push _) ⟨_, Heap.get?_push_size _ rfl, rfl⟩
end
theorem draws_tuple {prog : Program} {w : World} {A : Around} (hh : A.handled = none) (it l : Addr) (hne : l ≠ it) (items : Array Value) :
    Draws prog w A it [it, l] items.size (fun i v => items[i]? = some v) (fun i h => h.IsTupleIter it l i ∧ h.IsTuple l items) where
  live := fun _ _ st => let ⟨o, ho, _⟩ := st.1; ⟨o, ho⟩
  frame := fun _ _ _ st hk => ⟨st.1.at fun o e => hk it (by simp) o e, st.2.at fun o e => hk l (by simp) o e⟩
  item := fun i s Q E hi st hQ => by
    refine nextOf_tuple_item st.1 st.2 (x := items[i]) (by simp [hi]) fun h' hit' hs' => ?_
    exact hQ _ h' s.toks (by simp [hi]) ⟨hit', st.2.extBut hs'.extBut hne⟩ hs'
  done := fun s Q E st hE => nextOf_tuple_end hh st.1 st.2 (by simp) hE
set_option maxHeartbeats 1000000 in
theorem meets_enumerate_newT (l : Addr) (items : Array Value) (n : Nat) (dct : Option Addr) (sl : Array (Option Value)) :
    Meets (Builtin.«enumerate.__new__» ⟨[.type "enumerate", .ref l], []⟩) (fun _ R s => s.heap.get? l = some { cls := .type "tuple", dict := dct, data := .seq items n, slots := sl } ∧
      R (.ok (.ret (.ref (s.heap.push { cls := .type "tuple_iterator", data := .fields #[.ref l, .int 0 0] }).objs.size)))
        { s with heap := (s.heap.push { cls := .type "tuple_iterator", data := .fields #[.ref l, .int 0 0] }).push { cls := .type "enumerate", data := .fields #[.none, .bool false, .ref s.heap.objs.size, rawInt 0, .none, .none] } }) :=
  .of_wp fun prog w A R s h => by
    obtain ⟨hp, g, d, tk, os⟩ := s; obtain ⟨hl, h⟩ := h
    have hsub := sub_enumerate
    have hL : Heap.IsTuple (Shared.heap ⟨hp, g, d, tk, os⟩) l items := ⟨_, hl, rfl, n, rfl⟩
    wp_walk using AutoSeq1.wpAny_loadPart' hl
    refine wpAny_stack_any fun st => wpAny_pure ?_
    split
    · rename_i c _ _ _ _ _
      cases (c == Value.type "enumerate")
      · wp_walk using AutoSeq1.wpAny_loadPart' hl, wpAny_pyIter_tuple hL
        exact ⟨_, rfl, h⟩
      · wp_walk using AutoSeq1.wpAny_loadPart' hl, wpAny_pyIter_tuple hL
        exact ⟨_, rfl, h⟩
    · wp_walk using AutoSeq1.wpAny_loadPart' hl, wpAny_pyIter_tuple hL
      exact ⟨_, rfl, h⟩
theorem call_enumerate_tuple {prog : Program} {w : World} {A : Around} {E : Value → Shared → Prop} {s : Shared} {l : Addr} {items : Array Value} {Q : Value → Shared → Prop} (hL : s.heap.IsTuple l items)
    (h : ∀ h', IsEnum h' (s.heap.objs.size + 1) s.heap.objs.size 0 .none → h'.IsTupleIter s.heap.objs.size l 0 → h'.objs.size = s.heap.objs.size + 2 →
      (∀ b o, s.heap.get? b = some o → h'.get? b = some o) → Q (.ref (s.heap.objs.size + 1)) { s with heap := h' }) :
    wpAny (model prog w) A (call (.type "enumerate") [.ref l]) Q E s := by
  obtain ⟨⟨c, dct, dt, sl⟩, hl, hc, n, hd⟩ := hL
  replace hc : c = .type "tuple" := hc
  replace hd : dt = .seq items n := hd
  subst hc hd
  refine callType_new F.called_enumerate (by decide) (F.typeCall_enumerate_1 _) (F.newCall_enumerate_1 _) (fun obj => F.args_object_init_2 obj _) F.entry_enumerate_new
    (meets_enumerate_newT l items n dct sl) ⟨hl, ?_⟩
  have hz : (s.heap.push { cls := .type "tuple_iterator", data := .fields #[.ref l, .int 0 0] }).objs.size = s.heap.objs.size + 1 := Heap.size_push ..
  show _ ∧ _
  rw [hz]
  have he : IsEnum ((s.heap.push { cls := .type "tuple_iterator", data := .fields #[.ref l, .int 0 0] }).push
      { cls := .type "enumerate", data := .fields #[.none, .bool false, .ref s.heap.objs.size, rawInt 0, .none, .none] }) (s.heap.objs.size + 1) s.heap.objs.size 0 .none := by
    have := Heap.get?_push_size (s.heap.push { cls := .type "tuple_iterator", data := .fields #[.ref l, .int 0 0] })
      (o := { cls := .type "enumerate", data := .fields #[.none, .bool false, .ref s.heap.objs.size, rawInt 0, .none, .none] }) rfl
    rw [hz] at this; exact this
  refine ⟨⟨_, he, rfl⟩, h _ he ⟨_, Heap.get?_push_of_some _ (Heap.get?_push_size _ rfl), rfl, rfl⟩ (by rw [Heap.size_push, hz]) fun b o y => Heap.get?_push_of_some _ (Heap.get?_push_of_some _ y)⟩
noncomputable def Ite (K : PySem.W.Frag) (a : Addr) : It := ⟨fun i H => ∃ xs x, SqT K H a xs ∧ xs[i]? = some x, fun i H x H' => ∃ p y, x = .ref p ∧ H p = none ∧ (∀ xs, SqT K H a xs → xs[i]? = some y) ∧ H' = upd H p (.tup [.int i, y]), fun i H => ∃ xs, SqT K H a xs ∧ xs.length ≤ i⟩
theorem turn_enumT {P : Program} {w : World} {K : PySem.W.Frag} {elts : List Expr} {k : Nat} {pos : Pos} (a e it : Addr) (hei : e ≠ it) :
    Turn P w K (.Tuple elts k pos) (Ite K a) [e, it] e (fun i h => (∃ old, IsEnum h e it i old) ∧ h.IsTupleIter it a i) where
  mem := by simp
  obj := by
    rintro i h ⟨⟨old, e1⟩, o2, e2, _, d2⟩ b hb
    have hb : b = e ∨ b = it := by simpa using hb
    rcases hb with rfl | rfl
    · exact ⟨_, e1, fun v z => by cases (show Data.fields _ = Data.cell v from z)⟩
    · exact ⟨_, e2, fun v z => by rw [d2] at z; cases z⟩
  keep := fun i h h' st kk => ⟨let ⟨old, e1⟩ := st.1; ⟨old, kk e (by simp) _ e1⟩, st.2.at fun o q => kk it (by simp) o q⟩
  item := by
    intro X hP hw hK hc i pins s σ H E I hf st hg
    subst hP hw hK
    obtain ⟨xs, x, hq, hx⟩ := hg
    obtain ⟨its, rv, p, hz⟩ := I.tuple hq
    obtain ⟨u, hu, ru⟩ := rv.get hx
    have hil : i < its.toArray.size := by rw [List.size_toArray]; exact (List.getElem?_eq_some_iff.mp hu).1
    have pT : s.heap.IsTuple a its.toArray := p
    have nea : a ≠ it := fun z => by
      obtain ⟨o1, h1, c1, _⟩ := pT
      obtain ⟨o2, h2, c2, _⟩ := st.2
      rw [z, h2] at h1
      cases h1
      rw [c1] at c2
      exact absurd c2 (by decide)
    have nee : e ≠ a := fun z => by
      obtain ⟨o1, h1, c1, _⟩ := pT
      obtain ⟨old, h2⟩ := st.1
      rw [← z] at h1
      have h2 : s.heap.get? e = some _ := h2
      rw [h2] at h1
      cases h1
      exact absurd c1 (show ¬ (Value.type "enumerate" = Value.type "tuple") by decide)
    have W := WalksT.enumerateD (prog := X.prog) (w := X.w) (A := X.A) (draws_tuple (A := X.A.in1) (show X.A.in1.handled = none from I.ok.hd hc) it a nea its.toArray) e hei (by simp [hei, nee]) (by simp)
    refine wpAny_with_toks (n := 1) I.tk (W.item i s _ _ hil ⟨st.1, st.2, pT⟩ fun T vs h' tk hv hT htup hmid kk ht => ?_)
    have ht : 0 < tk := ht
    obtain ⟨tk1, y, hy, rfl⟩ := hv
    have hy : its[i]? = some y := by simpa using hy
    rw [hu] at hy
    injection hy with hy
    subst hy
    have hap := W.apart i T h' hmid
    refine ⟨_, rfl, W.go elts k pos i T { s with heap := h', toks := tk } _ _ hmid fun h2 st2 k2 => ?_⟩
    have htup2 : IsTup h2 T [Value.int i tk1, u].toArray := by
      obtain ⟨o, e, c⟩ := htup
      exact ⟨o, k2 T o hap e, by simpa using c⟩
    have I1 : Inv X pins σ (upd H T (.tup [.int i, x])) { s with heap := h2, toks := tk } := I.turnLaid (ch := [e, it]) (fun b hb => hf b hb) (fun b u hb e => k2 b u hb (kk b u hb e)) hT ⟨by rw [sizeLine_eq]; simp, [Value.int i tk1, u], .cons ⟨tk1, rfl⟩ (.cons ru .nil), htup2⟩ ht
    refine ⟨.ref T, _, I1, rfl, ⟨T, x, rfl, I.hok.fresh hT, fun ys hy => by rw [I.tuple_inj hy hq]; exact hx, rfl⟩, ⟨st2.1, st2.2.1⟩, fun b hb => ?_⟩
    have hb2 : ∃ o, s.heap.get? b = some o := by
      have hb : b = e ∨ b = it := by simpa using hb
      rcases hb with rfl | rfl
      · obtain ⟨old, e1⟩ := st.1; exact ⟨_, e1⟩
      · obtain ⟨o, e1, _⟩ := st.2; exact ⟨_, e1⟩
    obtain ⟨o, e⟩ := hb2
    rw [upd_ne (Nat.ne_of_lt (Nat.lt_of_lt_of_le (Heap.lt_size e) hT))]
    exact (hf b hb).1
  done := by
    intro X hP hw hK hc i pins s σ H E I hf st hg
    subst hP hw hK
    obtain ⟨xs, hq, hx⟩ := hg
    obtain ⟨its, rv, p, hz⟩ := I.tuple hq
    have pT : s.heap.IsTuple a its.toArray := p
    have hno : its.toArray[i]? = none := by
      have := rv.length
      simp; omega
    obtain ⟨old, he⟩ := st.1
    have D : Draws X.prog X.w X.A.in1 it [it, a] 0 (fun _ _ => True) (fun _ h => h.IsTupleIter it a i ∧ h.IsTuple a its.toArray) :=
      { live := fun _ _ st => let ⟨o, ho, _⟩ := st.1; ⟨o, ho⟩
        frame := fun _ _ _ st hk => ⟨st.1.at fun o e => hk it (by simp) o e, st.2.at fun o e => hk a (by simp) o e⟩
        item := fun j s Q E hj => absurd hj (Nat.not_lt_zero _)
        done := fun s Q E st hE => nextOf_tuple_end (show X.A.in1.handled = none from I.ok.hd hc) st.1 st.2 hno hE }
    exact wpAny_pyNext_enum_endD D he ⟨st.2, pT⟩ fun h' hx => ⟨rfl, I.turnedL (ch := [e, it]) (t' := s.toks) (fun b hb => hf b hb) (fun b o hb y => hx b o (fun z => hb (by simp [z])) y) I.tk⟩
  self := fun A i s Q E st h => let ⟨old, e1⟩ := st.1; wpAny_pyIter_enum e1 h
def iEnumT (K : PySem.W.Frag) (ta : TA) : TI := fun σ H R => ta σ H fun vs H1 => ∃ a xs, vs = [.ref a] ∧ SqT K H1 a xs ∧ R (Ite K a) H1
theorem pi_enumT {X : Cx} {elts : List Expr} {k : Nat} {tpos p pos : Pos} {l : Expr} {ta : TA} (hg : Gl X "enumerate") (hm : X.mg "enumerate" = none) (ha : PA X [l] ta) (hs : autoParam (starEach [l] X.env = [(false, eval l X.env)]) L2.au._auto_1) :
    PI X (.Tuple elts k tpos) (.Call (.Name "enumerate" p) [l] [] pos) (iEnumT X.K ta) := by
  intro pins s σ H R I h
  refine Call_ (ld_blt I hg hm boot_enumerate (PyProof.Rows.callWith_type1 (thn (ha pos pins s σ H _ I h) fun us s1 ⟨vs, H1, I1, r1, q1⟩ => ?_) hs rfl))
  obtain ⟨a, xs, e, hq, q⟩ := q1
  subst e
  obtain ⟨v, rfl, rv⟩ := vals1 r1
  cases rv
  obtain ⟨its, rv, pT, hz⟩ := I1.tuple hq
  refine call_enumerate_tuple (show s1.heap.IsTuple a its.toArray from pT) fun h' he hit hz hk => ?_
  have I2 : Inv X pins σ H1 { s1 with heap := h' } := I1.kept (t' := s1.toks) hk
  refine wpAny_pyIter_enum he ?_
  have ne : s1.heap.objs.size + 1 ≠ s1.heap.objs.size := by omega
  refine ⟨s1.heap.objs.size + 1, _, _, _, H1, rfl, I2, turn_enumT a (s1.heap.objs.size + 1) s1.heap.objs.size ne, ⟨⟨_, he⟩, hit⟩, fun b hb => ?_, q⟩
  have hb : b = s1.heap.objs.size + 1 ∨ b = s1.heap.objs.size := by simpa using hb
  rcases hb with rfl | rfl
  · exact I1.fpOk (Nat.le_succ _) (I1.hok.fresh (Nat.le_succ _))
  · exact I1.fpOk (Nat.le_refl _) (I1.hok.fresh (Nat.le_refl _))
section
variable {σ : St} {H : Hp} {K : PySem.W.Frag}
theorem st_enumT {ta : TA} {R : It → Hp → Prop} (h : ta σ H fun vs H1 => ∃ a xs, vs = [.ref a] ∧ SqT K H1 a xs ∧ R (Ite K a) H1) : iEnumT K ta σ H R := h
theorem enumT_for {g : TG} {tb : TS} {D : Ends} {a : Addr} {xs : List V} (hq : SqT K H a xs) (Pv : Nat → St → Hp → Prop) (h0 : Pv 0 σ H) (hk : ∀ i σ H', Pv i σ H' → SqT K H' a xs)
    (hs : ∀ i x σ H p, xs[i]? = some x → Pv i σ H → H p = none → g (.ref p) σ (upd H p (.tup [.int i, x])) fun σ2 H2 => tb (Ends.lp D (PAt Pv (i + 1))) σ2 H2) (hd : ∀ σ H, Pv xs.length σ H → D.nx σ H) :
    ∃ b ys, [V.ref a] = [.ref b] ∧ SqT K H b ys ∧ ForW g tb D σ (Ite K b) H := by
  refine ⟨a, xs, rfl, hq, fun i m σ H => m = xs.length - i ∧ i ≤ xs.length ∧ Pv i σ H, ⟨xs.length, by simp, Nat.zero_le _, h0⟩, ?_⟩
  rintro i m σ H ⟨rfl, hi, p⟩
  have sq := hk i σ H p
  by_cases hlt : i < xs.length
  · refine .inr ⟨⟨xs, xs[i], sq, by simp [hlt]⟩, Pv (i + 1), fun σ' H' p' => ⟨xs.length - (i + 1), by omega, rfl, hlt, p'⟩, fun x H' y => ?_⟩
    obtain ⟨t, z, rfl, ht, hz, rfl⟩ := y
    exact hs i z σ H t (hz xs sq) p ht
  · have e : i = xs.length := by omega
    subst e
    exact .inl ⟨⟨xs, sq, Nat.le_refl _⟩, hd σ H p⟩
end
end L2
namespace L2
open PySem PySem.Spec PyProof.Rows PySem.SeqAt
theorem intVals : ∀ {js : List Int} {us : List Value}, Vals (js.map V.int) us → ∃ ps : List (Int × Tok), us = ps.map (fun p => Value.int p.1 p.2) ∧ ps.map (·.1) = js
  | [], _, h => by cases h; exact ⟨[], rfl, rfl⟩
  | j :: js, _, h => by
    have h : Vals (V.int j :: js.map V.int) _ := h
    cases h with
    | cons r t =>
      obtain ⟨k, rfl⟩ := r
      obtain ⟨ps, rfl, e⟩ := intVals t
      exact ⟨(j, k) :: ps, rfl, by simp [e]⟩
section
variable {X : Cx}
def r_sum (K : PySem.W.Frag) : List V → Hp → VK → Prop := fun xs H Q => ∃ (p : Addr) (js : List Int), xs = [.ref p] ∧ SqL K H p (js.map V.int) ∧ ∀ j : Int, Q (.int j) H
theorem call_sumA (hc : X.calm = true) : CallR X (.builtin "sum") (r_sum X.K) := by
  intro pins s σ H xs us Q I r h
  obtain ⟨p, js, rfl, hq, q⟩ := h
  obtain ⟨u, rfl, ru⟩ := vals1 r
  cases ru
  obtain ⟨its, rv, pl, hz⟩ := I.list hq
  obtain ⟨ps, rfl, e⟩ := intVals rv
  have hl : s.heap.IsList p (intItems ps.toArray) := by
    have := pl.isList
    rw [show intItems ps.toArray = (ps.map (fun p => Value.int p.1 p.2)).toArray by unfold intItems; simp]
    exact this
  refine wpAny_with_toks (n := 1) I.tk (sum_intListG (I.ok.hd hc) hl fun h' tk t' hk ht => ?_)
  exact ⟨.int _, H, I.kept hk ht, ⟨_, rfl⟩, q _⟩
end
section
variable {H : Hp} {Q : VK} {K : PySem.W.Frag}
theorem v_sum {p : Addr} {js : List Int} (h : SqL K H p (js.map V.int)) (q : ∀ j : Int, Q (.int j) H) : r_sum K [.ref p] H Q := ⟨p, js, rfl, h, q⟩
theorem v_pop0 {p : Addr} {xs : List V} {y : V} (h1 : H p = some (.lst (y :: xs))) (h : Q y (upd H p (.lst xs))) : rPopAt (.ref p) [.int 0] H Q :=
  ⟨p, y :: xs, 0, 0, y, rfl, rfl, h1, by decide, by decide, by unfold seqIndex?; simp, rfl, h⟩
theorem v_extend {p b : Addr} {xs zs : List V} (h1 : H p = some (.lst xs)) (h2 : H b = some (.lst zs)) (hz : xs.length + zs.length ≤ sizeLine) (h : Q .non (upd H p (.lst (xs ++ zs)))) : rExtend (.ref p) [.ref b] H Q := ⟨p, b, xs, zs, rfl, rfl, h1, h2, hz, h⟩
end
def CDivW (i j : Int) : Prop := 0 < j ∧ j < 2 ^ 200
theorem op_fdivW {X : Cx} : OpR X (binaryOp .FloorDiv) (rI CDivW fun i j => .int (i / j)) := opI fun i j _ _ _ _ _ hc q => by
  have h1 : (0 : Int) < j := hc.1
  have h2 : j < 2 ^ 200 := hc.2
  refine floordiv_int (by omega) (by rw [Int.fdiv_eq_ediv_of_nonneg i (by omega)]; exact q) (.inl (PyProof.noPylong_of_log2 ?_))
  refine Nat.lt_trans ((Nat.log2_lt (by omega)).mpr (?_ : j.natAbs < 2 ^ 200)) (by decide)
  have : ((j.natAbs : Nat) : Int) < ((2 ^ 200 : Nat) : Int) := by
    rw [Int.natAbs_of_nonneg (by omega)]
    have e : ((2 ^ 200 : Nat) : Int) = (2 : Int) ^ 200 := by decide +kernel
    rw [e]; exact h2
  exact Int.ofNat_lt.mp this
theorem v_fdivW {H : Hp} {Q : VK} {i j : Int} (c : CDivW i j) (h : Q (.int (i / j)) H) : rI CDivW (fun i j => .int (i / j)) (.int i) (.int j) H Q := ⟨i, j, rfl, rfl, c, h⟩
theorem plain_ci : plainId "proto.contains_iter" = true := by decide +kernel
theorem entry_ci : entryFor table "proto.contains_iter" = some Builtin.«proto.contains_iter» := entryFor_of_fast (by kernel_rfl)
theorem vv_no_contains : typeLookup (.type "dict_values") "__contains__" = pure none := by rw [typeLookup_type, builtinLookup_eq_fast]; kernel_rfl
section
variable {prog : Program} {w : World} {A : Around} {E : Value → Shared → Prop} {s : Shared} {κ : Type} [DecidableEq κ] {knd : KeyKind prog w κ}
theorem code_ci {it d : Addr} {kvs : List (κ × Value)} {ep : Nat} {x : Int} {tx : Tok} {R : Result → Shared → Prop} {js : List Int} (hne : it ≠ d) (hh : A.in1.handled = none) (hj : ∀ (i : Nat) (k : κ) (v : Value), kvs[i]? = some (k, v) → ∃ (j : Int) (t : Tok), js[i]? = some j ∧ v = Value.int j t) (hl : js.length = kvs.length) :
    ∀ (m i : Nat) (s : Shared), kvs.length - i = m → i ≤ kvs.length → s.heap.IsValIter it d i kvs.length ep → s.heap.DictAt knd d kvs ep →
      (∀ h', Heap.ExtBut it s.heap h' → R (.ok (.ret (.bool (decide (x ∈ js.drop i))))) { s with heap := h' }) → codeAny (model prog w) A (.builtin "proto.contains_iter" ⟨[.ref it, .int x tx], []⟩) R s := by
  intro m
  induction m with
  | zero =>
    intro i s hm hi st hd hR
    refine codeAny_builtin entry_ci ?_
    rw [Around.under_plainId plain_ci _]
    show wpAny _ A.in1 (pyNext (.ref it) >>= _) _ _ s
    refine wpAny_bind (wpAny_pyNext_values_end hh st hd (by rw [List.getElem?_eq_none]; omega) fun h' hb => ?_)
    refine wpAny_bind (wpAny_rule (wpAny_pure ?_))
    have := hR h' hb
    rw [List.drop_eq_nil_of_le (by omega)] at this
    simpa using this
  | succ m ih =>
    intro i s hm hi st hd hR
    have hlt : i < kvs.length := by omega
    refine codeAny_builtin entry_ci ?_
    rw [Around.under_plainId plain_ci _]
    show wpAny _ A.in1 (pyNext (.ref it) >>= _) _ _ s
    obtain ⟨⟨k, v⟩, hkv⟩ : ∃ p, kvs[i]? = some p := ⟨_, List.getElem?_eq_getElem hlt⟩
    obtain ⟨j, t, ej, rfl⟩ := hj i k v hkv
    refine wpAny_bind (wpAny_pyNext_values_item st hd hkv fun h' st' sb => ?_)
    refine wpAny_bind (wpAny_eqBool_int ?_)
    have ed : js.drop i = j :: js.drop (i + 1) := by
      obtain ⟨hi', e⟩ := List.getElem?_eq_some_iff.mp ej
      rw [← e, ← List.drop_eq_getElem_cons]
    by_cases e : j = x
    · subst e
      rw [show (j == j) = true by simp, if_pos rfl]
      refine wpAny_bind (wpAny_rule (wpAny_pure ?_))
      have := hR h' sb.extBut
      rw [ed] at this
      simpa using this
    · rw [show (j == x) = false by simpa using e, if_neg (by decide)]
      refine wpAny_pure ⟨plainId_quiet plain_ci _, ih (i + 1) _ (by omega) hlt st' ?_ fun h'' hb => ?_⟩
      · obtain ⟨o, es, ho, r⟩ := hd
        exact ⟨o, es, sb.extBut d o (Ne.symm hne) ho, r⟩
      · have := hR h'' (fun b o hb' e' => hb b o hb' (sb.extBut b o hb' e'))
        rw [ed] at this
        have e' : ¬ x = j := fun z => e z.symm
        simpa [e'] using this
theorem wp_in_vals {v d : Addr} {kvs : List (κ × Value)} {ep : Nat} {x : Int} {tx : Tok} {js : List Int} {Q : Bool → Shared → Prop} (hh : A.in1.handled = none) (hv : s.heap.IsValuesView v d) (hd : s.heap.DictAt knd d kvs ep) (hj : ∀ (i : Nat) (k : κ) (v : Value), kvs[i]? = some (k, v) → ∃ (j : Int) (t : Tok), js[i]? = some j ∧ v = Value.int j t) (hl : js.length = kvs.length)
    (h : ∀ h', (∀ b o, s.heap.get? b = some o → h'.get? b = some o) → Q (decide (x ∈ js)) { s with heap := h' }) : wpAny (model prog w) A (contains (.ref v) (.int x tx)) Q E s := by
  unfold contains
  refine wpAny_holding ?_
  rw [stdlibNamesSay?_of_typeIs hv.typeIs]
  refine wpAny_bind (wpAny_specialOf hv.typeIs vv_no_contains ?_)
  show wpAny _ A (if ((none : Option Value) == some Value.none) = true then _ else _) Q E s
  rw [if_neg (by simp)]
  refine wpAny_bind (wpAny_callSpecialUnlessNone?_none hv.typeIs vv_no_contains ?_)
  refine wpAny_bind (wpAny_rule ?_)
  refine wpAny_bind (wpAny_tryCatch (wpAny_pyIter_values hv hd ?_))
  refine wpAny_bind (wpAny_runValue ?_)
  have dlt : d < s.heap.objs.size := by obtain ⟨o, es, ho, _⟩ := hd; exact Heap.lt_size ho
  refine code_ci (knd := knd) (js := js) (Nat.ne_of_gt dlt) hh hj hl _ 0 _ rfl (Nat.zero_le _) ⟨_, Heap.get?_push_size _ rfl, rfl, rfl⟩ ?_ fun h' hb => ?_
  · obtain ⟨o, es, ho, r⟩ := hd
    exact ⟨o, es, Heap.get?_push_of_some _ ho, r⟩
  · refine wpAny_pure ?_
    exact h h' fun b o e => hb b o (Nat.ne_of_lt (Heap.lt_size e)) (Heap.get?_push_of_some _ e)
end
section
variable {X : Cx} {e o : Expr} {apos cpos pos : Pos} {tx td : TE}
def tInV (neg : Bool) (tx td : TE) : TE := fun σ H Q => tx σ H fun x H1 => td σ H1 fun y H2 => ∃ (i : Int) (a : Addr) (kvs : List (Key × V)) (js : List Int), x = .int i ∧ y = .ref a ∧ H2 a = some (.dK kvs) ∧ kvs.map (·.2) = js.map V.int ∧ Q (.bl (if neg then !decide (i ∈ js) else decide (i ∈ js))) H2
theorem kv_ints : ∀ {kvs : List (Key × V)} {vs : List (Key × Value)} {js : List Int}, KV kvs vs → kvs.map (·.2) = js.map V.int → js.length = vs.length ∧ ∀ (i : Nat) (k : Key) (v : Value), vs[i]? = some (k, v) → ∃ (j : Int) (t : Tok), js[i]? = some j ∧ v = Value.int j t
  | [], vs, js, h, e => by
    cases h
    cases js with
    | nil => exact ⟨rfl, fun i k v h => by simp at h⟩
    | cons _ _ => cases e
  | (k0, v0) :: kvs, vs, js, h, e => by
    cases h with
    | cons r t =>
      rename_i q qs
      cases js with
      | nil => cases e
      | cons j js =>
        injection e with e1 e2
        obtain ⟨h1, h2⟩ := kv_ints t e2
        refine ⟨by simp [h1], fun i k v h => ?_⟩
        cases i with
        | zero =>
          have h : q = (k, v) := by simpa using h
          subst h
          obtain ⟨_, r⟩ := r
          have e1 : v0 = V.int j := e1
          rw [e1] at r
          obtain ⟨t, rfl⟩ := r
          exact ⟨j, t, rfl, rfl⟩
        | succ i => exact h2 i k v (by simpa using h)
theorem in_vals_go {pins : List (Addr × Obj)} {s : Shared} {σ : St} {H : Hp} {Q : Bool → Shared → Prop} (hc : X.calm = true) (I : Inv X pins σ H s) {i : Int} {t : Tok} {a : Addr} {kvs : List (Key × V)} {js : List Int} (e : H a = some (.dK kvs)) (ej : kvs.map (·.2) = js.map V.int)
    (q : ∀ s', Inv X pins σ H s' → Q (decide (i ∈ js)) s') : wpAny (model X.prog X.w) X.A (call (.builtin "dict.values") [.ref a]) (fun u s1 => wpAny (model X.prog X.w) X.A (contains u (.int i t)) Q X.xe s1) X.xe s := by
  obtain ⟨z, hm, vs, kv, dd⟩ := dk_of I.hok e
  obtain ⟨o, es, ep, ho, hx, hdat, hk, hp, hn⟩ := id dd
  refine call_meetsIn PySem.F.slot_dict_values dd.typeIs PySem.F.entry_dict_values (PySem.F.args_dict_values_1 _) (meets_dict_values (mixKind X.prog X.w) a hm) ⟨⟨vs, dd⟩, ?_⟩
  obtain ⟨h1, h2⟩ := kv_ints kv ej
  refine wp_in_vals (knd := mixKind X.prog X.w) (d := a) (kvs := vs) (ep := ep) (js := js) (show X.A.in1.handled = none from I.ok.hd hc) ⟨_, Heap.get?_push_size _ rfl, rfl, rfl⟩ ⟨o, es, Heap.get?_push_of_some _ ho, hx, hdat, hk, hp, hn⟩ h2 h1 fun h' hb => ?_
  exact q _ (I.kept (t' := s.toks) (h' := h') fun b o e => hb b o (Heap.get?_push_of_some _ e))
theorem isD_ty {K : PySem.W.Frag} {H : Hp} {a : Addr} {kvs : List (Key × V)} (e : H a = some (.dK kvs)) : tyV K "dict" (.ref a) H := .inr (.inr (.inl ⟨rfl, .inl ⟨kvs, e⟩⟩))
theorem pe_inV (hc : X.calm = true) (hx : PE X e tx) (ho : PE X o td) (hm : autoParam (behindInMarks .In (.Call (.Attribute o "values" apos) [] [] cpos) = false) L2.au._auto_6)
    (hbase : autoParam (attributeBase o "values" X.env (eval o X.env) = eval o X.env) L2.au._auto_1) (hline : autoParam ((apos.endLine == cpos.line) = true) L2.au._auto_1) : PE X (.Compare e [.In] [.Call (.Attribute o "values" apos) [] [] cpos] pos) (tInV false tx td) := by
  intro pins s σ H Q I h
  refine wpAny_Compare1 (thn (hx pins s σ H _ I h) fun v s1 ⟨x, H1, I1, r1, q1⟩ => ?_) hm
  refine wpAny_Call_method0_late hbase hline (thn (ho pins s1 σ H1 _ I1 q1) fun u s2 ⟨y, H2, I2, r2, i, a, kvs, js, ex, ey, ed, ej, q⟩ => ?_)
  subst ex ey
  obtain ⟨t, rfl⟩ := r1
  obtain ⟨h1, h2⟩ := tyV_is I2 r2 (isD_ty ed)
  cases r2
  refine ⟨"dict", _, PySem.F.plainAttrs_dict, PySem.F.slot_dict_values, PySem.F.type_dict_values, h1, h2, Calls.callWith_builtin rfl (PySem.evalArgs_none ?_)⟩
  exact thn (in_vals_go (Q := fun bb s' => EP X pins σ Q (.bool bb) s') hc I2 ed ej fun s' I' => ⟨.bl _, H2, I', rfl, q⟩) fun u s3 hu => wpAny_bind (wpAny_mono hu (fun bb s4 h4 => wpAny_pure h4) fun _ _ z => z)
theorem pt_notinV (hc : X.calm = true) (hx : PE X e tx) (ho : PE X o td) (hm : autoParam (behindInMarks .NotIn (.Call (.Attribute o "values" apos) [] [] cpos) = false) L2.au._auto_6)
    (hbase : autoParam (attributeBase o "values" X.env (eval o X.env) = eval o X.env) L2.au._auto_1) (hline : autoParam ((apos.endLine == cpos.line) = true) L2.au._auto_1) : PT X (.Compare e [.NotIn] [.Call (.Attribute o "values" apos) [] [] cpos] pos) (tTest (tInV true tx td)) := by
  intro pins s σ H Q I h
  refine wpAny_isTrue_Compare1 (thn (hx pins s σ H _ I h) fun v s1 ⟨x, H1, I1, r1, q1⟩ => ?_) hm
  refine wpAny_Call_method0_late hbase hline (thn (ho pins s1 σ H1 _ I1 q1) fun u s2 ⟨y, H2, I2, r2, i, a, kvs, js, ex, ey, ed, ej, kk, ek, q⟩ => ?_)
  subst ex ey
  obtain ⟨t, rfl⟩ := r1
  obtain ⟨h1, h2⟩ := tyV_is I2 r2 (isD_ty ed)
  cases r2
  refine ⟨"dict", _, PySem.F.plainAttrs_dict, PySem.F.slot_dict_values, PySem.F.type_dict_values, h1, h2, Calls.callWith_builtin rfl (PySem.evalArgs_none ?_)⟩
  exact thn (in_vals_go (Q := fun bb s' => TP X pins σ Q (!bb) s') hc I2 ed ej fun s' I' => ⟨H2, I', by injection ek with ek; subst ek; exact q⟩) fun u s3 hu => wpAny_bind (wpAny_mono hu (fun bb s4 h4 => wpAny_pure (wpAny_truthy_bool h4)) fun _ _ z => z)
end
section
variable {σ : St} {H : Hp} {Q : VK}
theorem st_dget {td ty : TE} (h : td σ H fun x H1 => ty σ H1 fun y H2 => ∃ a v, x = .ref a ∧ DGet H2 a y (some v) ∧ Q v H2) : tDGet td ty σ H Q := h
theorem st_inV {neg : Bool} {tx td : TE} (h : tx σ H fun x H1 => td σ H1 fun y H2 => ∃ (i : Int) (a : Addr) (kvs : List (Key × V)) (js : List Int), x = .int i ∧ y = .ref a ∧ H2 a = some (.dK kvs) ∧ kvs.map (·.2) = js.map V.int ∧ Q (.bl (if neg then !decide (i ∈ js) else decide (i ∈ js))) H2) : tInV neg tx td σ H Q := h
end
end L2
namespace L2
open PySem PySem.Spec PyProof.Rows PySem.SeqAt
def tOrT (K : PySem.W.Frag) (ta tb : TE) : TE := fun σ H Q => ta σ H fun x H1 => ∃ k, TruV K x H1 k ∧ if k = true then Q x H1 else tb σ H1 Q
theorem pe_orT {X : Cx} {a b : Expr} {rest : List Expr} {pos : Pos} {ta tb : TE} (ha : PE X a ta) (hb : PE X (.BoolOp .Or (b :: rest) pos) tb) : PE X (.BoolOp .Or (a :: b :: rest) pos) (tOrT X.K ta tb) := by
  intro pins s σ H Q I h
  refine BoolOp_or (thn (ha pins s σ H _ I h) fun v s1 ⟨x, H1, I1, r1, k, tv, q1⟩ => ?_)
  refine thn (tru_ok pins s1 σ H1 x v (fun b H' => H' = H1 ∧ b = k) I1 r1 ⟨k, tv, rfl, rfl⟩) fun b' s2 ⟨H2, I2, e1, e2⟩ => ?_
  subst e1 e2
  cases b' with
  | false => exact hb pins s2 σ H2 Q I2 q1
  | true => exact ⟨x, H2, I2, r1, q1⟩
section
variable {σ : St} {H : Hp} {Q : VK} {K : PySem.W.Frag}
theorem st_orT {ta tb : TE} (h : ta σ H fun x H1 => ∃ k, TruV K x H1 k ∧ if k = true then Q x H1 else tb σ H1 Q) : tOrT K ta tb σ H Q := h
theorem v_catH {a b : Addr} {xs ys : List V} (h1 : H a = some (.tup xs)) (h2 : H b = some (.tup ys)) (hz : xs.length + ys.length ≤ sizeLine) (h : ∀ p H', Same H H' → H' p = some (.tup (xs ++ ys)) → Q (.ref p) H') : rAddB K (.ref a) (.ref b) H Q := by
  by_cases hx : xs = []
  · subst hx
    exact .inr ⟨a, b, ys, rfl, rfl, SqT.of h1, SqT.of h2, h b H (fun _ _ e => e) h2⟩
  · refine .inl (.inr (.inr (.inr ⟨a, b, xs, ys, rfl, rfl, SqT.of h1, SqT.of h2, hx, hz, fun hy => ?_, fun hy p hp => h p _ (Same.new hp _) upd_same⟩)))
    subst hy
    exact h a H (fun _ _ e => e) (by rw [List.append_nil]; exact h1)
theorem v_slH {a : Addr} {xs : List V} {lo hi : Option Int} (h1 : H a = some (.tup xs)) (h : ∀ p H', Same H H' → H' p = some (.tup (cutV xs lo hi)) → Q (.ref p) H') : rSlB K (.ref a) lo hi H Q := by
  by_cases hw : HT.sIx xs.length 0 lo = 0 ∧ HT.sIx xs.length xs.length hi = xs.length
  · refine .inr ⟨a, xs, rfl, SqT.of h1, hw, h a H (fun _ _ e => e) ?_⟩
    unfold cutV
    rw [hw.1, hw.2, List.drop_zero, Nat.sub_zero, List.take_length]; exact h1
  · exact .inl (.inr (.inl ⟨a, xs, rfl, SqT.of h1, hw, fun p hp => h p _ (Same.new hp _) upd_same⟩))
end
end L2
namespace L2
open PySem PySem.Spec PyProof.Rows PySem.SeqAt
end L2
set_option hygiene false in
local macro_rules | `(tactic| walk_at "or") => `(tactic| first | exact .inl rfl | exact .inr rfl)
set_option hygiene false in
local macro_rules | `(tactic| walk_at "le") => `(tactic| first | decide | omega)
set_option hygiene false in
local macro_rules | `(tactic| walk_at "s") => do
  let a ← ("st_seq iteT iteF st_asg st_name st_C st_op st_un st_ret st_retN st_drop st_if st_ifE st_test st_B st_bl st_and st_or st_not st_andV st_orV st_notV st_nil st_cons st_tup st_lst st_call st_CB st_tt st_break st_cont st_next st_sub st_bm st_chain st_for st_comp st_any st_rng1 st_rng2 st_rev st_sl st_part st_nopart st_int st_repl st_enumS st_iStr st_bm0 st_rng3 st_enumT st_rev2 st_rev3 st_inV st_dget st_orT st_revL v_min v_max st_strs v_addI v_subI v_ltI v_leI v_gtI v_geI v_eqI v_eqS v_neS v_neI v_is v_isnot".splitOn " ").toArray.mapM fun n => `(Lean.Parser.Tactic.tacticSeq| refine $(Lean.mkIdent (.str `L2 n)) ?_)
  `(tactic| (repeat (first | (with_reducible first $[| $a]*) | ((with_reducible refine' L2.st_var ?ev ?_); (case ev => exact rfl)) | ((with_reducible refine L2.v_mod ?ec ?_); (case ec => first | decide | omega | assumption)) | ((with_reducible refine L2.v_fdiv ?ec ?_); (case ec => first | exact ⟨by decide, by decide⟩ | exact ⟨by omega, by omega⟩)))))
namespace My
open PySem L2 PyProof.Rows
set_option genInjectivity false in
structure Row where
  name : Str
  sort : Str
  host : Str
  shuts : List Str
  bars : List Str
noncomputable def Row.da (r : Row) : PyData := .tuple [.str r.name, .str r.sort, .str r.host, .tuple (sDa r.shuts), .tuple (sDa r.bars)]
noncomputable def oV : Option Str → V
  | some s => .str s
  | none => .non
section
variable {K : PySem.W.Frag} {H H' : Hp} {Q : VK}
theorem row_parts {r : Row} {v : V} (h : Dv K H r.da v) : ∃ b sv bv, v = .ref b ∧ SqT K H b [.str r.name, .str r.sort, .str r.host, sv, bv] ∧ Dv K H (.tuple (sDa r.shuts)) sv ∧ Dv K H (.tuple (sDa r.bars)) bv := by
  obtain ⟨b, ys, rfl, hb, h⟩ := dv_tuple.mp h
  rw [Dvs] at h; obtain ⟨v1, r1, rfl, e1, h⟩ := h
  rw [Dvs] at h; obtain ⟨v2, r2, rfl, e2, h⟩ := h
  rw [Dvs] at h; obtain ⟨v3, r3, rfl, e3, h⟩ := h
  rw [Dvs] at h; obtain ⟨v4, r4, rfl, e4, h⟩ := h
  rw [Dvs] at h; obtain ⟨v5, r5, rfl, e5, h⟩ := h
  rw [Dvs] at h; subst h
  rw [dv_str.mp e1, dv_str.mp e2, dv_str.mp e3] at hb
  exact ⟨b, v4, v5, rfl, hb, e4, e5⟩
def Rws (K : PySem.W.Frag) (H : Hp) (v : V) (rs : List Row) : Prop := ∃ a vs, v = .ref a ∧ (SqL K H a vs ∨ SqT K H a vs) ∧ Dvs K H (rs.map Row.da) vs
theorem v_eqO {x : Str} {n : Option Str} (h : Q (.bl (decide (some x = n))) H) : rEqA K (.str x) (oV n) H Q := by
  cases n with
  | none => refine v_eq rfl ?_; have e : (decide ((V.str x) = oV none)) = decide (some x = none) := by simp [oV]
            rw [e]; exact h
  | some y => refine v_eq rfl ?_; have e : (decide ((V.str x) = oV (some y))) = decide (some x = some y) := by simp [oV]
              rw [e]; exact h
theorem v_eqS {x y : Str} (h : Q (.bl (decide (x = y))) H) : rEqA K (.str x) (.str y) H Q := by
  refine v_eq rfl ?_
  have e : (decide ((V.str x) = V.str y)) = decide (x = y) := by simp
  rw [e]; exact h
theorem v_neS {x y : Str} (h : Q (.bl (!decide (x = y))) H) : rNeA K (.str x) (.str y) H Q := by
  refine v_ne rfl ?_
  have e : (decide ((V.str x) = V.str y)) = decide (x = y) := by simp
  rw [e]; exact h
theorem v_eqI {x y : Int} (h : Q (.bl (decide (x = y))) H) : rEqA K (.int x) (.int y) H Q := by
  refine v_eq rfl ?_
  have e : (decide ((V.int x) = V.int y)) = decide (x = y) := by simp
  rw [e]; exact h
end
noncomputable def rowOf (rs : List Row) (n : Option Str) : Option Row := rs.find? fun r => decide (some r.name = n)
noncomputable def sortOf (rs : List Row) (n : Option Str) : Option Str := (rowOf rs n).map (·.sort)
noncomputable def hostOf (rs : List Row) (n : Option Str) : Option Str := (rowOf rs n).bind fun r => if r.sort = ("frame" : Str) then some r.host else none
noncomputable def frameOf (rs : List Row) (n : Option Str) : Option Str := (rs.find? fun r => decide (r.sort = ("frame" : Str)) && decide (some r.host = n)).map (·.name)
def sp_row_of (K : PySem.W.Frag) : Sp := fun vs H Q _ => ∃ v n rs, vs = [v, oV n] ∧ Rws K H v rs ∧ (rowOf rs n = none → Q .non H) ∧ ∀ r u, rowOf rs n = some r → Dv K H r.da u → Q u H
theorem len_row_of (K : PySem.W.Frag) : ∀ vs H Q E, sp_row_of K vs H Q E → vs.length = ["rows", "name"].length := by
  rintro vs H Q E ⟨v, n, rs, rfl, _⟩; rfl
def R_row_of (K : PySem.W.Frag) : TS :=
 (tSeq (tFor (iAny K (tVar 0)) (gName 2)
 (tIfS (tTest (tOp (rEqA K) (tOp (rIxA K) (tVar 2) (tC (.int 0))) (tVar 1)))
 (tRet (tVar 2)) tNext))
 (tRet (tC .non)))
theorem find_none_snoc {α : Type} {p : α → Bool} : ∀ {l : List α} {i : Nat} {x : α}, l[i]? = some x → (∀ y ∈ l.take i, p y = false) → p x = true → l.find? p = some x
  | y :: l, 0, x, e, _, hp => by cases e; rw [List.find?_cons, hp]
  | y :: l, i + 1, x, e, h, hp => by
    have hy : p y = false := h y (by simp)
    rw [List.find?_cons, hy]
    exact find_none_snoc (i := i) (by simpa using e) (fun z hz => h z (by simp [hz])) hp
theorem take_all {α : Type} {P : α → Prop} {l : List α} {i : Nat} {x : α} (e : l[i]? = some x) (h : ∀ y ∈ l.take i, P y) (hx : P x) : ∀ y ∈ l.take (i + 1), P y := by
  intro y hy
  rw [List.take_add_one, e] at hy
  rcases List.mem_append.mp hy with z | z
  · exact h y z
  · have : y = x := by simpa using z
    subst this; exact hx
theorem rd_row_of {K : PySem.W.Frag} {vs : List V} {H : Hp} {Q : VK} {E : XK} (h : sp_row_of K vs H Q E) : R_row_of K { nx := fun _ H' => Q .non H', rt := Q } (start ["rows", "name", "row"] vs) H := by
  obtain ⟨v, n, rs, rfl, ⟨a, xs, rfl, hq, hd⟩, h1, h2⟩ := h
  show R_row_of K _ [some (.ref a), some (oV n), none] H
  have hlen : xs.length = rs.length := by have := hd.length; simpa using this
  unfold R_row_of
  refine st_seq (st_for (st_any (st_var rfl ?_)))
  refine any_for hq (fun i σ H' => H' = H ∧ (∃ w, σ = [some (.ref a), some (oV n), w]) ∧ ∀ r ∈ rs.take i, decide (some r.name = n) = false) ⟨rfl, ⟨_, rfl⟩, by simp⟩ (fun hl i σ H' _ p => p.1 ▸ hl) (fun ht i σ H' _ p => p.1 ▸ ht) ?_ ?_
  · rintro i x σ H' hx ⟨rfl, ⟨w, rfl⟩, hn⟩
    obtain ⟨d, hd1, hd2⟩ := hd.get' hx
    rw [List.getElem?_map] at hd1
    obtain ⟨r, hr, rfl⟩ := Option.map_eq_some_iff.mp hd1
    obtain ⟨b, sv, bv, rfl, hb, hsv, hbv⟩ := row_parts hd2
    refine st_name (st_if (st_test (st_op (st_op (st_var rfl (st_C (v_ixT hb rfl (st_var rfl (v_eqO ⟨_, rfl, ?_⟩)))))))))
    by_cases e : some r.name = n
    · rw [decide_eq_true e, if_pos rfl]
      refine ⟨_, rfl, ?_⟩
      exact h2 r _ (find_none_snoc hr hn (decide_eq_true e)) hd2
    · rw [decide_eq_false e, if_neg Bool.false_ne_true]
      exact st_next ⟨rfl, ⟨_, rfl⟩, take_all hr hn (decide_eq_false e)⟩
  · rintro σ H' ⟨rfl, ⟨w, rfl⟩, hn⟩
    show Q .non H'
    refine h1 ?_
    unfold rowOf
    rw [List.find?_eq_none]
    intro r hr
    rw [hlen, List.take_length] at hn
    simp [hn r hr]
end My
namespace My
open PySem L2 PyProof.Rows
variable {K : PySem.W.Frag} {vs : List V} {H : Hp} {Q : VK} {E : XK}
def sp_sort_of (K : PySem.W.Frag) : Sp := fun vs H Q _ => ∃ v n rs, vs = [v, oV n] ∧ Rws K H v rs ∧ Q (oV (sortOf rs n)) H
theorem len_sort_of (K : PySem.W.Frag) : ∀ vs H Q E, sp_sort_of K vs H Q E → vs.length = ["book", "name"].length := by rintro vs H Q E ⟨v, n, rs, rfl, _⟩; rfl
def R_sort_of (K : PySem.W.Frag) : TS :=
 (tSeq (tAsg (tCall (sp_row_of K) [] E0 (tCons (tVar 0) (tCons (tVar 1) tNil))) (gName 2))
 (tRet (tIf (tTest (tOp rIsA (tVar 2) (tC .non))) (tC .non) (tOp (rIxA K) (tVar 2) (tC (.int 1))))))
theorem rd_sort_of (h : sp_sort_of K vs H Q E) : R_sort_of K { nx := fun _ H' => Q .non H', rt := Q } (start ["book", "name", "row"] vs) H := by
  obtain ⟨v, n, rs, rfl, hR, q⟩ := h
  show R_sort_of K _ [some v, some (oV n), none] H
  refine ⟨_, rfl, _, rfl, v, n, rs, rfl, hR, fun e => ?_, fun r u e hu => ?_⟩
  · refine ⟨_, rfl, rfl, _, rfl, ?_⟩
    show Q .non H
    have : sortOf rs n = none := by unfold sortOf; rw [e]; rfl
    rw [this] at q; exact q
  · obtain ⟨b, sv, bv, rfl, hb, _, _⟩ := row_parts hu
    refine ⟨_, rfl, rfl, _, rfl, ?_⟩
    show (if decide (V.ref b = V.non) = true then _ else _)
    rw [decide_eq_false (by simp)]; refine iteF ?_
    refine ⟨_, rfl, v_ixT hb rfl ?_⟩
    have : sortOf rs n = some r.sort := by unfold sortOf; rw [e]; rfl
    rw [this] at q; exact q
def sp_host_of (K : PySem.W.Frag) : Sp := fun vs H Q _ => ∃ v n rs, vs = [v, oV n] ∧ Rws K H v rs ∧ Q (oV (hostOf rs n)) H
theorem len_host_of (K : PySem.W.Frag) : ∀ vs H Q E, sp_host_of K vs H Q E → vs.length = ["book", "name"].length := by rintro vs H Q E ⟨v, n, rs, rfl, _⟩; rfl
def R_host_of (K : PySem.W.Frag) : TS :=
 (tSeq (tAsg (tCall (sp_row_of K) [] E0 (tCons (tVar 0) (tCons (tVar 1) tNil))) (gName 2))
 (tSeq (tIfS (tOr (tTest (tOp rIsA (tVar 2) (tC .non))) (tTest (tOp (rNeA K) (tOp (rIxA K) (tVar 2) (tC (.int 1))) (tC (.str ("frame" : Str))))))
 (tRet (tC .non)) tNext)
 (tRet (tOp (rIxA K) (tVar 2) (tC (.int 2))))))
theorem rd_host_of (h : sp_host_of K vs H Q E) : R_host_of K { nx := fun _ H' => Q .non H', rt := Q } (start ["book", "name", "row"] vs) H := by
  obtain ⟨v, n, rs, rfl, hR, q⟩ := h
  show R_host_of K _ [some v, some (oV n), none] H
  refine ⟨_, rfl, _, rfl, v, n, rs, rfl, hR, fun e => ?_, fun r u e hu => ?_⟩
  · refine ⟨_, rfl, rfl, _, rfl, ?_⟩
    show Q .non H
    have : hostOf rs n = none := by unfold hostOf; rw [e]; rfl
    rw [this] at q; exact q
  · obtain ⟨b, sv, bv, rfl, hb, _, _⟩ := row_parts hu
    refine ⟨_, rfl, rfl, _, rfl, ?_⟩
    show (if decide (V.ref b = V.non) = true then _ else _)
    rw [decide_eq_false (by simp)]; refine iteF ?_
    refine ⟨_, rfl, v_ixT hb rfl (v_neS ⟨_, rfl, ?_⟩)⟩
    by_cases hs : r.sort = ("frame" : Str)
    · rw [decide_eq_true hs, Bool.not_true]; refine iteF ?_
      refine ⟨_, rfl, v_ixT hb rfl ?_⟩
      have : hostOf rs n = some r.host := by unfold hostOf; rw [e]; show (if r.sort = ("frame" : Str) then some r.host else none) = _; rw [if_pos hs]
      rw [this] at q; exact q
    · rw [decide_eq_false hs, Bool.not_false]; refine iteT ?_
      show Q .non H
      have : hostOf rs n = none := by unfold hostOf; rw [e]; show (if r.sort = ("frame" : Str) then some r.host else none) = _; rw [if_neg hs]
      rw [this] at q; exact q
def sp_frame_of (K : PySem.W.Frag) : Sp := fun vs H Q _ => ∃ v n rs, vs = [v, oV n] ∧ Rws K H v rs ∧ Q (oV (frameOf rs n)) H
theorem len_frame_of (K : PySem.W.Frag) : ∀ vs H Q E, sp_frame_of K vs H Q E → vs.length = ["book", "name"].length := by rintro vs H Q E ⟨v, n, rs, rfl, _⟩; rfl
def R_frame_of (K : PySem.W.Frag) : TS :=
 (tSeq (tFor (iAny K (tVar 0)) (gName 2)
 (tIfS (tAnd (tTest (tOp (rEqA K) (tOp (rIxA K) (tVar 2) (tC (.int 1))) (tC (.str ("frame" : Str))))) (tTest (tOp (rEqA K) (tOp (rIxA K) (tVar 2) (tC (.int 2))) (tVar 1))))
 (tRet (tOp (rIxA K) (tVar 2) (tC (.int 0)))) tNext))
 (tRet (tC .non)))
theorem rd_frame_of (h : sp_frame_of K vs H Q E) : R_frame_of K { nx := fun _ H' => Q .non H', rt := Q } (start ["book", "name", "row"] vs) H := by
  obtain ⟨v, n, rs, rfl, ⟨a, xs, rfl, hq, hd⟩, q⟩ := h
  show R_frame_of K _ [some (.ref a), some (oV n), none] H
  have hlen : xs.length = rs.length := by have := hd.length; simpa using this
  refine ⟨_, rfl, any_for hq (fun i σ H' => H' = H ∧ (∃ w, σ = [some (.ref a), some (oV n), w]) ∧ ∀ r ∈ rs.take i, (decide (r.sort = ("frame" : Str)) && decide (some r.host = n)) = false) ⟨rfl, ⟨_, rfl⟩, by simp⟩ (fun hl i σ H' _ p => p.1 ▸ hl) (fun ht i σ H' _ p => p.1 ▸ ht) ?_ ?_⟩
  · rintro i x σ H' hx ⟨rfl, ⟨w, rfl⟩, hn⟩
    obtain ⟨d, hd1, hd2⟩ := hd.get' hx
    rw [List.getElem?_map] at hd1
    obtain ⟨r, hr, rfl⟩ := Option.map_eq_some_iff.mp hd1
    obtain ⟨b, sv, bv, rfl, hb, hsv, hbv⟩ := row_parts hd2
    refine ⟨_, rfl, v_ixT hb rfl (v_eqS ⟨_, rfl, ?_⟩)⟩
    by_cases hs : r.sort = ("frame" : Str)
    · rw [decide_eq_true hs]; refine iteT ?_
      refine ⟨_, rfl, v_ixT hb rfl ⟨_, rfl, v_eqO ⟨_, rfl, ?_⟩⟩⟩
      by_cases e : some r.host = n
      · rw [decide_eq_true e]; refine iteT ?_
        refine ⟨_, rfl, v_ixT hb rfl ?_⟩
        have : frameOf rs n = some r.name := by
          unfold frameOf
          rw [find_none_snoc hr hn (by rw [decide_eq_true hs, decide_eq_true e]; rfl)]; rfl
        rw [this] at q; exact q
      · rw [decide_eq_false e]; refine iteF ?_
        exact ⟨rfl, ⟨_, rfl⟩, take_all hr hn (by rw [decide_eq_false e, Bool.and_false])⟩
    · rw [decide_eq_false hs]; refine iteF ?_
      refine iteF ?_
      exact ⟨rfl, ⟨_, rfl⟩, take_all hr hn (by rw [decide_eq_false hs, Bool.false_and])⟩
  · rintro σ H' ⟨rfl, ⟨w, rfl⟩, hn⟩
    show Q .non H'
    have : frameOf rs n = none := by
      unfold frameOf
      rw [List.find?_eq_none.mpr]
      · rfl
      · intro r hr
        rw [hlen, List.take_length] at hn
        rw [hn r hr]; exact Bool.false_ne_true
    rw [this] at q; exact q
end My
namespace My
open PySem L2
variable {K : PySem.W.Frag} {vs : List V} {H : Hp} {Q : VK} {E : XK}
theorem strV_len (xs : List Str) : (strV xs).length = xs.length := List.length_map _
noncomputable def ch (c : Nat) : Str := ⟨#[c]⟩
noncomputable def Lt : Str := "abcdefghijklmnopqrstuvwxyz"
theorem str_ext {x y : Str} (h : x.cps.toList = y.cps.toList) : x = y := by
  obtain ⟨a⟩ := x
  obtain ⟨b⟩ := y
  exact congrArg Str.mk (Array.toList_inj.mp h)
theorem lt_get : ∀ j : Nat, j < 26 → Lt.cps.toList[j]? = some (97 + j) := by decide +kernel
theorem lt_len : Lt.length = 26 := by decide +kernel
theorem lt_at {i : Int} (h0 : 0 ≤ i) (h1 : i < 26) : atI Lt.cps.toList i = some (97 + i.toNat) := by
  have e : i = ((i.toNat : Nat) : Int) := by omega
  have q : atI Lt.cps.toList ((i.toNat : Nat) : Int) = some (97 + i.toNat) := atI_nat (lt_get _ (by omega))
  rw [← e] at q
  exact q
theorem join_ch : ∀ bs : List Nat, (PySem.Txt.join ("" : Str) (bs.map ch)).cps.toList = bs := by
  intro bs
  have e : PySem.Txt.join ("" : Str) (bs.map ch) = Str.join ("" : Str) (bs.map ch) := PySem.StrLaws.glued_eq_join _ _
  rw [e]
  induction bs with
  | nil => rfl
  | cons b r ih =>
    cases r with
    | nil => rfl
    | cons c r =>
      show ((ch b ++ ("" : Str) ++ Str.join ("" : Str) ((c :: r).map ch)).cps).toList = _
      have ih := ih (PySem.StrLaws.glued_eq_join _ _)
      show ((ch b).cps ++ ("" : Str).cps ++ (Str.join ("" : Str) ((c :: r).map ch)).cps).toList = _
      rw [Array.toList_append, Array.toList_append, ih]
      rfl
theorem mul_ch {c : Nat} {n : Int} (h : 1 ≤ n) : (PySem.Txt.mul (ch c) n).cps.toList = List.replicate n.toNat c := by
  unfold PySem.Txt.mul
  rw [if_neg (by omega)]
  have f : ∀ (k : Nat) (acc : Array Nat), ((List.replicate k #[c]).foldl (· ++ ·) acc).toList = acc.toList ++ List.replicate k c := by
    intro k
    induction k with
    | zero => intro acc; simp
    | succ k ih => intro acc; rw [List.replicate_succ, List.foldl_cons, ih]; simp [List.replicate_succ]
  by_cases h1 : n = 1
  · subst h1; rfl
  · have e : (n == 1 || (ch c).length == 0) = false := by
      have : (n == 1) = false := by simpa using h1
      rw [this]; rfl
    rw [e, if_neg Bool.false_ne_true]
    have := f n.toNat #[]
    show (List.foldl (fun x1 x2 => x1 ++ x2) #[] (List.replicate n.toNat #[c])).toList = _
    simpa using this
theorem sl64 {n : Nat} (h : n ≤ 100000) : n ≤ sizeLine := by rw [sizeLine_eq]; omega
theorem Same.tr {H H1 H2 : Hp} (a : Same H H1) (b : Same H1 H2) : Same H H2 := fun c o e => b c o (a c o e)
theorem Same.put {H H1 : Hp} {p : Addr} (s : Same H H1) (h : H p = none) (o : HO) : Same H (upd H1 p o) := fun b u e => by
  have nb : b ≠ p := fun z => by rw [z, h] at e; cases e
  rw [upd_ne nb]; exact s b u e
theorem tupK_lst {d : Addr} {xs ys : List V} (h : H d = some (.lst xs)) : TupK H (upd H d (.lst ys)) :=
  ⟨fun b zs e => by rw [upd_ne (fun z => by rw [z, h] at e; cases e)]; exact e, fun b o zs e => by rw [upd_ne (fun z => by rw [z, h] at e; cases e)]; exact e⟩
theorem ne_free {H : Hp} {a b : Addr} {o : HO} (h : H a = some o) (g : H b = none) : a ≠ b := fun e => by rw [e, g] at h; cases h
theorem flat_strV (xs : List Str) : (strV xs).all flatV = true := by unfold strV; rw [List.all_map]; exact List.all_eq_true.mpr fun _ _ => rfl
theorem inV_strV (x : Str) : ∀ xs : List Str, inV (.str x) (strV xs) = decide (x ∈ xs)
  | [] => by simp [strV, inV]
  | y :: ys => by
    have ih := inV_strV x ys
    unfold inV at ih ⊢
    show (eqV (.str y) (.str x) || (strV ys).any fun z => eqV z (.str x)) = _
    rw [ih]
    by_cases e : x = y
    · subst e; simp [eqV]
    · have e' : ¬ y = x := fun z => e z.symm
      simp [eqV, e, e']
noncomputable def intV (ns : List Int) : List V := ns.map V.int
theorem intV_len (ns : List Int) : (intV ns).length = ns.length := List.length_map _
theorem intV_app (ns : List Int) (x : Int) : intV ns ++ [V.int x] = intV (ns ++ [x]) := by simp [intV]
theorem app_len (a b : Str) : (a ++ b).length = a.length + b.length := PySem.Str.length_append a b
theorem intV_at {ns : List Int} {i : Nat} (h : i < ns.length) : (intV ns)[i]? = some (.int ns[i]) := by unfold intV; rw [List.getElem?_map, List.getElem?_eq_getElem h]; rfl
theorem ixN_last {n : Nat} (h : 1 ≤ n) : ixN n (-1) = some (n - 1) := by
  unfold ixN
  rw [if_neg (by decide), if_pos (by omega)]
  congr 1
  omega
theorem atI_end {xs : List V} {v : V} (h : 1 ≤ xs.length) (e : xs[xs.length - 1]? = some v) : atI xs (-1) = some v := by
  unfold atI
  rw [ixN_last h]; exact e
theorem ixN_0 {n : Nat} (h : 1 ≤ n) : ixN n 0 = some 0 := by
  unfold ixN
  rw [if_pos (by decide), if_pos (by omega)]; rfl
theorem any_forS {g : TG} {tb : TS} {D : Ends} {σ : St} {H0 : Hp} {a : Addr} {xs : List V} (hq : SqL K H0 a xs ∨ SqT K H0 a xs) (s0 : Same H0 H) (Pv : Nat → St → Hp → Prop) (h0 : Pv 0 σ H) (hk : ∀ i σ H', Pv i σ H' → Same H0 H')
    (hs : ∀ i x σ H, xs[i]? = some x → Pv i σ H → g x σ H fun σ2 H2 => tb (Ends.lp D (PAt Pv (i + 1))) σ2 H2) (hd : ∀ σ H, Pv xs.length σ H → D.nx σ H) :
    ∃ b, V.ref a = .ref b ∧ (((∃ xs, SqL K H b xs) ∧ ForW g tb D σ (Itl K b) H) ∨ ((∃ xs, SqT K H b xs) ∧ ForW g tb D σ (Itt K b) H)) := by
  rcases hq with hq | hq
  · exact ⟨a, rfl, .inl ⟨⟨xs, s0.sqL hq⟩, for_list Pv h0 (fun i σ H' _ p => (hk i σ H' p).sqL hq) hs hd⟩⟩
  · exact ⟨a, rfl, .inr ⟨⟨xs, s0.sqT hq⟩, for_tup Pv h0 (fun i σ H' _ p => (hk i σ H' p).sqT hq) hs hd⟩⟩
@[reducible] def WlN (tb : TS) (D : Ends) (Pv : St → Hp → Prop) (μ : St → Hp → Nat) (k : Nat) (σ : St) (H1 : Hp) : Prop :=
  ∃ N : St → Hp → Prop, (∀ σ' H', N σ' H' → ∃ m', m' < k ∧ m' = μ σ' H' ∧ Pv σ' H') ∧ tb (Ends.lp D (N)) σ H1
theorem while_raw {c : TT} {tb : TS} {D : Ends} {σ : St} (Pv : St → Hp → Prop) (μ : St → Hp → Nat) (h0 : Pv σ H)
    (hs : ∀ σ H, Pv σ H → c σ H fun b H1 => if b = true then WlN tb D Pv μ (μ σ H) σ H1 else D.nx σ H1) : tWhile c tb D σ H := by
  refine ⟨fun m σ H => m = μ σ H ∧ Pv σ H, ⟨_, rfl, h0⟩, ?_⟩
  rintro m σ H ⟨rfl, p⟩
  exact hs σ H p
theorem any_compS {g : TG} {tt : TT} {te : TE} {σ' : St} {H0 : Hp} {a : Addr} {xs : List V} (hq : SqL K H0 a xs ∨ SqT K H0 a xs) (s0 : Same H0 H) (Pv : Nat → List V → Hp → Prop) (h0 : Pv 0 [] H) (hlen : ∀ i ys H, i ≤ xs.length → Pv i ys H → ys.length ≤ sizeLine) (hk : ∀ i ys H', Pv i ys H' → Same H0 H')
    (hs : ∀ i x ys H, xs[i]? = some x → Pv i ys H → g x σ' H fun σ2 H2 => tt σ2 H2 fun b H3 => if b = true then te σ2 H3 fun y H4 => PAt Pv (i + 1) (ys ++ [y]) H4 else PAt Pv (i + 1) ys H3)
    (hd : ∀ ys H, Pv xs.length ys H → ∀ p, H p = none → Q (.ref p) (upd H p (.lst ys))) :
    ∃ b, V.ref a = .ref b ∧ (((∃ xs, SqL K H b xs) ∧ CompW g tt te σ' Q (Itl K b) H) ∨ ((∃ xs, SqT K H b xs) ∧ CompW g tt te σ' Q (Itt K b) H)) := by
  rcases hq with hq | hq
  · exact any_compL (s0.sqL hq) Pv h0 hlen (fun i ys H' _ p => (hk i ys H' p).sqL hq) hs hd
  · refine ⟨a, rfl, .inr ⟨⟨xs, s0.sqT hq⟩, comp_of (n := xs.length) (fun i x => xs[i]? = some x) Pv h0 hlen (fun i ys H hi p => ?_) (fun i ys H x H' hi p y => ?_) (fun ys H p => ?_) (fun i x ys H _ hx p => hs i x ys H hx p) hd⟩⟩
    · exact ⟨xs, xs[i], (hk i ys H p).sqT hq, by simp [hi]⟩
    · exact ⟨y.1, y.2 xs ((hk i ys H p).sqT hq)⟩
    · exact ⟨xs, (hk _ ys H p).sqT hq, Nat.le_refl _⟩
theorem strV_get {xs : List Str} {i : Nat} {x : V} (h : (strV xs)[i]? = some x) : ∃ y, xs[i]? = some y ∧ x = .str y := by
  unfold strV at h
  rw [List.getElem?_map] at h
  obtain ⟨y, hy, e⟩ := Option.map_eq_some_iff.mp h
  exact ⟨y, hy, e.symm⟩
theorem strV_at {xs : List Str} {i : Nat} (h : i < xs.length) : (strV xs)[i]? = some (.str xs[i]) := by unfold strV; rw [List.getElem?_map, List.getElem?_eq_getElem h]; rfl
theorem strV_app (xs : List Str) (x : Str) : strV xs ++ [V.str x] = strV (xs ++ [x]) := by simp [strV]
theorem ixI {α : Type} {xs : List α} {i : Int} {v : α} (h0 : 0 ≤ i) (e : xs[i.toNat]? = some v) : atI xs i = some v := by
  have := atI_nat e
  rwa [Int.toNat_of_nonneg h0] at this
def Dk (H : Hp) (d : Addr) : Prop := ∃ ns : List Int, H d = some (.lst (intV ns)) ∧ 1 ≤ ns.length ∧ ns.length ≤ 1000
structure Mv (d : Addr) (H H' : Hp) : Prop where
  but : But [d] H H'
  dk : Dk H' d
theorem But.tr {ps : List Addr} {H H1 H2 : Hp} (a : But ps H H1) (b : But ps H1 H2) : But ps H H2 := fun c o e n => b c o (a c o e n) n
theorem Mv.refl {d : Addr} (h : Dk H d) : Mv d H H := ⟨fun _ _ e _ => e, h⟩
theorem Mv.tr {d : Addr} {H H1 H2 : Hp} (a : Mv d H H1) (b : Mv d H1 H2) : Mv d H H2 := ⟨But.tr a.but b.but, b.dk⟩
theorem Mv.at {d p : Addr} {H H' : Hp} {o : HO} (a : Mv d H H') (h : H p = some o) (n : p ≠ d) : H' p = some o := a.but p o h (by simpa using n)
theorem Dk.ne {d p : Addr} (h : Dk H d) (g : H p = none) : p ≠ d := fun e => by obtain ⟨ns, h, _⟩ := h; rw [← e, g] at h; cases h
theorem Mv.put {d p : Addr} {H H1 : Hp} (a : Mv d H H1) (h0 : Dk H d) (h : H p = none) (o : HO) : Mv d H (upd H1 p o) := by
  have np := h0.ne h
  refine ⟨fun b u e n => ?_, ?_⟩
  · have nb : b ≠ p := fun z => by rw [z, h] at e; cases e
    rw [upd_ne nb]; exact a.but b u e n
  · obtain ⟨ns, h1, h2⟩ := a.dk
    exact ⟨ns, by rw [upd_ne (Ne.symm np)]; exact h1, h2⟩
theorem Mv.new {d p : Addr} {H H1 : Hp} (a : Mv d H H1) (h : H1 p = none) (o : HO) : Mv d H (upd H1 p o) := by
  refine ⟨fun b u e n => ?_, ?_⟩
  · have := a.but b u e n
    rw [upd_ne (ne_free this h)]; exact this
  · obtain ⟨ns, h1, h2⟩ := a.dk
    exact ⟨ns, by rw [upd_ne (ne_free h1 h)]; exact h1, h2⟩
theorem Mv.same {d : Addr} {H H1 H2 : Hp} (a : Mv d H H1) (b : Same H1 H2) : Mv d H H2 := ⟨fun c o e n => b c o (a.but c o e n), by obtain ⟨ns, h1, h2⟩ := a.dk; exact ⟨ns, b _ _ h1, h2⟩⟩
theorem Mv.tupK {d : Addr} {H H1 : Hp} (a : Mv d H H1) (h : Dk H d) : TupK H H1 := by
  obtain ⟨ns, h, _⟩ := h
  exact ⟨fun b xs e => a.but b _ e (by simp; rintro rfl; rw [h] at e; cases e), fun b o xs e => a.but b _ e (by simp; rintro rfl; rw [h] at e; cases e)⟩
theorem Dvs.snoc {ds : List PyData} {d : PyData} : ∀ {vs : List V}, Dvs K H (ds ++ [d]) vs → ∃ ws y, vs = ws ++ [y] ∧ Dvs K H ds ws ∧ Dv K H d y := by
  induction ds with
  | nil =>
    intro vs h
    rw [List.nil_append, Dvs] at h
    obtain ⟨v, r, rfl, h1, h2⟩ := h
    rw [Dvs] at h2; subst h2
    exact ⟨[], v, rfl, dvs_nil, h1⟩
  | cons e ds ih =>
    intro vs h
    rw [List.cons_append, Dvs] at h
    obtain ⟨v, r, rfl, h1, h2⟩ := h
    obtain ⟨ws, y, rfl, h3, h4⟩ := ih h2
    exact ⟨v :: ws, y, rfl, dvs_cons h1 h3, h4⟩
theorem Dvs.one {d : PyData} {v : V} (h : Dv K H d v) : Dvs K H [d] [v] := dvs_cons h dvs_nil
theorem dvs_iff_get {ds : List PyData} : ∀ {vs : List V}, vs.length = ds.length → (∀ (i : Nat) (d : PyData) (v : V), ds[i]? = some d → vs[i]? = some v → Dv K H d v) → Dvs K H ds vs := by
  induction ds with
  | nil => intro vs h _; rw [List.length_eq_zero_iff.mp h]; exact dvs_nil
  | cons d ds ih =>
    intro vs h g
    cases vs with
    | nil => cases h
    | cons v vs =>
      refine dvs_cons (g 0 d v rfl rfl) (ih (by simpa using h) fun i d' v' a b => g (i + 1) d' v' (by simpa using a) (by simpa using b))
noncomputable def intD (ns : List Int) : List PyData := ns.map .int
theorem dvs_intD : ∀ {ns : List Int} {vs : List V}, Dvs K H (intD ns) vs ↔ vs = intV ns
  | [], _ => by show Dvs K H [] _ ↔ _ = []; rw [Dvs]
  | x :: xs, vs => by
    show Dvs K H (.int x :: intD xs) vs ↔ vs = V.int x :: intV xs
    rw [Dvs]
    constructor
    · rintro ⟨v, r, rfl, h1, h2⟩
      rw [dv_int.mp h1, dvs_intD.mp h2]
    · rintro rfl
      exact ⟨_, _, rfl, dv_int.mpr rfl, dvs_intD.mpr rfl⟩
theorem rng3_comp {g : TG} {tt : TT} {te : TE} {σ' : St} {n : Nat} (hn : (n : Int) < 2 ^ 62) (Pv : Nat → List V → Hp → Prop) (p0 : Pv 0 [] H) (hlen : ∀ (i : Nat) ys H, i ≤ n → Pv i ys H → ys.length ≤ sizeLine)
    (hs : ∀ (i : Nat) ys H, i < n → Pv i ys H → g (.int ((n : Int) - 1 - i)) σ' H fun σ2 H2 => tt σ2 H2 fun b H3 => if b = true then te σ2 H3 fun y H4 => PAt Pv (i + 1) (ys ++ [y]) H4 else PAt Pv (i + 1) ys H3)
    (hd : ∀ ys H, Pv n ys H → ∀ p, H p = none → Q (.ref p) (upd H p (.lst ys))) :
    ∃ m : Nat, [V.int ((n : Int) - 1), V.int (-1), V.int (-1)] = [.int ((m : Int) - 1), .int (-1), .int (-1)] ∧ (m : Int) < 2 ^ 62 ∧ CompW g tt te σ' Q (Itv m) H :=
  ⟨n, rfl, hn, comp_of (n := n) (fun i x => x = .int ((n : Int) - 1 - i)) Pv p0 hlen (fun i ys H hi _ => hi) (fun i ys H x H' hi _ y => ⟨y.1, y.2⟩) (fun ys H _ => Nat.le_refl _) (fun i x ys H hi hx p => by subst hx; exact hs i ys H hi p) hd⟩
theorem v_neE {p : Addr} {ds : List PyData} {e : Addr} (h1 : Dv K H (.list ds) (.ref p)) (h2 : H e = some (.lst [])) (h : Q (.bl (!ds.isEmpty)) H) : rNeA K (.ref p) (.ref e) H Q := by
  refine v_neM h1 (e := .list []) (dv_list.mpr ⟨e, [], rfl, SqL.of h2, dvs_nil⟩) ?_ ?_
  · exact Nat.le_trans (Nat.min_le_right _ _) (by decide)
  · cases ds <;> exact h
theorem v_eqE {p : Addr} {ds : List PyData} {e : Addr} (h1 : Dv K H (.list ds) (.ref p)) (h2 : H e = some (.lst [])) (h : Q (.bl ds.isEmpty) H) : rEqA K (.ref p) (.ref e) H Q := by
  refine v_eqM h1 (e := .list []) (dv_list.mpr ⟨e, [], rfl, SqL.of h2, dvs_nil⟩) ?_ ?_
  · exact Nat.le_trans (Nat.min_le_right _ _) (by decide)
  · cases ds <;> exact h
theorem But.two {d k : Addr} {H H' : Hp} (b : But [d, k] H H') {xs ys : List V} (h1 : H d = some (.lst xs)) (h2 : H k = some (.lst ys)) : TupK H H' :=
  ⟨fun c zs e => b c _ e (by simp; exact ⟨(by rintro rfl; rw [h1] at e; cases e), (by rintro rfl; rw [h2] at e; cases e)⟩),
   fun c o zs e => b c _ e (by simp; exact ⟨(by rintro rfl; rw [h1] at e; cases e), (by rintro rfl; rw [h2] at e; cases e)⟩)⟩
theorem Mv.two {d : Addr} {H H' : Hp} (k : Addr) (a : Mv d H H') : But [d, k] H H' := But.mono a.but (by simp)
theorem Same.two {H H' : Hp} (d k : Addr) (a : Same H H') : But [d, k] H H' := fun b o e _ => a b o e
theorem Dk.lst {d : Addr} (h : Dk H d) : ∃ xs, H d = some (.lst xs) := let ⟨ns, h, _⟩ := h; ⟨_, h⟩
theorem Dk.same {d : Addr} {H H' : Hp} (h : Dk H d) (s : Same H H') : Dk H' d := let ⟨ns, h, r⟩ := h; ⟨ns, s _ _ h, r⟩
theorem Dk.put {d p : Addr} {H : Hp} (h : Dk H d) (n : p ≠ d) (o : HO) : Dk (upd H p o) d := let ⟨ns, h, r⟩ := h; ⟨ns, by rw [upd_ne (Ne.symm n)]; exact h, r⟩
theorem none_of {H H' : Hp} {p : Addr} (s : Same H H') (h : H' p = none) : H p = none := by
  cases e : H p with
  | none => rfl
  | some o => have := s _ _ e; rw [h] at this; cases this
theorem none_mv {d : Addr} {H H' : Hp} {p : Addr} (s : Mv d H H') (h0 : Dk H d) (h : H' p = none) : H p = none := by
  cases e : H p with
  | none => rfl
  | some o =>
    by_cases n : p = d
    · subst n; obtain ⟨ns, h1, _⟩ := s.dk; rw [h] at h1; cases h1
    · have := s.at e n; rw [h] at this; cases this
end My
namespace My
open PySem L2
variable {K : PySem.W.Frag} {vs : List V} {H : Hp} {Q : VK} {E : XK}
set_option genInjectivity false in
inductive Tr where
  | tx (s : Str)
  | nd (n : Str) (ps : List Tr)
mutual
noncomputable def Tr.da : Tr → PyData
  | .tx s => .str s
  | .nd n ps => .tuple [.str n, .tuple (Tr.das ps)]
noncomputable def Tr.das : List Tr → List PyData
  | [] => []
  | t :: ts => t.da :: Tr.das ts
end
theorem das_map : ∀ ts : List Tr, Tr.das ts = ts.map Tr.da
  | [] => by rw [Tr.das]; rfl
  | t :: ts => by rw [Tr.das, das_map ts]; rfl
mutual
theorem da_fix : ∀ t : Tr, fix t.da = true
  | .tx s => by rw [Tr.da, fix]
  | .nd n ps => by rw [Tr.da, fix, fixs, fix, fixs, fix, fixs, das_fix ps]; rfl
theorem das_fix : ∀ ts : List Tr, fixs (Tr.das ts) = true
  | [] => by rw [Tr.das, fixs]
  | t :: ts => by rw [Tr.das, fixs, da_fix t, das_fix ts]; rfl
end
noncomputable def Tr.isTx : Tr → Bool
  | .tx _ => true
  | .nd _ _ => false
noncomputable def Tr.kids : Tr → List Tr
  | .tx _ => []
  | .nd _ ps => ps
noncomputable def kidsF (pl : List Int) : Nat → List Tr → List (List Int × Tr)
  | _, [] => []
  | k, t :: ts => (pl ++ [(k : Int)], t) :: kidsF pl (k + 1) ts
theorem kidsF_len (pl : List Int) : ∀ (k : Nat) (ts : List Tr), (kidsF pl k ts).length = ts.length
  | _, [] => rfl
  | k, t :: ts => by rw [kidsF, List.length_cons, List.length_cons, kidsF_len pl (k + 1) ts]
theorem kidsF_get (pl : List Int) : ∀ (k : Nat) (ts : List Tr) (i : Nat), (kidsF pl k ts)[i]? = (ts[i]?).map fun t => (pl ++ [((k + i : Nat) : Int)], t)
  | _, [], i => by simp [kidsF]
  | k, t :: ts, 0 => by simp [kidsF]
  | k, t :: ts, i + 1 => by
    rw [kidsF, List.getElem?_cons_succ, kidsF_get pl (k + 1) ts i, List.getElem?_cons_succ]
    congr 1; funext t; rw [show k + 1 + i = k + (i + 1) by omega]
mutual
noncomputable def pre (pl : List Int) : Tr → List (List Int × Tr)
  | .tx s => [(pl, .tx s)]
  | .nd n ps => (pl, .nd n ps) :: pres pl 0 ps
noncomputable def pres (pl : List Int) (k : Nat) : List Tr → List (List Int × Tr)
  | [] => []
  | t :: ts => pre (pl ++ [(k : Int)]) t ++ pres pl (k + 1) ts
end
noncomputable def flat (stk : List (List Int × Tr)) : List (List Int × Tr) := stk.flatMap fun p => pre p.1 p.2
theorem pres_flat (pl : List Int) : ∀ (k : Nat) (ts : List Tr), pres pl k ts = flat (kidsF pl k ts)
  | k, [] => by rw [pres]; rfl
  | k, t :: ts => by rw [pres, pres_flat pl (k + 1) ts, kidsF]; rfl
theorem pre_kids (pl : List Int) : ∀ t : Tr, pre pl t = (pl, t) :: flat (kidsF pl 0 t.kids)
  | .tx s => by rw [pre]; rfl
  | .nd n ps => by rw [pre, pres_flat]; rfl
theorem flat_app (a b : List (List Int × Tr)) : flat (a ++ b) = flat a ++ flat b := by unfold flat; rw [List.flatMap_append]
theorem flat_cons (p : List Int × Tr) (r : List (List Int × Tr)) : flat (p :: r) = p :: flat (kidsF p.1 0 p.2.kids ++ r) := by
  rw [flat_app]
  show pre p.1 p.2 ++ flat r = _
  rw [pre_kids]; rfl
mutual
noncomputable def wt : Tr → Nat
  | .tx s => 1 + s.length
  | .nd _ ps => 1 + wts ps
noncomputable def wts : List Tr → Nat
  | [] => 0
  | t :: ts => wt t + wts ts
end
theorem wt_pos : ∀ t : Tr, 1 ≤ wt t
  | .tx s => by rw [wt]; omega
  | .nd _ ps => by rw [wt]; omega
mutual
theorem pre_wt (pl : List Int) : ∀ t : Tr, (pre pl t).length ≤ wt t
  | .tx s => by rw [pre, wt, List.length_singleton]; omega
  | .nd n ps => by rw [pre, wt, List.length_cons]; have := pres_wt pl 0 ps; omega
theorem pres_wt (pl : List Int) (k : Nat) : ∀ ts : List Tr, (pres pl k ts).length ≤ wts ts
  | [] => by rw [pres, wts]; exact Nat.le_refl _
  | t :: ts => by rw [pres, wts, List.length_append]; have := pre_wt (pl ++ [(k : Int)]) t; have := pres_wt pl (k + 1) ts; omega
end
theorem wts_len : ∀ ts : List Tr, ts.length ≤ wts ts
  | [] => Nat.zero_le _
  | t :: ts => by rw [wts, List.length_cons]; have := wt_pos t; have := wts_len ts; omega
mutual
theorem pre_pl (pl : List Int) : ∀ (t : Tr) (p : List Int × Tr), p ∈ pre pl t → p.1.length + 1 ≤ pl.length + wt t
  | .tx s, p, h => by rw [pre, List.mem_singleton] at h; subst h; rw [wt]; show pl.length + 1 ≤ _; omega
  | .nd n ps, p, h => by
    rw [pre, List.mem_cons] at h
    rw [wt]
    rcases h with rfl | h
    · show pl.length + 1 ≤ _; omega
    · have := pres_pl pl 0 ps p h; omega
theorem pres_pl (pl : List Int) (k : Nat) : ∀ (ts : List Tr) (p : List Int × Tr), p ∈ pres pl k ts → p.1.length ≤ pl.length + wts ts
  | [], p, h => by rw [pres] at h; cases h
  | t :: ts, p, h => by
    rw [pres, List.mem_append] at h
    rw [wts]
    rcases h with h | h
    · have := pre_pl _ t p h; rw [List.length_append, List.length_singleton] at this; omega
    · have := pres_pl pl (k + 1) ts p h; omega
end
noncomputable def pD (p : List Int × Tr) : PyData := .tuple [.tuple (intD p.1), p.2.da]
theorem intD_fix : ∀ ns : List Int, fixs (intD ns) = true
  | [] => by show fixs [] = true; rw [fixs]
  | x :: xs => by show fixs (.int x :: intD xs) = true; rw [fixs, intD_fix xs, fix]; rfl
theorem pD_fix (p : List Int × Tr) : fix (pD p) = true := by unfold pD; rw [fix, fixs, fix, fixs, fixs, da_fix, intD_fix]; rfl
theorem fixs_map {α : Type} {f : α → PyData} (h : ∀ x, fix (f x) = true) : ∀ l : List α, fixs (l.map f) = true
  | [] => by show fixs [] = true; rw [fixs]
  | x :: l => by show fixs (f x :: l.map f) = true; rw [fixs, h, fixs_map h l]; rfl
theorem pD_parts {p : List Int × Tr} {v : V} (h : Dv K H (pD p) v) : ∃ a b u, v = .ref a ∧ SqT K H a [.ref b, u] ∧ SqT K H b (intV p.1) ∧ Dv K H p.2.da u := by
  obtain ⟨a, xs, rfl, ha, h⟩ := dv_tuple.mp h
  rw [Dvs] at h; obtain ⟨v1, r1, rfl, e1, h⟩ := h
  rw [Dvs] at h; obtain ⟨v2, r2, rfl, e2, h⟩ := h
  rw [Dvs] at h; subst h
  obtain ⟨b, ys, rfl, hb, h⟩ := dv_tuple.mp e1
  rw [dvs_intD] at h; subst h
  exact ⟨a, b, v2, rfl, ha, hb, e2⟩
theorem tr_parts {n : Str} {ps : List Tr} {v : V} (h : Dv K H (Tr.nd n ps).da v) : ∃ a b us, v = .ref a ∧ SqT K H a [.str n, .ref b] ∧ SqT K H b us ∧ Dvs K H (Tr.das ps) us := by
  rw [Tr.da] at h
  obtain ⟨a, xs, rfl, ha, h⟩ := dv_tuple.mp h
  rw [Dvs] at h; obtain ⟨v1, r1, rfl, e1, h⟩ := h
  rw [Dvs] at h; obtain ⟨v2, r2, rfl, e2, h⟩ := h
  rw [Dvs] at h; subst h
  rw [dv_str.mp e1] at ha
  obtain ⟨b, ys, rfl, hb, h⟩ := dv_tuple.mp e2
  exact ⟨a, b, ys, rfl, ha, hb, h⟩
theorem tr_tx {s : Str} {v : V} (h : Dv K H (Tr.tx s).da v) : v = .str s := by rw [Tr.da] at h; exact dv_str.mp h
theorem das_get {ts : List Tr} {us : List V} (h : Dvs K H (Tr.das ts) us) {i : Nat} {t : Tr} (e : ts[i]? = some t) : ∃ u, us[i]? = some u ∧ Dv K H t.da u :=
  h.get (by rw [das_map, List.getElem?_map, e]; rfl)
theorem das_len {ts : List Tr} {us : List V} (h : Dvs K H (Tr.das ts) us) : us.length = ts.length := by have := h.length; rw [das_map, List.length_map] at this; exact this
theorem isi_tr {t : Tr} {v : V} (h : Dv K H t.da v) (q : Q (.bl t.isTx) H) : rIsi K [v, .ty "str"] H Q := by
  cases t with
  | tx s => rw [tr_tx h]; exact v_isi (.str _) (b := true) rfl q
  | nd n ps => obtain ⟨a, b, us, rfl, ha, _⟩ := tr_parts h; exact v_isiT ha (b := false) rfl q
def sp_is_text (K : PySem.W.Frag) : Sp := fun vs H Q _ => ∃ (t : Tr) (v : V), vs = [v] ∧ Dv K H t.da v ∧ Q (.bl t.isTx) H
theorem len_is_text (K : PySem.W.Frag) : ∀ vs H Q E, sp_is_text K vs H Q E → vs.length = ["part"].length := by rintro vs H Q E ⟨t, v, rfl, _⟩; rfl
def R_is_text (K : PySem.W.Frag) : TS :=
 (tRet (tCB (rIsi K) (tCons (tVar 0) (tCons (tC (.ty "str")) tNil))))
theorem rd_is_text (h : sp_is_text K vs H Q E) : R_is_text K { nx := fun _ H' => Q .non H', rt := Q } (start ["part"] vs) H := by
  obtain ⟨t, v, rfl, hd, q⟩ := h
  show R_is_text K _ [some v] H
  unfold R_is_text
  walk_at "s"
  exact isi_tr hd q
def sp_parts_of (K : PySem.W.Frag) : Sp := fun vs H Q _ => ∃ (t : Tr) (v : V), vs = [v] ∧ Dv K H t.da v ∧ ∀ (p : Addr) (us : List V) (H' : Hp), Same H H' → SqT K H' p us → Dvs K H' (Tr.das t.kids) us → Q (.ref p) H'
theorem len_parts_of (K : PySem.W.Frag) : ∀ vs H Q E, sp_parts_of K vs H Q E → vs.length = ["part"].length := by rintro vs H Q E ⟨t, v, rfl, _⟩; rfl
def R_parts_of (K : PySem.W.Frag) : TS :=
 (tRet (tIf (tB (tCall (sp_is_text K) [] E0 (tCons (tVar 0) tNil))) (tTup tNil) (tOp (rIxA K) (tVar 0) (tC (.int 1)))))
theorem rd_parts_of (h : sp_parts_of K vs H Q E) : R_parts_of K { nx := fun _ H' => Q .non H', rt := Q } (start ["part"] vs) H := by
  obtain ⟨t, v, rfl, hd, q⟩ := h
  show R_parts_of K _ [some v] H
  unfold R_parts_of
  walk_at "s"
  refine ⟨t, v, rfl, hd, ?_⟩
  walk_at "s"
  cases t with
  | tx s =>
    refine iteT ?_
    walk_at "s"
    exact ⟨sl64 (by walk_at "z"), fun p hp => q p [] _ (Same.new hp _) (SqT.of upd_same) (by show Dvs K _ (Tr.das []) []; rw [Tr.das]; exact dvs_nil)⟩
  | nd n ps =>
    obtain ⟨a, b, us, rfl, ha, hb, hu⟩ := tr_parts hd
    refine iteF ?_
    walk_at "s"
    refine v_ixT ha (v := .ref b) rfl ?_
    exact q b us H (fun _ _ e => e) hb hu
@[reducible] def T_steps_below_0 (K : PySem.W.Frag) : TS :=
 (tRet (tComp [some 0, some 2, none] (iRng3 (tCons (tOp (rI0 fun i j => .int (i - j)) (tCB (rLenA K) (tCons (tVar 2) tNil)) (tC (.int 1))) (tCons (tUn (rU fun i => .int (-i)) (tC (.int 1))) (tCons (tUn (rU fun i => .int (-i)) (tC (.int 1))) tNil)))) (gName 2) tTT (tTup (tCons (tOp (rAddB K) (tVar 0) (tTup (tCons (tVar 2) tNil))) (tCons (tOp (rIxA K) (tVar 1) (tVar 2)) tNil)))))
def sp_steps_below (K : PySem.W.Frag) : Sp := fun vs H Q _ => ∃ (pl : List Int) (t : Tr) (a : Addr) (v : V), vs = [.ref a, v] ∧ SqT K H a (intV pl) ∧ Dv K H t.da v ∧ pl.length + t.kids.length ≤ 90000 ∧ ∀ (p : Addr) (us : List V) (H' : Hp), Same H H' → H' p = some (.lst us) → H p = none → Dvs K H' ((kidsF pl 0 t.kids).reverse.map pD) us → Q (.ref p) H'
theorem len_steps_below (K : PySem.W.Frag) : ∀ vs H Q E, sp_steps_below K vs H Q E → vs.length = ["place", "part"].length := by rintro vs H Q E ⟨pl, t, a, v, rfl, _⟩; rfl
def R_steps_below (K : PySem.W.Frag) : TS :=
 (tSeq (tAsg (tCall (sp_parts_of K) [] E0 (tCons (tVar 1) tNil)) (gName 2))
 (T_steps_below_0 K))
theorem rd_steps_below (h : sp_steps_below K vs H Q E) : R_steps_below K { nx := fun _ H' => Q .non H', rt := Q } (start ["place", "part", "parts"] vs) H := by
  obtain ⟨pl, t, a, v, rfl, ha, hd, hz, q⟩ := h
  show R_steps_below K _ [some (.ref a), some v, none] H
  unfold R_steps_below
  walk_at "s"
  refine ⟨t, v, rfl, hd, fun p us H1 s1 hp hu => ?_⟩
  walk_at "s"
  have hul := das_len hu
  refine v_lenQ (.inr hp) ?_
  rw [hul]
  walk_at "s"
  refine ⟨1, rfl, ?_⟩
  walk_at "s"
  refine ⟨1, rfl, ?_⟩
  walk_at "s"
  refine rng3_comp (n := t.kids.length) (by omega) (fun i ys H' => Same H1 H' ∧ ys.length = i ∧ Dvs K H' (((kidsF pl 0 t.kids).reverse.take i).map pD) ys) ⟨fun _ _ e => e, rfl, dvs_nil⟩ ?_ ?_ ?_
  · rintro i ys H' hi ⟨_, hl, _⟩
    exact sl64 (by omega)
  · rintro i ys H' hi ⟨s2, hl, hds⟩
    walk_at "s"
    refine ⟨sl64 (by walk_at "z"), fun c hc => ?_⟩
    have ha' : SqT K (upd H' c (.tup [V.int ((t.kids.length : Int) - 1 - i)])) a (intV pl) := Same.sqT (Same.tr (Same.tr s1 s2) (Same.new hc _)) ha
    refine v_catT ha' (SqT.of upd_same) (by rw [intV_len]; exact sl64 (by simp; omega)) fun t1 H2 st2 sq2 => ?_
    walk_at "s"
    have hp' : SqT K H2 p us := Same.sqT (Same.tr (Same.tr s2 (Same.new hc _)) st2) hp
    have hk : t.kids.length - 1 - i < t.kids.length := by omega
    obtain ⟨u, eu, du⟩ := das_get hu (List.getElem?_eq_getElem hk)
    have e1 : (t.kids.length : Int) - 1 - i = ((t.kids.length - 1 - i : Nat) : Int) := by omega
    rw [e1]
    refine v_ixT hp' (v := u) (atI_nat eu) ?_
    walk_at "s"
    refine ⟨sl64 (by walk_at "z"), fun t2 ht2 => ?_⟩
    have s3 : Same H1 (upd H2 t2 (.tup [.ref t1, u])) := Same.tr s2 (Same.tr (Same.new hc _) (Same.tr st2 (Same.new ht2 _)))
    refine ⟨s3, by simp [hl], ?_⟩
    have s4 : Same H' (upd H2 t2 (.tup [.ref t1, u])) := Same.tr (Same.new hc _) (Same.tr st2 (Same.new ht2 _))
    rw [List.take_add_one, List.map_append]
    refine Dvs.append (Dvs.same s4 _ _ hds) ?_
    have eg : (kidsF pl 0 t.kids).reverse[i]? = some (pl ++ [((t.kids.length - 1 - i : Nat) : Int)], t.kids[t.kids.length - 1 - i]) := by
      rw [List.getElem?_reverse (by rw [kidsF_len]; omega), kidsF_len, kidsF_get, List.getElem?_eq_getElem hk]
      simp
    rw [eg]
    refine Dvs.one ?_
    unfold pD
    refine dv_tuple.mpr ⟨t2, _, rfl, SqT.of upd_same, dvs_cons (dv_tuple.mpr ⟨t1, _, rfl, Same.sqT (Same.new ht2 _) sq2, ?_⟩) (dvs_cons (Dv.same s3 _ _ du) dvs_nil)⟩
    rw [dvs_intD, e1]
    simp [intV]
  · rintro ys H' ⟨s2, hl, hds⟩ p2 hp2
    rw [List.take_of_length_le (by rw [List.length_reverse, kidsF_len]; exact Nat.le_refl _)] at hds
    have s5 := Same.tr s1 s2
    have hn : H p2 = none := by
      cases e : H p2 with
      | none => rfl
      | some o => have := s5 _ _ e; rw [hp2] at this; cases this
    exact q p2 ys _ (Same.tr s5 (Same.new hp2 _)) upd_same hn (Dvs.same (Same.new hp2 _) _ _ hds)
@[reducible] def T_placed_parts_0 (K : PySem.W.Frag) : TS :=
 (tDrop (tBM K "list" rExtend (tVar 2) (tCons (tCall (sp_steps_below K) [] E0 (tCons (tOp (rIxA K) (tVar 3) (tC (.int 0))) (tCons (tOp (rIxA K) (tVar 3) (tC (.int 1))) tNil))) tNil)))
@[reducible] def T_placed_parts_1 (K : PySem.W.Frag) : TS :=
 (tSeq (tAsg (tBM0 K "list" rPop (tVar 2)) (gName 3))
 (tSeq (tDrop (tBM K "list" rAppend (tVar 1) (tCons (tVar 3) tNil)))
 (T_placed_parts_0 K)))
@[reducible] def T_placed_parts_2 (K : PySem.W.Frag) : TS :=
 (tSeq (tWhile (tTest (tOp rGtA (tCB (rLenA K) (tCons (tVar 2) tNil)) (tC (.int 0))))
 (T_placed_parts_1 K))
 (tRet (tVar 1)))
@[reducible] def T_placed_parts_3 (K : PySem.W.Frag) : TS :=
 (tSeq (tAsg (tLst (tCons (tTup (tCons (tTup tNil) (tCons (tVar 0) tNil))) tNil)) (gName 2))
 (T_placed_parts_2 K))
def sp_placed_parts (K : PySem.W.Frag) : Sp := fun vs H Q _ => ∃ (t : Tr) (v : V), vs = [v] ∧ Dv K H t.da v ∧ wt t ≤ 40000 ∧ ∀ (p : Addr) (us : List V) (H' : Hp), Same H H' → H p = none → H' p = some (.lst us) → Dvs K H' ((pre [] t).map pD) us → Q (.ref p) H'
theorem len_placed_parts (K : PySem.W.Frag) : ∀ vs H Q E, sp_placed_parts K vs H Q E → vs.length = ["tree"].length := by rintro vs H Q E ⟨t, v, rfl, _⟩; rfl
def R_placed_parts (K : PySem.W.Frag) : TS :=
 (tSeq (tAsg (tLst tNil) (gName 1))
 (T_placed_parts_3 K))
theorem rd_placed_parts (h : sp_placed_parts K vs H Q E) : R_placed_parts K { nx := fun _ H' => Q .non H', rt := Q } (start ["tree", "placed", "ahead", "step"] vs) H := by
  obtain ⟨t, v, rfl, hd, hz, q⟩ := h
  show R_placed_parts K _ [some v, none, none, none] H
  unfold R_placed_parts
  have hpl := pre_wt [] t
  walk_at "s"
  refine ⟨sl64 (by walk_at "z"), fun p1 hp1 => ?_⟩
  walk_at "s"
  refine ⟨sl64 (by walk_at "z"), fun c0 hc0 => ?_⟩
  walk_at "s"
  refine ⟨sl64 (by walk_at "z"), fun c1 hc1 => ?_⟩
  walk_at "s"
  refine ⟨sl64 (by walk_at "z"), fun p2 hp2 => ?_⟩
  walk_at "s"
  have sA : Same H (upd (upd (upd (upd H p1 (.lst [])) c0 (.tup [])) c1 (.tup [.ref c0, v])) p2 (.lst [.ref c1])) := Same.tr (Same.new hp1 _) (Same.tr (Same.new hc0 _) (Same.tr (Same.new hc1 _) (Same.new hp2 _)))
  have n2 : H p2 = none := by
    cases e : H p2 with
    | none => rfl
    | some o => have := Same.tr (Same.new hp1 (.lst [])) (Same.tr (Same.new hc0 (.tup [])) (Same.new hc1 (.tup [.ref c0, v]))) _ _ e; rw [hp2] at this; cases this
  have np : p1 ≠ p2 := fun e => by
    have := Same.tr (Same.new hc0 (.tup [])) (Same.new hc1 (.tup [.ref c0, v])) p1 (.lst []) upd_same
    rw [← e] at hp2; rw [hp2] at this; cases this
  have hA1 : (upd (upd (upd (upd H p1 (.lst [])) c0 (.tup [])) c1 (.tup [.ref c0, v])) p2 (.lst [.ref c1])) p1 = some (.lst []) :=
    Same.tr (Same.new hc0 (.tup [])) (Same.tr (Same.new hc1 (.tup [.ref c0, v])) (Same.new hp2 _)) p1 (.lst []) upd_same
  have hA2 : (upd (upd (upd (upd H p1 (.lst [])) c0 (.tup [])) c1 (.tup [.ref c0, v])) p2 (.lst [.ref c1])) p2 = some (.lst [.ref c1]) := upd_same
  have hAd : Dvs K (upd (upd (upd (upd H p1 (.lst [])) c0 (.tup [])) c1 (.tup [.ref c0, v])) p2 (.lst [.ref c1])) [pD ([], t)] [.ref c1] := by
    refine Dvs.one ?_
    unfold pD
    have sc0 : Same (upd (upd H p1 (.lst [])) c0 (.tup [])) (upd (upd (upd (upd H p1 (.lst [])) c0 (.tup [])) c1 (.tup [.ref c0, v])) p2 (.lst [.ref c1])) := Same.tr (Same.new hc1 _) (Same.new hp2 _)
    have sc1 : Same (upd (upd (upd H p1 (.lst [])) c0 (.tup [])) c1 (.tup [.ref c0, v])) (upd (upd (upd (upd H p1 (.lst [])) c0 (.tup [])) c1 (.tup [.ref c0, v])) p2 (.lst [.ref c1])) := Same.new hp2 _
    exact dv_tuple.mpr ⟨c1, _, rfl, Same.sqT sc1 (SqT.of upd_same), dvs_cons (dv_tuple.mpr ⟨c0, [], rfl, Same.sqT sc0 (SqT.of upd_same), dvs_nil⟩) (dvs_cons (Dv.same sA _ _ hd) dvs_nil)⟩
  generalize (upd (upd (upd (upd H p1 (.lst [])) c0 (.tup [])) c1 (.tup [.ref c0, v])) p2 (.lst [.ref c1])) = HA at *
  let Pv0 : St → Hp → Prop := fun σ H' => ∃ (w : Option V) (us ws : List V) (done stk : List (List Int × Tr)), σ = [some v, some (.ref p1), some (.ref p2), w] ∧ Same H H' ∧ H' p1 = some (.lst us) ∧ H' p2 = some (.lst ws) ∧ Dvs K H' (done.map pD) us ∧ Dvs K H' (stk.reverse.map pD) ws ∧ done ++ flat stk = pre [] t
  refine while_raw Pv0
    (fun σ H' => match H' p1 with | some (.lst us) => (pre [] t).length - us.length | _ => 0) ⟨none, [], [.ref c1], [], [([], t)], rfl, sA, hA1, hA2, dvs_nil, hAd, by simp [flat]⟩ ?_
  rintro σ H' ⟨w, us, ws, done, stk, rfl, s1, h1, h2, d1, d2, e⟩
  have hel : done.length + (flat stk).length = (pre [] t).length := by rw [← e, List.length_append]
  have hdl : us.length = done.length := by have := d1.length; rw [List.length_map] at this; exact this
  have hwl : ws.length = stk.length := by have := d2.length; rw [List.length_map, List.length_reverse] at this; exact this
  walk_at "s"
  refine v_lenQ (.inl (SqL.of h2)) ?_
  walk_at "s"
  rw [hwl]
  cases stk with
  | nil =>
    refine iteF ?_
    walk_at "s"
    have : done = pre [] t := by simpa [flat] using e
    rw [this] at d1
    exact q p1 us H' s1 hp1 h1 d1
  | cons pt rest =>
    rw [decide_eq_true (by rw [List.length_cons]; omega)]
    refine iteT ?_
    obtain ⟨pl, u⟩ := pt
    rw [List.reverse_cons, List.map_append] at d2
    obtain ⟨ws', y, rfl, d3, d4⟩ := Dvs.snoc d2
    rw [flat_cons] at e hel
    dsimp only at e hel
    rw [List.length_cons, flat_app, List.length_append] at hel
    have hm : (pl, u) ∈ pre [] t := by rw [← e]; simp
    have hplw := pre_pl [] t _ hm
    have hkw : (flat (kidsF pl 0 u.kids)).length ≥ u.kids.length := by
      have : ∀ (l : List (List Int × Tr)), l.length ≤ (flat l).length := fun l => by
        induction l with
        | nil => exact Nat.zero_le _
        | cons p r ih => rw [flat_cons, flat_app, List.length_cons, List.length_cons, List.length_append]; omega
      have := this (kidsF pl 0 u.kids)
      rw [kidsF_len] at this; exact this
    have hrl : rest.length ≤ (flat rest).length := by
      have : ∀ (l : List (List Int × Tr)), l.length ≤ (flat l).length := fun l => by
        induction l with
        | nil => exact Nat.zero_le _
        | cons p r ih => rw [flat_cons, flat_app, List.length_cons, List.length_cons, List.length_append]; omega
      exact this rest
    dsimp only at hplw
    rw [List.length_nil] at hplw
    let Nv1 : St → Hp → Prop := fun σ' H'' => ∃ (w : Option V) (us ws : List V) (stk : List (List Int × Tr)), σ' = [some v, some (.ref p1), some (.ref p2), w] ∧ Same H H'' ∧ H'' p1 = some (.lst us) ∧ H'' p2 = some (.lst ws) ∧ Dvs K H'' ((done ++ [(pl, u)]).map pD) us ∧ Dvs K H'' (stk.reverse.map pD) ws ∧ done ++ [(pl, u)] ++ flat stk = pre [] t
    refine ⟨Nv1, ?_, ?_⟩
    · rintro σ' H'' ⟨w, us', ws, stk, rfl, s1', h1', h2', d1', d2', e'⟩
      have hl' : us'.length = done.length + 1 := by have := d1'.length; rw [List.length_map, List.length_append] at this; exact this
      refine ⟨_, ?_, rfl, w, us', ws, _, stk, rfl, s1', h1', h2', d1', d2', e'⟩
      dsimp only
      rw [h1, h1']
      dsimp only
      omega
    · walk_at "s"
      refine ⟨.inl ⟨rfl, _, SqL.of h2⟩, ?_⟩
      refine v_pop h2 ?_
      walk_at "s"
      have h1' : (upd H' p2 (.lst ws')) p1 = some (.lst us) := by rw [upd_ne np]; exact h1
      refine ⟨.inl ⟨rfl, _, SqL.of h1'⟩, ?_⟩
      walk_at "s"
      refine v_append h1' (by rw [sizeLine_eq]; omega) ?_
      walk_at "s"
      have sB : Same H (upd (upd H' p2 (.lst ws')) p1 (.lst (us ++ [y]))) := Same.put (Same.put s1 n2 _) hp1 _
      have tB : TupK H' (upd (upd H' p2 (.lst ws')) p1 (.lst (us ++ [y]))) := (tupK_lst h2).trans (tupK_lst h1')
      have hB1 : (upd (upd H' p2 (.lst ws')) p1 (.lst (us ++ [y]))) p1 = some (.lst (us ++ [y])) := upd_same
      have hB2 : (upd (upd H' p2 (.lst ws')) p1 (.lst (us ++ [y]))) p2 = some (.lst ws') := by rw [upd_ne (Ne.symm np)]; exact upd_same
      have dB1 : Dvs K (upd (upd H' p2 (.lst ws')) p1 (.lst (us ++ [y]))) ((done ++ [(pl, u)]).map pD) (us ++ [y]) := by
        rw [List.map_append]
        exact Dvs.tupK tB _ _ (by rw [← List.map_append]; exact fixs_map pD_fix _) (Dvs.append d1 (Dvs.one d4))
      have dB2 : Dvs K (upd (upd H' p2 (.lst ws')) p1 (.lst (us ++ [y]))) (rest.reverse.map pD) ws' := Dvs.tupK tB _ _ (fixs_map pD_fix _) d3
      have dBy : Dv K (upd (upd H' p2 (.lst ws')) p1 (.lst (us ++ [y]))) (pD (pl, u)) y := Dv.tupK tB _ _ (pD_fix _) d4
      generalize (upd (upd H' p2 (.lst ws')) p1 (.lst (us ++ [y]))) = HB at *
      refine ⟨.inl ⟨rfl, _, SqL.of hB2⟩, ?_⟩
      obtain ⟨a, bq, uu, rfl, ha, hb, hu⟩ := pD_parts dBy
      walk_at "s"
      refine v_ixT ha (v := .ref bq) rfl ?_
      walk_at "s"
      refine v_ixT ha (v := uu) rfl ?_
      walk_at "s"
      refine ⟨pl, u, bq, uu, rfl, hb, hu, by omega, fun p3 zs HC sC hC3 n3 dC => ?_⟩
      walk_at "s"
      have hC2 := sC _ _ hB2
      have hzl : zs.length = u.kids.length := by have := dC.length; rw [List.length_map, List.length_reverse, kidsF_len] at this; exact this
      have hwl' : ws'.length = rest.length := by have := d3.length; rw [List.length_map, List.length_reverse] at this; exact this
      refine v_extend hC2 hC3 (sl64 (by omega)) ?_
      walk_at "s"
      have hC1 := sC _ _ hB1
      have tC : TupK HC (upd HC p2 (.lst (ws' ++ zs))) := tupK_lst hC2
      refine ⟨_, _, _, kidsF pl 0 u.kids ++ rest, rfl, Same.put (Same.tr sB sC) n2 _, by rw [upd_ne np]; exact hC1, upd_same, Dvs.tupK tC _ _ (fixs_map pD_fix _) (Dvs.same sC _ _ dB1), ?_, by simp [e]⟩
      rw [List.reverse_append, List.map_append]
      refine Dvs.tupK tC _ _ (by rw [← List.map_append]; exact fixs_map pD_fix _) (Dvs.append (Dvs.same sC _ _ dB2) dC)
theorem Row.fix (r : Row) : L2.fix r.da = true := by
  unfold Row.da
  have hs : ∀ xs : List Str, fixs (sDa xs) = true := fun xs => fixs_map (f := PyData.str) (fun x => by rw [L2.fix]) xs
  rw [L2.fix, fixs, fixs, fixs, fixs, fixs, fixs, L2.fix, L2.fix, L2.fix, L2.fix, L2.fix, hs, hs]; rfl
theorem ins_dvs {ds : List PyData} {d : PyData} {us : List V} {u : V} {k : Nat} (h : Dvs K H ds us) (hd : Dv K H d u) (hk : k ≤ us.length) : Dvs K H (insAt ds k d) (insAt us k u) := by
  have hl := h.length
  refine dvs_iff_get ?_ ?_
  · unfold insAt; simp; omega
  · intro i e v he hv
    unfold insAt at he hv
    have ld : (ds.take k).length = k := by rw [List.length_take]; omega
    have lu : (us.take k).length = k := by rw [List.length_take]; omega
    by_cases h1 : i < k
    · rw [List.getElem?_append_left (by omega), List.getElem?_take_of_lt h1] at he
      rw [List.getElem?_append_left (by omega), List.getElem?_take_of_lt h1] at hv
      obtain ⟨v', hv', dv'⟩ := h.get he
      rw [hv] at hv'; cases hv'; exact dv'
    · rw [List.getElem?_append_right (by omega), ld] at he
      rw [List.getElem?_append_right (by omega), lu] at hv
      by_cases h2 : i = k
      · subst h2
        rw [Nat.sub_self] at he hv
        cases he; cases hv; exact hd
      · obtain ⟨j, rfl⟩ : ∃ j, i = k + 1 + j := ⟨i - (k + 1), by omega⟩
        rw [show k + 1 + j - k = j + 1 by omega, List.getElem?_cons_succ, List.getElem?_drop] at he hv
        obtain ⟨v', hv', dv'⟩ := h.get he
        rw [hv] at hv'; cases hv'; exact dv'
theorem insAt_map {α β : Type} (f : α → β) (l : List α) (k : Nat) (x : α) : (insAt l k x).map f = insAt (l.map f) k (f x) := by unfold insAt; simp
theorem insAt_len {α : Type} (l : List α) (k : Nat) (x : α) (h : k ≤ l.length) : (insAt l k x).length = l.length + 1 := by unfold insAt; simp; omega
theorem insAt_mem {α : Type} {l : List α} {k : Nat} {x y : α} (h : y ∈ insAt l k x) : y = x ∨ y ∈ l := by
  unfold insAt at h
  rcases List.mem_append.mp h with h | h
  · exact .inr (List.mem_of_mem_take h)
  · rcases List.mem_cons.mp h with h | h
    · exact .inl h
    · exact .inr (List.mem_of_mem_drop h)
theorem da_nd {n : Str} {ps : List Tr} {r t : Addr} {us : List V} (h1 : SqT K H r [.str n, .ref t]) (h2 : SqT K H t us) (h3 : Dvs K H (Tr.das ps) us) : Dv K H (Tr.nd n ps).da (.ref r) := by
  rw [Tr.da]
  exact dv_tuple.mpr ⟨r, _, rfl, h1, dvs_cons (dv_str.mpr rfl) (dvs_cons (dv_tuple.mpr ⟨t, us, rfl, h2, h3⟩) dvs_nil)⟩
theorem da_tx (s : Str) : Dv K H (Tr.tx s).da (.str s) := by rw [Tr.da]; exact dv_str.mpr rfl
mutual
noncomputable def hgt : Tr → Nat
  | .tx _ => 0
  | .nd _ ps => 1 + hgts ps
noncomputable def hgts : List Tr → Nat
  | [] => 0
  | t :: ts => max (hgt t) (hgts ts)
end
theorem wts_app : ∀ a b : List Tr, wts (a ++ b) = wts a + wts b
  | [], b => by rw [List.nil_append, wts, Nat.zero_add]
  | t :: a, b => by rw [List.cons_append, wts, wts, wts_app a b]; omega
theorem hgts_app : ∀ a b : List Tr, hgts (a ++ b) = max (hgts a) (hgts b)
  | [], b => by rw [List.nil_append, hgts]; omega
  | t :: a, b => by rw [List.cons_append, hgts, hgts, hgts_app a b]; omega
mutual
theorem pre_h (pl : List Int) : ∀ (t : Tr) (p : List Int × Tr), p ∈ pre pl t → p.1.length ≤ pl.length + hgt t
  | .tx s, p, h => by rw [pre, List.mem_singleton] at h; subst h; show pl.length ≤ _; omega
  | .nd n ps, p, h => by
    rw [pre, List.mem_cons] at h
    rw [hgt]
    rcases h with rfl | h
    · show pl.length ≤ _; omega
    · have := pres_h pl 0 ps p h; omega
theorem pres_h (pl : List Int) (k : Nat) : ∀ (ts : List Tr) (p : List Int × Tr), p ∈ pres pl k ts → p.1.length ≤ pl.length + 1 + hgts ts
  | [], p, h => by rw [pres] at h; cases h
  | t :: ts, p, h => by
    rw [pres, List.mem_append] at h
    rw [hgts]
    rcases h with h | h
    · have := pre_h _ t p h; rw [List.length_append, List.length_singleton] at this; omega
    · have := pres_h pl (k + 1) ts p h; omega
end
end My
namespace My
open PySem L2
variable {K : PySem.W.Frag} {vs : List V} {H : Hp} {Q : VK} {E : XK}
@[reducible] def T__law_numbers_2 (K : PySem.W.Frag) : TS :=
 (tSeq (tAsg (tOp (rI (fun _ j => 0 < j) fun i j => .int (i % j)) (tOp (rAddA K) (tOp (rAddA K) (tOp rMulA (tVar 4) (tVar 4)) (tOp rMulA (tC (.int 69621)) (tVar 4))) (tC (.int 7))) (tC (.int 2147483629))) (gName 4))
 (tDrop (tBM K "list" rAppend (tVar 2) (tCons (tVar 4) tNil))))
@[reducible] def T__law_numbers_3 (K : PySem.W.Frag) : TS :=
 (tSeq (tAsg (tOp (rI (fun _ j => 0 < j) fun i j => .int (i % j)) (tOp (rAddA K) (tOp (rAddA K) (tOp rMulA (tVar 4) (tVar 4)) (tOp rMulA (tC (.int 48271)) (tVar 4))) (tCB (rLenA K) (tCons (tVar 2) tNil))) (tC (.int 2147483647))) (gName 4))
 (T__law_numbers_2 K))
@[reducible] def T__law_numbers_4 (K : PySem.W.Frag) : TS :=
 (tSeq (tWhile (tTest (tOp rLtA (tCB (rLenA K) (tCons (tVar 2) tNil)) (tVar 1)))
 (T__law_numbers_3 K))
 (tRet (tOp (rAddA K) (tLst (tCons (tVar 3) tNil)) (tRev3 K (tVar 2)))))
def numT (K : PySem.W.Frag) : TS :=
 (tSeq (tAsg (tOp (rAddA K) (tC (.int 48271)) (tOp (rI (fun _ j => 0 < j) fun i j => .int (i % j)) (tCB (r_sum K) (tCons (tVar 2) tNil)) (tC (.int 2147483647)))) (gName 4))
 (T__law_numbers_4 K))
def nameT (K : PySem.W.Frag) : TS :=
 (tAsg (tOp (rAddA K) (tVar 6) (tOp (rIxA K) (tVar 2) (tOp (rI (fun _ j => 0 < j) fun i j => .int (i % j)) (tOp (rAddA K) (tVar 3) (tVar 8)) (tC (.int 26))))) (gName 6))
@[reducible] def T__law_numbers_0 (K : PySem.W.Frag) : TS :=
 (tAsg (tOp (rI CDiv fun i j => .int (i / j)) (tOp (rIxA K) (tVar 2) (tC (.int 0))) (tC (.int 2))) (gSub (tVar 2) (tC (.int 0)) rSetA))
@[reducible] def T__law_numbers_1 (K : PySem.W.Frag) : TS :=
 (tSeq (tAsg (tOp (rI (fun _ j => 0 < j) fun i j => .int (i % j)) (tOp (rIxA K) (tVar 2) (tC (.int 0))) (tC (.int 2))) (gName 3))
 (T__law_numbers_0 K))
@[reducible] def T__law_numbers_6 (K : PySem.W.Frag) : TS :=
 (tSeq (tIfS (tTest (tOp (rNeA K) (tVar 2) (tLst tNil)))
 (T__law_numbers_1 K) tNext)
 (numT K))
def sp__law_numbers (K : PySem.W.Frag) : Sp := fun vs H Q _ => ∃ (a : Addr) (ns : List Int) (m : Nat), vs = [.ref a, .int m] ∧ SqL K H a (intV ns) ∧ m ≤ 900 ∧ ∀ (d : Addr) (H' : Hp), Same H H' → H d = none → Dk H' d → Q (.ref d) H'
theorem len__law_numbers (K : PySem.W.Frag) : ∀ vs H Q E, sp__law_numbers K vs H Q E → vs.length = ["_law_script", "_law_most"].length := by rintro vs H Q E ⟨a, ns, m, rfl, _⟩; rfl
def R__law_numbers (K : PySem.W.Frag) : TS :=
 (tSeq (tAsg (tCB (rListA K) (tCons (tSl (rSlA K) (tVar 0) tNoPart (tPart (tC (.int 63)))) tNil)) (gName 2))
 (tSeq (tAsg (tC (.int 0)) (gName 3))
 (T__law_numbers_6 K)))
theorem rd__law_numbers (h : sp__law_numbers K vs H Q E) : R__law_numbers K { nx := fun _ H' => Q .non H', rt := Q } (start ["_law_script", "_law_most", "_law_deck", "_law_kind", "_law_last"] vs) H := by
  obtain ⟨sc, ns, m, rfl, hS, hm, q⟩ := h
  show R__law_numbers K _ [some (.ref sc), some (.int m), none, none, none] H
  unfold R__law_numbers
  walk_at "s"
  refine v_slL hS fun p hp => ?_
  walk_at "s"
  obtain ⟨ms, ems, hms⟩ : ∃ ms : List Int, cutV (intV ns) none (some 63) = intV ms ∧ ms.length ≤ 63 := by
    refine ⟨ns.take 63, ?_, by rw [List.length_take]; omega⟩
    have : cutV (intV ns) none (some 63) = (intV ns).take 63 := by
      unfold cutV
      show ((intV ns).drop 0).take (HT.sIx (intV ns).length (intV ns).length (some 63) - 0) = _
      rw [List.drop_zero, Nat.sub_zero]
      unfold HT.sIx
      simp only []
      by_cases h : (intV ns).length ≤ 63
      · rw [List.take_of_length_le h, List.take_of_length_le]
        simp; omega
      · congr 1
        simp; omega
    rw [this]; unfold intV; rw [List.map_take]
  rw [ems]
  refine ⟨p, _, rfl, .inl (SqL.of upd_same), fun d hd => ?_⟩
  have s1 : Same H (upd (upd H p (.lst (intV ms))) d (.lst (intV ms))) := Same.tr (Same.new hp _) (Same.new hd _)
  have hd1 : (upd (upd H p (.lst (intV ms))) d (.lst (intV ms))) d = some (.lst (intV ms)) := upd_same
  have hd0 : H d = none := by
    cases e : H d with
    | none => rfl
    | some o => have := Same.new hp (.lst (intV ms)) _ _ e; rw [hd] at this; cases this
  generalize upd (upd H p (.lst (intV ms))) d (.lst (intV ms)) = H1 at *
  walk_at "s"
  refine ⟨sl64 (by walk_at "z"), fun e he => ?_⟩
  have hd2 : (upd H1 e (.lst [])) d = some (.lst (intV ms)) := by rw [upd_ne (ne_free hd1 he)]; exact hd1
  have s2 : Same H (upd H1 e (.lst [])) := Same.tr s1 (Same.new he _)
  have he2 : (upd H1 e (.lst [])) e = some (.lst []) := upd_same
  generalize upd H1 e (.lst []) = H2 at *
  refine v_neE (ds := intD ms) (dv_list.mpr ⟨d, _, rfl, SqL.of hd2, dvs_intD.mpr rfl⟩) he2 ?_
  walk_at "s"
  have fin : ∀ (ms : List Int) (kind : Int) (H2 : Hp), Same H H2 → H2 d = some (.lst (intV ms)) → ms.length ≤ 63 → (numT K) { nx := fun _ H' => Q .non H', rt := Q } [some (.ref sc), some (.int m), some (.ref d), some (.int kind), none] H2 := by
    clear hd1 hd2 s1 s2 he2 ems
    intro ms kind H2 s2 hd2 hms
    unfold numT
    walk_at "s"
    refine v_sum (js := ms) (SqL.of hd2) fun j => ?_
    walk_at "s"
    have j0 := Int.emod_nonneg j (show (2147483647 : Int) ≠ 0 by decide)
    have j1 := Int.emod_lt_of_pos j (show (0 : Int) < 2147483647 by decide)
    generalize hL : 48271 + j % 2147483647 = L at *
    let Pv0 : St → Hp → Prop := fun σ H' => ∃ (L : Int) (ms : List Int), σ = [some (.ref sc), some (.int m), some (.ref d), some (.int kind), some (.int L)] ∧ Same H H' ∧ H' d = some (.lst (intV ms)) ∧ ms.length ≤ 900 ∧ 0 ≤ L ∧ L < 2 ^ 40
    refine while_raw Pv0
      (fun σ H' => match H' d with | some (.lst us) => m - us.length | _ => 0) ⟨L, ms, rfl, s2, hd2, by omega, by omega, by omega⟩ ?_
    rintro σ H' ⟨L, ms, rfl, s1, h1, hl, l0, l1⟩
    walk_at "s"
    refine v_lenQ (.inl (SqL.of h1)) ?_
    rw [intV_len]
    walk_at "s"
    by_cases hlt : ((ms.length : Nat) : Int) < (m : Int)
    · rw [decide_eq_true hlt]
      refine iteT ?_
      let Nv1 : St → Hp → Prop := fun σ' H'' => ∃ (L : Int) (ms' : List Int), σ' = [some (.ref sc), some (.int m), some (.ref d), some (.int kind), some (.int L)] ∧ Same H H'' ∧ H'' d = some (.lst (intV ms')) ∧ ms'.length = ms.length + 1 ∧ 0 ≤ L ∧ L < 2 ^ 40
      refine ⟨Nv1, ?_, ?_⟩
      · rintro σ' H'' ⟨L', ms', rfl, s1', h1', hl', l0', l1'⟩
        refine ⟨_, ?_, rfl, L', ms', rfl, s1', h1', by omega, l0', l1'⟩
        dsimp only
        rw [h1, h1']
        dsimp only
        rw [intV_len, intV_len]
        omega
      · walk_at "s"
        refine v_mulI (.inl ⟨by omega, by omega⟩) ?_
        walk_at "s"
        refine v_mulI (.inl ⟨by decide, by decide⟩) ?_
        walk_at "s"
        refine v_lenQ (.inl (SqL.of h1)) ?_
        walk_at "s"
        generalize hX : (L * L + 48271 * L + ((intV ms).length : Int)) % 2147483647 = Y
        have y0 : 0 ≤ Y := by rw [← hX]; exact Int.emod_nonneg _ (by decide)
        have y1 : Y < 2147483647 := by rw [← hX]; exact Int.emod_lt_of_pos _ (by decide)
        refine v_mulI (.inl ⟨by omega, by omega⟩) ?_
        walk_at "s"
        refine v_mulI (.inl ⟨by decide, by decide⟩) ?_
        walk_at "s"
        generalize hX2 : (Y * Y + 69621 * Y + 7) % 2147483629 = Z
        have z0 : 0 ≤ Z := by rw [← hX2]; exact Int.emod_nonneg _ (by decide)
        have z1 : Z < 2147483629 := by rw [← hX2]; exact Int.emod_lt_of_pos _ (by decide)
        refine ⟨.inl ⟨rfl, _, SqL.of h1⟩, ?_⟩
        walk_at "s"
        refine v_append h1 (by rw [intV_len, sizeLine_eq]; omega) ?_
        exact ⟨Z, ms ++ [Z], rfl, Same.put s1 hd0 _, by rw [← intV_app]; exact upd_same, by simp, z0, by omega⟩
    · rw [decide_eq_false hlt]
      refine iteF ?_
      walk_at "s"
      refine ⟨sl64 (by walk_at "z"), fun x hx => ?_⟩
      walk_at "s"
      have hd3 : (upd H' x (.lst [.int kind])) d = some (.lst (intV ms)) := by rw [upd_ne (ne_free h1 hx)]; exact h1
      refine ⟨d, _, rfl, SqL.of hd3, fun y hy => ?_⟩
      have hx4 : (upd (upd H' x (.lst [.int kind])) y (.lst (intV ms).reverse)) x = some (.lst [.int kind]) := by rw [upd_ne (ne_free upd_same hy)]; exact upd_same
      refine v_cat hx4 upd_same (by rw [List.length_reverse, intV_len]; exact sl64 (by simp; omega)) fun r hr => ?_
      have sx : Same H (upd (upd (upd H' x (.lst [.int kind])) y (.lst (intV ms).reverse)) r (.lst ([.int kind] ++ (intV ms).reverse))) := Same.tr s1 (Same.tr (Same.new hx _) (Same.tr (Same.new hy _) (Same.new hr _)))
      have hr0 : H r = none := by
        cases e : H r with
        | none => rfl
        | some o => have := Same.tr s1 (Same.tr (Same.new hx (.lst [.int kind])) (Same.new hy (.lst (intV ms).reverse))) _ _ e; rw [hr] at this; cases this
      refine q r _ sx hr0 ⟨kind :: ms.reverse, ?_, by simp, by simp; omega⟩
      rw [upd_same]
      simp [intV]
  cases ms with
  | nil =>
    refine iteF ?_
    walk_at "s"
    exact fin [] 0 H2 s2 hd2 (by simp)
  | cons y ys =>
    refine iteT ?_
    walk_at "s"
    refine v_ixL (SqL.of hd2) (v := .int y) (atI_nat (j := 0) rfl) ?_
    walk_at "s"
    refine v_ixL (SqL.of hd2) (v := .int y) (atI_nat (j := 0) rfl) ?_
    walk_at "s"
    refine .inl (v_setL hd2 (j := 0) (ixN_0 (by simp [intV])) ?_)
    walk_at "s"
    exact fin ((y / 2) :: ys) _ _ (Same.put s2 hd0 _) (by rw [upd_same]; simp [intV]) (by simpa using hms)
@[reducible] def T__law_draw_0 (K : PySem.W.Frag) : TS :=
 (tDrop (tBM K "list" rAppend (tVar 0) (tCons (tOp (rI CDivW fun i j => .int (i / j)) (tVar 2) (tVar 1)) tNil)))
@[reducible] def T__law_draw_1 (K : PySem.W.Frag) : TS :=
 (tSeq (tIfS (tAnd (tTest (tOp (rEqA K) (tOp (rIxA K) (tVar 0) (tC (.int 0))) (tC (.int 1)))) (tTest (tOp (rNeA K) (tOp (rI CDivW fun i j => .int (i / j)) (tVar 2) (tVar 1)) (tC (.int 0)))))
 (T__law_draw_0 K) tNext)
 (tRet (tOp (rI (fun _ j => 0 < j) fun i j => .int (i % j)) (tVar 2) (tVar 1))))
def sp__law_draw (K : PySem.W.Frag) : Sp := fun vs H Q _ => ∃ (d : Addr) (m : Int), vs = [.ref d, .int m] ∧ 0 < m ∧ m < 2 ^ 200 ∧ Dk H d ∧ ∀ (n : Int) (H' : Hp), 0 ≤ n → n < m → Mv d H H' → Q (.int n) H'
theorem len__law_draw (K : PySem.W.Frag) : ∀ vs H Q E, sp__law_draw K vs H Q E → vs.length = ["_law_deck", "_law_most"].length := by rintro vs H Q E ⟨d, m, rfl, _⟩; rfl
def R__law_draw (K : PySem.W.Frag) : TS :=
 (tSeq (tIfS (tTest (tOp (rEqA K) (tCB (rLenA K) (tCons (tVar 0) tNil)) (tC (.int 1))))
 (tRet (tC (.int 0))) tNext)
 (tSeq (tAsg (tBM0 K "list" rPop (tVar 0)) (gName 2))
 (T__law_draw_1 K)))
theorem rd__law_draw (h : sp__law_draw K vs H Q E) : R__law_draw K { nx := fun _ H' => Q .non H', rt := Q } (start ["_law_deck", "_law_most", "_law_number"] vs) H := by
  obtain ⟨d, m, rfl, h0, h1, ⟨ns, hd, hl, hz⟩, q⟩ := h
  show R__law_draw K _ [some (.ref d), some (.int m), none] H
  unfold R__law_draw
  walk_at "s"
  refine v_lenQ (.inl (SqL.of hd)) ?_
  rw [intV_len]
  walk_at "s"
  by_cases e1 : ((ns.length : Nat) : Int) = 1
  · rw [decide_eq_true e1]; refine iteT ?_
    walk_at "s"
    exact q 0 H (by decide) h0 (Mv.refl ⟨ns, hd, hl, hz⟩)
  · rw [decide_eq_false e1]; refine iteF ?_
    obtain ⟨x, xs, y, rfl⟩ : ∃ x xs y, ns = x :: (xs ++ [y]) := by
      cases ns with
      | nil => simp at hl
      | cons x r =>
        have hr : r ≠ [] := fun z => by rw [z] at e1; exact e1 rfl
        exact ⟨x, r.dropLast, r.getLast hr, by rw [List.dropLast_concat_getLast hr]⟩
    walk_at "s"
    refine ⟨.inl ⟨rfl, _, SqL.of hd⟩, ?_⟩
    have hd' : H d = some (.lst (intV (x :: xs) ++ [.int y])) := by rw [hd]; simp [intV]
    refine v_pop hd' ?_
    walk_at "s"
    have b1 : But [d] H (upd H d (.lst (intV (x :: xs)))) := But.upd (by simp) _
    have hd2 : (upd H d (.lst (intV (x :: xs)))) d = some (.lst (intV (x :: xs))) := upd_same
    have n0 := Int.emod_nonneg y (show m ≠ 0 by omega)
    have n1 := Int.emod_lt_of_pos y h0
    have dk1 : Dk (upd H d (.lst (intV (x :: xs)))) d := ⟨x :: xs, hd2, by simp, by simp at hz ⊢; omega⟩
    refine v_ixL (SqL.of hd2) (v := .int x) (atI_nat (j := 0) rfl) ?_
    walk_at "s"
    by_cases ex : x = 1
    · rw [decide_eq_true ex]; refine iteT ?_
      walk_at "s"
      refine v_fdivW ⟨h0, h1⟩ ?_
      walk_at "s"
      by_cases ez : y / m = 0
      · rw [decide_eq_true ez]; refine iteF ?_
        walk_at "s"
        exact q _ _ n0 n1 ⟨b1, dk1⟩
      · rw [decide_eq_false ez]; refine iteT ?_
        walk_at "s"
        refine ⟨.inl ⟨rfl, _, SqL.of hd2⟩, ?_⟩
        walk_at "s"
        refine v_fdivW ⟨h0, h1⟩ ?_
        walk_at "s"
        refine v_append hd2 (by rw [intV_len, sizeLine_eq]; simp at hz ⊢; omega) ?_
        walk_at "s"
        refine q _ _ n0 n1 ⟨But.tr b1 (But.upd (by simp) _), (x :: xs) ++ [y / m], ?_, by simp, by simp at hz ⊢; omega⟩
        rw [upd_same, intV_app]
    · rw [decide_eq_false ex]; refine iteF ?_
      refine iteF ?_
      walk_at "s"
      exact q _ _ n0 n1 ⟨b1, dk1⟩
noncomputable def nmG (c k : Int) (j : Nat) : Nat := 97 + ((c / 64 % 26 + (if (j : Int) = c / 8 % (1 + c % 8) then c / 1664 % 3 * j + k else c / 1664 % 3 * j)) % 26).toNat
noncomputable def nameL (c k : Int) : List Nat :=
  if c / 1664 % 3 = 2 then List.replicate (1 + k % 8).toNat (97 + ((c / 64 % 26 + k / 8) % 26).toNat)
  else (List.range (1 + c % 8).toNat).map (nmG c k)
noncomputable def nameF (c k : Int) : Str := ⟨(nameL c k).toArray⟩
theorem nameL_len (c k : Int) : (nameL c k).length = if c / 1664 % 3 = 2 then (1 + k % 8).toNat else (1 + c % 8).toNat := by
  unfold nameL
  split <;> simp
theorem nameF_len (c k : Int) : 1 ≤ (nameF c k).length ∧ (nameF c k).length ≤ 8 := by
  have e : (nameF c k).length = (nameL c k).length := by show (nameL c k).toArray.size = _; simp
  rw [e, nameL_len]
  split <;> omega
theorem nameF_ne (c k : Int) : nameF c k ≠ ("" : Str) := fun e => by
  have := (nameF_len c k).1
  rw [e] at this
  exact absurd this (by decide)
theorem nameF_inj {c i j : Int} (h0 : 0 ≤ i) (h1 : i < 8) (h2 : 0 ≤ j) (h3 : j < 8) (e : nameF c i = nameF c j) : i = j := by
  have e : nameL c i = nameL c j := by
    have := congrArg (fun s : Str => s.cps.toList) e
    simpa [nameF] using this
  by_cases h : c / 1664 % 3 = 2
  · have := congrArg List.length e
    rw [nameL_len, nameL_len, if_pos h, if_pos h] at this
    omega
  · unfold nameL at e
    rw [if_neg h, if_neg h] at e
    unfold nmG at e
    have g0 := Int.emod_nonneg c (show (8 : Int) ≠ 0 by decide)
    have t0 := Int.emod_nonneg (c / 8) (show (1 + c % 8 : Int) ≠ 0 by omega)
    have t1 := Int.emod_lt_of_pos (c / 8) (show (0 : Int) < 1 + c % 8 by omega)
    generalize c / 8 % (1 + c % 8) = t at *
    have := congrArg (fun l : List Nat => l[t.toNat]?) e
    simp only [List.getElem?_map, List.getElem?_range (show t.toNat < (1 + c % 8).toNat by omega), Option.map_some, Option.some.injEq] at this
    have et : ((t.toNat : Nat) : Int) = t := by omega
    rw [if_pos et, if_pos et] at this
    generalize c / 1664 % 3 * (t.toNat : Int) = z at *
    omega
noncomputable def nmP (c k : Int) (i : Nat) : Str := ⟨((List.range i).map (nmG c k)).toArray⟩
theorem nmP_succ (c k : Int) (i : Nat) : nmP c k i ++ (⟨#[nmG c k i]⟩ : Str) = nmP c k (i + 1) := by
  refine str_ext ?_
  show ((nmP c k i).cps ++ #[nmG c k i]).toList = ((List.range (i + 1)).map (nmG c k)).toArray.toList
  rw [Array.toList_append, List.range_succ, List.map_append]
  rfl
theorem nmP_len (c k : Int) (i : Nat) : (nmP c k i).length = i := by show ((List.range i).map (nmG c k)).toArray.size = i; simp
@[reducible] def T__law_name_0 (K : PySem.W.Frag) : TS :=
 (tRet (tOp rMulA (tOp (rIxA K) (tVar 2) (tOp (rI (fun _ j => 0 < j) fun i j => .int (i % j)) (tOp (rAddA K) (tVar 3) (tOp (rI CDiv fun i j => .int (i / j)) (tVar 1) (tC (.int 8)))) (tC (.int 26)))) (tOp (rAddA K) (tC (.int 1)) (tOp (rI (fun _ j => 0 < j) fun i j => .int (i % j)) (tVar 1) (tC (.int 8))))))
@[reducible] def T__law_name_2 (K : PySem.W.Frag) : TS :=
 (tSeq (tIfS (tTest (tOp (rEqA K) (tVar 7) (tVar 5)))
 (tAsg (tOp (rAddA K) (tVar 8) (tVar 1)) (gName 8)) tNext)
 (nameT K))
@[reducible] def T__law_name_3 (K : PySem.W.Frag) : TS :=
 (tSeq (tAsg (tOp rMulA (tOp (rI (fun _ j => 0 < j) fun i j => .int (i % j)) (tOp (rI CDiv fun i j => .int (i / j)) (tVar 0) (tC (.int 1664))) (tC (.int 3))) (tVar 7)) (gName 8))
 (T__law_name_2 K))
@[reducible] def T__law_name_4 (K : PySem.W.Frag) : TS :=
 (tSeq (tAsg (tC (.str ("" : Str))) (gName 6))
 (tSeq (tFor (iRng1 (tCons (tVar 4) tNil)) (gName 7)
 (T__law_name_3 K))
 (tRet (tVar 6))))
@[reducible] def T__law_name_5 (K : PySem.W.Frag) : TS :=
 (tSeq (tAsg (tOp (rI (fun _ j => 0 < j) fun i j => .int (i % j)) (tOp (rI CDiv fun i j => .int (i / j)) (tVar 0) (tC (.int 8))) (tVar 4)) (gName 5))
 (T__law_name_4 K))
@[reducible] def T__law_name_6 (K : PySem.W.Frag) : TS :=
 (tSeq (tAsg (tOp (rAddA K) (tC (.int 1)) (tOp (rI (fun _ j => 0 < j) fun i j => .int (i % j)) (tVar 0) (tC (.int 8)))) (gName 4))
 (T__law_name_5 K))
@[reducible] def T__law_name_7 (K : PySem.W.Frag) : TS :=
 (tSeq (tIfS (tTest (tOp (rEqA K) (tOp (rI (fun _ j => 0 < j) fun i j => .int (i % j)) (tOp (rI CDiv fun i j => .int (i / j)) (tVar 0) (tC (.int 1664))) (tC (.int 3))) (tC (.int 2))))
 (T__law_name_0 K) tNext)
 (T__law_name_6 K))
@[reducible] def T__law_name_8 (K : PySem.W.Frag) : TS :=
 (tSeq (tAsg (tOp (rI (fun _ j => 0 < j) fun i j => .int (i % j)) (tOp (rI CDiv fun i j => .int (i / j)) (tVar 0) (tC (.int 64))) (tC (.int 26))) (gName 3))
 (T__law_name_7 K))
def sp__law_name (K : PySem.W.Frag) : Sp := fun vs H Q _ => ∃ c k : Int, vs = [.int c, .int k] ∧ Q (.str (nameF c k)) H
theorem len__law_name (K : PySem.W.Frag) : ∀ vs H Q E, sp__law_name K vs H Q E → vs.length = ["_law_code", "_law_k"].length := by rintro vs H Q E ⟨c, k, rfl, _⟩; rfl
def R__law_name (K : PySem.W.Frag) : TS :=
 (tSeq (tAsg (tC (.str ("abcdefghijklmnopqrstuvwxyz" : Str))) (gName 2))
 (T__law_name_8 K))
theorem rd__law_name (h : sp__law_name K vs H Q E) : R__law_name K { nx := fun _ H' => Q .non H', rt := Q } (start ["_law_code", "_law_k", "_law_letters", "_law_first_here", "_law_long", "_law_told", "_law_name_here", "_law_j", "_law_step"] vs) H := by
  obtain ⟨c, k, rfl, q⟩ := h
  show R__law_name K _ [some (.int c), some (.int k), none, none, none, none, none, none, none] H
  unfold R__law_name
  walk_at "s"
  have e0 : nameF c k = ⟨(nameL c k).toArray⟩ := rfl
  unfold nameL at e0
  by_cases h2 : c / 1664 % 3 = 2
  · rw [decide_eq_true h2]; refine iteT ?_
    rw [if_pos h2] at e0
    walk_at "s"
    refine v_ixS (sl64 (by rw [show ("abcdefghijklmnopqrstuvwxyz" : Str) = Lt from rfl, lt_len]; decide)) (lt_at (Int.emod_nonneg _ (by decide)) (Int.emod_lt_of_pos _ (by decide))) ?_
    walk_at "s"
    have k0 := Int.emod_nonneg k (show (8 : Int) ≠ 0 by decide)
    have k1 := Int.emod_lt_of_pos k (show (0 : Int) < 8 by decide)
    refine v_mulS (by omega) (by omega) (show (1 : Nat) ≤ 1000 by decide) ?_
    have e1 : PySem.Txt.mul (ch (97 + ((c / 64 % 26 + k / 8) % 26).toNat)) (1 + k % 8) = nameF c k := by
      rw [e0]
      exact str_ext (mul_ch (by omega))
    rw [← e1] at q
    exact q
  · rw [decide_eq_false h2]; refine iteF ?_
    rw [if_neg h2] at e0
    have e0 : nameF c k = nmP c k (1 + c % 8).toNat := e0
    rw [e0] at q
    have hG : ∀ j, nmG c k j = 97 + ((c / 64 % 26 + (if (j : Int) = c / 8 % (1 + c % 8) then c / 1664 % 3 * j + k else c / 1664 % 3 * j)) % 26).toNat := fun _ => rfl
    generalize hf : c / 64 % 26 = f at *
    walk_at "s"
    have g0 := Int.emod_nonneg c (show (8 : Int) ≠ 0 by decide)
    have g1 := Int.emod_lt_of_pos c (show (0 : Int) < 8 by decide)
    generalize hg : (1 : Int) + c % 8 = g at *
    walk_at "s"
    generalize htl : c / 8 % g = tl at *
    let Pv2 : Nat → St → Hp → Prop := fun i σ H' => H' = H ∧ ∃ (a1 a2 : Option V), σ = [some (.int c), some (.int k), some (.str Lt), some (.int f), some (.int g), some (.int tl), some (.str (nmP c k i)), a1, a2]
    refine rng1_for (by omega) (by omega) Pv2 ⟨rfl, _, _, rfl⟩ ?_ ?_
    · rintro i σ H' hi ⟨rfl, a1, a2, rfl⟩
      have m0 := Int.emod_nonneg (c / 1664) (show (3 : Int) ≠ 0 by decide)
      have m1 := Int.emod_lt_of_pos (c / 1664) (show (0 : Int) < 3 by decide)
      walk_at "s"
      refine v_mulI (.inl ⟨by omega, by omega⟩) ?_
      have fin : ∀ (D : Ends) (sv : Int), 97 + ((f + sv) % 26).toNat = nmG c k i → (∀ (a1 a2 : Option V), D.nx [some (.int c), some (.int k), some (.str Lt), some (.int f), some (.int g), some (.int tl), some (.str (nmP c k (i + 1))), a1, a2] H') → (nameT K) D [some (.int c), some (.int k), some (.str Lt), some (.int f), some (.int g), some (.int tl), some (.str (nmP c k i)), some (.int i), some (.int sv)] H' := by
        intro D sv hsv qq
        unfold nameT
        walk_at "s"
        refine v_ixS (sl64 (by rw [lt_len]; decide)) (lt_at (Int.emod_nonneg _ (by decide)) (Int.emod_lt_of_pos _ (by decide))) ?_
        rw [hsv]
        refine v_addS (by rw [nmP_len]; show _ + 1 ≤ _; rw [sizeLine_eq]; omega) ?_
        rw [nmP_succ]
        walk_at "s"
        exact qq _ _
      walk_at "s"
      by_cases et : (i : Int) = tl
      · rw [decide_eq_true et]; refine iteT ?_
        walk_at "s"
        exact fin _ _ (by rw [hG, if_pos et]) fun a1 a2 => ⟨rfl, a1, a2, rfl⟩
      · rw [decide_eq_false et]; refine iteF ?_
        walk_at "s"
        exact fin _ _ (by rw [hG, if_neg et]) fun a1 a2 => ⟨rfl, a1, a2, rfl⟩
    · rintro σ H' ⟨rfl, a1, a2, rfl⟩
      walk_at "s"
      exact q
end My
namespace My
open PySem L2
variable {K : PySem.W.Frag} {vs : List V} {H : Hp} {Q : VK} {E : XK}
noncomputable def gd (l : List Str) (i : Nat) : Str := l.getD i ("" : Str)
theorem gd_get {l : List Str} {i : Nat} (h : i < l.length) : l[i]? = some (gd l i) := by
  unfold gd; rw [List.getD_eq_getElem?_getD]; simp [h]
theorem gd_end {xs : List Str} {y : Str} : gd (xs ++ [y]) xs.length = y := by
  have h1 := gd_get (l := xs ++ [y]) (i := xs.length) (by simp)
  rw [List.getElem?_append_right (Nat.le_refl _), Nat.sub_self] at h1
  exact (Option.some.inj h1).symm
theorem Rws.same {v : V} {rs : List Row} {H' : Hp} (h : Rws K H v rs) (s : Same H H') : Rws K H' v rs := by
  obtain ⟨a, vs, rfl, hq, hd⟩ := h
  exact ⟨a, vs, rfl, hq.imp s.sqL s.sqT, Dvs.same s _ _ hd⟩
theorem row_some {rs : List Row} {n : Str} {r : Row} (h : rowOf rs (some n) = some r) : r ∈ rs ∧ r.name = n := by
  refine ⟨List.mem_of_find?_eq_some h, ?_⟩
  have := List.find?_some h
  simpa using this
noncomputable def wall (rs : List Row) (n : Str) : Bool := match rowOf rs (some n) with | none => false | some r => decide (r.sort ∈ [("room" : Str), ("frame" : Str)])
noncomputable def near (rs : List Row) (ns : List Str) : List Str := ns.foldl (fun acc n => if wall rs n then [] else acc ++ [n]) []
theorem near_snoc (rs : List Row) (ns : List Str) (n : Str) : near rs (ns ++ [n]) = if wall rs n then [] else near rs ns ++ [n] := by
  unfold near; rw [List.foldl_append]; rfl
theorem near_len (rs : List Row) : ∀ (k : Nat) (ns : List Str), ns.length = k → (near rs ns).length ≤ k
  | 0, ns, h => by rw [List.length_eq_zero_iff.mp h]; exact Nat.le_refl _
  | k + 1, ns, h => by
    have hp : ns ≠ [] := fun e => by rw [e] at h; cases h
    rw [← List.dropLast_concat_getLast hp, near_snoc]
    have := near_len rs k ns.dropLast (by rw [List.length_dropLast]; omega)
    split
    · exact Nat.zero_le _
    · rw [List.length_append, List.length_singleton]; omega
noncomputable def lastOf (ys : List Str) : Str := gd ys (ys.length - 1)
theorem lastOf_snoc (xs : List Str) (y : Str) : lastOf (xs ++ [y]) = y := by
  unfold lastOf
  rw [List.length_append, List.length_singleton, Nat.add_sub_cancel]; exact gd_end
theorem inV_non (xs : List Str) : inV .non (strV xs) = false := by
  induction xs with
  | nil => rfl
  | cons x l ih =>
    unfold inV at ih ⊢
    show (eqV (.str x) .non || (strV l).any fun z => eqV z .non) = false
    rw [ih]; rfl
def sp_is_wall (K : PySem.W.Frag) : Sp := fun vs H Q _ => ∃ v n rs, vs = [v, .str n] ∧ Rws K H v rs ∧ Q (.bl (wall rs n)) H
theorem len_is_wall (K : PySem.W.Frag) : ∀ vs H Q E, sp_is_wall K vs H Q E → vs.length = ["book", "name"].length := by rintro vs H Q E ⟨v, n, rs, rfl, _⟩; rfl
def R_is_wall (K : PySem.W.Frag) (c_WALL_SORTS : Addr) : TS :=
 (tRet (tOp (rInB K false) (tCall (sp_sort_of K) [] E0 (tCons (tVar 0) (tCons (tVar 1) tNil))) (tC (.ref c_WALL_SORTS))))
theorem rd_is_wall {c_WALL_SORTS : Addr} (q_WALL_SORTS : ∀ H : Hp, SqT K H c_WALL_SORTS [.str ("room" : Str), .str ("frame" : Str)]) (h : sp_is_wall K vs H Q E) : R_is_wall K c_WALL_SORTS { nx := fun _ H' => Q .non H', rt := Q } (start ["book", "name"] vs) H := by
  obtain ⟨v, n, rs, rfl, hR, q⟩ := h
  show R_is_wall K c_WALL_SORTS _ [some v, some (.str n)] H
  unfold R_is_wall
  walk_at "s"
  refine ⟨v, some n, rs, rfl, hR, ?_⟩
  walk_at "s"
  have hw : wall rs n = inV (oV (sortOf rs (some n))) (strV [("room" : Str), ("frame" : Str)]) := by
    unfold wall sortOf
    cases rowOf rs (some n) with
    | none => exact (inV_non _).symm
    | some r => exact (inV_strV _ _).symm
  refine .inl (v_in (xs := strV [("room" : Str), ("frame" : Str)]) (.inr (q_WALL_SORTS H)) ?_ (flat_strV _) ?_)
  · cases sortOf rs (some n) <;> rfl
  · rw [← hw]; exact q
@[reducible] def T_near_of_0 (K : PySem.W.Frag) : TS :=
 (tIfS (tB (tCall (sp_is_wall K) [] E0 (tCons (tVar 0) (tCons (tVar 4) tNil))))
 (tAsg (tOp (rAddB K) (tVar 3) (tC (.int 1))) (gName 2)) tNext)
@[reducible] def T_near_of_1 (K : PySem.W.Frag) : TS :=
 (tSeq (tFor (iEnumT K (tCons (tVar 1) tNil)) (gTup K 2 (gCons (gName 3) (gCons (gName 4) gNil)))
 (T_near_of_0 K))
 (tRet (tCB (rTupleA K) (tCons (tSl (rSlB K) (tVar 1) (tPart (tVar 2)) tNoPart) tNil))))
def sp_near_of (K : PySem.W.Frag) : Sp := fun vs H Q _ => ∃ v a ys rs, vs = [v, .ref a] ∧ Rws K H v rs ∧ SqT K H a (strV ys) ∧ ys.length ≤ 1000 ∧ ∀ p H', Same H H' → SqT K H' p (strV (near rs ys)) → Q (.ref p) H'
theorem len_near_of (K : PySem.W.Frag) : ∀ vs H Q E, sp_near_of K vs H Q E → vs.length = ["book", "names"].length := by rintro vs H Q E ⟨v, a, ys, rs, rfl, _⟩; rfl
def R_near_of (K : PySem.W.Frag) : TS :=
 (tSeq (tAsg (tC (.int 0)) (gName 2))
 (T_near_of_1 K))
theorem rd_near_of (h : sp_near_of K vs H Q E) : R_near_of K { nx := fun _ H' => Q .non H', rt := Q } (start ["book", "names", "start", "number", "name"] vs) H := by
  obtain ⟨v, a, ys, rs, rfl, hR, hq, hl, q⟩ := h
  show R_near_of K _ [some v, some (.ref a), none, none, none] H
  unfold R_near_of
  walk_at "s"
  refine enumT_for hq (fun i σ H' => Same H H' ∧ ∃ (st : Nat) (a3 a4 : Option V), σ = [some v, some (.ref a), some (.int st), a3, a4] ∧ st ≤ i ∧ near rs (ys.take i) = (ys.take i).drop st) ⟨Same.refl _, 0, none, none, rfl, Nat.le_refl _, rfl⟩ (fun i σ H' p => p.1.sqT hq) ?_ ?_
  · rintro i x σ H' p hx ⟨s1, st, a3, a4, rfl, hst, hnr⟩ hp
    obtain ⟨y, hy, rfl⟩ := strV_get hx
    have il := (List.getElem?_eq_some_iff.mp hy).1
    have etk : ys.take (i + 1) = ys.take i ++ [y] := by rw [List.take_add_one, hy]; rfl
    have s2 : Same H (upd H' p (.tup [.int (i : Int), .str y])) := Same.tr s1 (Same.new hp _)
    refine ⟨p, _, rfl, SqT.of upd_same, rfl, _, _, rfl, st_name ⟨_, _, rfl, st_name ⟨rfl, ?_⟩⟩⟩
    walk_at "s"
    refine ⟨v, y, rs, rfl, hR.same s2, ?_⟩
    walk_at "s"
    cases hw : wall rs y with
    | true =>
      refine iteT ?_
      walk_at "s"
      refine .inl (v_addI ?_)
      walk_at "s"
      refine ⟨s2, i + 1, _, _, rfl, Nat.le_refl _, ?_⟩
      rw [etk, near_snoc, if_pos hw, List.drop_eq_nil_of_le (by rw [List.length_append, List.length_take, List.length_singleton]; omega)]
    | false =>
      refine iteF ?_
      walk_at "s"
      refine ⟨s2, st, _, _, rfl, by omega, ?_⟩
      rw [etk, near_snoc, if_neg (by rw [hw]; exact Bool.false_ne_true), hnr, List.drop_append_of_le_length (by rw [List.length_take]; omega)]
  · rintro σ H' ⟨s1, st, a3, a4, rfl, hst, hnr⟩
    rw [strV_len, List.take_length] at hnr
    walk_at "s"
    refine v_slT (s1.sqT hq) fun p H2 s2 hp => ?_
    have e : cutV (strV ys) (some (st : Int)) none = strV (near rs ys) := by
      unfold cutV
      rw [HT.sIx_nat]
      show ((strV ys).drop (min st (strV ys).length)).take ((strV ys).length - min st (strV ys).length) = _
      rw [strV_len] at hst ⊢
      rw [Nat.min_eq_left hst, List.take_of_length_le (by rw [List.length_drop, strV_len]; exact Nat.le_refl _), hnr]
      unfold strV
      rw [List.map_drop]
    rw [e] at hp
    walk_at "s"
    refine ⟨p, _, rfl, .inr ⟨hp, ?_⟩⟩
    exact q p H2 (Same.tr s1 s2) hp
def sp_share_a_name (K : PySem.W.Frag) : Sp := fun vs H Q _ => ∃ (a b : Addr) (ys zs : List Str), vs = [.ref a, .ref b] ∧ SqT K H a (strV ys) ∧ SqT K H b (strV zs) ∧ ys.length ≤ 1000 ∧ ∀ H', Same H H' → Q (.bl (ys.any fun y => decide (y ∈ zs))) H'
theorem len_share_a_name (K : PySem.W.Frag) : ∀ vs H Q E, sp_share_a_name K vs H Q E → vs.length = ["names", "others"].length := by rintro vs H Q E ⟨a, b, ys, zs, rfl, _⟩; rfl
def R_share_a_name (K : PySem.W.Frag) : TS :=
 (tRet (tCB (r_any K) (tCons (tComp [some 1, none] (iAny K (tVar 0)) (gName 1) tTT (tOp (rInB K false) (tVar 1) (tVar 0))) tNil)))
theorem rd_share_a_name (h : sp_share_a_name K vs H Q E) : R_share_a_name K { nx := fun _ H' => Q .non H', rt := Q } (start ["names", "others"] vs) H := by
  obtain ⟨a, b, ys, zs, rfl, ha, hb, hl, q⟩ := h
  show R_share_a_name K _ [some (.ref a), some (.ref b)] H
  unfold R_share_a_name
  walk_at "s"
  refine any_compS (H0 := H) (.inr ha) (Same.refl _) (fun i us H' => H' = H ∧ us = ((ys.take i).map fun y => decide (y ∈ zs)).map V.bl) ⟨rfl, rfl⟩ ?_ (fun i us H' p => p.1 ▸ Same.refl _) ?_ ?_
  · rintro i us H' hi ⟨_, rfl⟩
    rw [List.length_map, List.length_map, List.length_take]; exact sl64 (by omega)
  · rintro i x us H' hx ⟨rfl, rfl⟩
    obtain ⟨y, hy, rfl⟩ := strV_get hx
    walk_at "s"
    refine .inl (v_in (.inr hb) rfl (flat_strV _) ?_)
    rw [inV_strV]
    refine ⟨rfl, ?_⟩
    rw [List.take_add_one, hy]
    simp
  · rintro us H' ⟨rfl, rfl⟩ p hp
    rw [strV_len, List.take_length]
    walk_at "s"
    refine v_any (SqL.of upd_same) ?_
    rw [List.any_map]
    exact q _ (Same.new hp _)
def sp_straight_above (K : PySem.W.Frag) : Sp := fun vs H Q _ => ∃ (a : Addr) (ys : List Str), vs = [.ref a] ∧ (SqL K H a (strV ys) ∨ SqT K H a (strV ys)) ∧ Q (.str (lastOf ys)) H
theorem len_straight_above (K : PySem.W.Frag) : ∀ vs H Q E, sp_straight_above K vs H Q E → vs.length = ["names"].length := by rintro vs H Q E ⟨a, ys, rfl, _⟩; rfl
def R_straight_above (K : PySem.W.Frag) : TS :=
 (tRet (tIf (tTest (tOp rGtA (tCB (rLenA K) (tCons (tVar 0) tNil)) (tC (.int 0)))) (tOp (rIxA K) (tVar 0) (tUn (rU fun i => .int (-i)) (tC (.int 1)))) (tC (.str ("" : Str)))))
theorem rd_straight_above (h : sp_straight_above K vs H Q E) : R_straight_above K { nx := fun _ H' => Q .non H', rt := Q } (start ["names"] vs) H := by
  obtain ⟨a, ys, rfl, hq, q⟩ := h
  show R_straight_above K _ [some (.ref a)] H
  unfold R_straight_above
  walk_at "s"
  refine v_lenQ hq ?_
  rw [strV_len]
  walk_at "s"
  by_cases h0 : (0 : Int) < (ys.length : Int)
  · rw [decide_eq_true h0]
    refine iteT ?_
    walk_at "s"
    refine ⟨1, rfl, ?_⟩
    have e1 : (strV ys)[(strV ys).length - 1]? = some (.str (lastOf ys)) := by
      rw [strV_len]; unfold strV lastOf; rw [List.getElem?_map, gd_get (by omega)]; rfl
    have e2 := atI_end (by rw [strV_len]; omega) e1
    rcases hq with hq | hq
    · exact v_ixL hq e2 q
    · exact v_ixT hq e2 q
  · rw [decide_eq_false h0]
    refine iteF ?_
    walk_at "s"
    have : ys = [] := List.length_eq_zero_iff.mp (by omega)
    subst this
    exact q
noncomputable def way : Tr → List Int → Option (List Tr)
  | t, [] => some [t]
  | t, k :: pl => if 0 ≤ k then (match t.kids[k.toNat]? with | some u => (way u pl).map (t :: ·) | none => none) else none
theorem way_cons {t : Tr} {k : Int} {pl : List Int} {ws : List Tr} (h : way t (k :: pl) = some ws) : 0 ≤ k ∧ ∃ u ws', t.kids[k.toNat]? = some u ∧ way u pl = some ws' ∧ ws = t :: ws' := by
  rw [way] at h
  by_cases h0 : 0 ≤ k
  · rw [if_pos h0] at h
    cases e : t.kids[k.toNat]? with
    | none => rw [e] at h; cases h
    | some u =>
      rw [e] at h
      obtain ⟨ws', h1, h2⟩ := Option.map_eq_some_iff.mp h
      exact ⟨h0, u, ws', rfl, h1, h2.symm⟩
  · rw [if_neg h0] at h; cases h
theorem way_mk {t u : Tr} {k : Nat} {pl : List Int} {ws : List Tr} (e : t.kids[k]? = some u) (h : way u pl = some ws) : way t ((k : Int) :: pl) = some (t :: ws) := by
  rw [way, if_pos (by omega)]
  rw [show ((k : Int)).toNat = k by omega, e]
  show (way u pl).map (t :: ·) = _
  rw [h]; rfl
theorem way_len : ∀ {pl : List Int} {t : Tr} {ws : List Tr}, way t pl = some ws → ws.length = pl.length + 1
  | [], t, ws, h => by rw [way] at h; cases h; rfl
  | k :: pl, t, ws, h => by
    obtain ⟨_, u, ws', _, h2, rfl⟩ := way_cons h
    rw [List.length_cons, List.length_cons, way_len h2]
theorem way_step : ∀ {pl : List Int} {t : Tr} {ws : List Tr} {i : Nat} {k : Int}, way t pl = some ws → pl[i]? = some k → ∃ u w, ws[i]? = some u ∧ 0 ≤ k ∧ u.kids[k.toNat]? = some w ∧ ws[i + 1]? = some w
  | [], t, ws, i, k, _, e => by simp at e
  | j :: pl, t, ws, 0, k, h, e => by
    obtain ⟨h0, u, ws', h1, h2, rfl⟩ := way_cons h
    cases e
    refine ⟨t, u, rfl, h0, h1, ?_⟩
    cases pl with
    | nil => rw [way] at h2; cases h2; rfl
    | cons k' pl' => obtain ⟨_, _, _, _, _, rfl⟩ := way_cons h2; rfl
  | j :: pl, t, ws, i + 1, k, h, e => by
    obtain ⟨h0, u, ws', h1, h2, rfl⟩ := way_cons h
    obtain ⟨u', w, a1, a2, a3, a4⟩ := way_step (i := i) h2 (by simpa using e)
    exact ⟨u', w, by simpa using a1, a2, a3, by simpa using a4⟩
theorem way_zero {t : Tr} {pl : List Int} {ws : List Tr} (h : way t pl = some ws) : ws[0]? = some t := by
  cases pl with
  | nil => rw [way] at h; cases h; rfl
  | cons k pl => obtain ⟨_, _, _, _, _, rfl⟩ := way_cons h; rfl
theorem atI_last {α : Type} {xs : List α} {v : α} {n : Nat} (hn : xs.length = n + 1) (e : xs[n]? = some v) : atI xs (-1) = some v := by
  unfold atI ixN
  rw [if_neg (by decide), if_pos (by omega)]
  show xs[((xs.length : Int) + -1).toNat]? = some v
  rw [show ((xs.length : Int) + -1).toNat = n by omega]; exact e
def sp_name_of (K : PySem.W.Frag) : Sp := fun vs H Q _ => ∃ (n : Str) (ps : List Tr) (v : V), vs = [v] ∧ Dv K H (Tr.nd n ps).da v ∧ Q (.str n) H
theorem len_name_of (K : PySem.W.Frag) : ∀ vs H Q E, sp_name_of K vs H Q E → vs.length = ["tree"].length := by rintro vs H Q E ⟨n, ps, v, rfl, _⟩; rfl
def R_name_of (K : PySem.W.Frag) : TS :=
 (tRet (tOp (rIxA K) (tVar 0) (tC (.int 0))))
theorem rd_name_of (h : sp_name_of K vs H Q E) : R_name_of K { nx := fun _ H' => Q .non H', rt := Q } (start ["tree"] vs) H := by
  obtain ⟨n, ps, v, rfl, hd, q⟩ := h
  show R_name_of K _ [some v] H
  unfold R_name_of
  obtain ⟨a, bq, us, rfl, ha, _⟩ := tr_parts hd
  walk_at "s"
  exact v_ixT ha (v := .str n) rfl q
@[reducible] def T_way_to_0 (K : PySem.W.Frag) : TS :=
 (tSeq (tIfS (tNot (tTest (tChain rLeA rLtA (tC (.int 0)) (tVar 3) (tCB (rLenA K) (tCons (tVar 4) tNil)))))
 tNever tNext)
 (tDrop (tBM K "list" rAppend (tVar 2) (tCons (tOp (rIxA K) (tVar 4) (tVar 3)) tNil))))
@[reducible] def T_way_to_1 (K : PySem.W.Frag) : TS :=
 (tSeq (tAsg (tCall (sp_parts_of K) [] E0 (tCons (tOp (rIxA K) (tVar 2) (tUn (rU fun i => .int (-i)) (tC (.int 1)))) tNil)) (gName 4))
 (T_way_to_0 K))
def sp_way_to (K : PySem.W.Frag) : Sp := fun vs H Q _ => ∃ (t : Tr) (v : V) (a : Addr) (pl : List Int) (ws : List Tr), vs = [v, .ref a] ∧ Dv K H t.da v ∧ SqT K H a (intV pl) ∧ way t pl = some ws ∧ pl.length ≤ 50000 ∧ ∀ (p : Addr) (us : List V) (H' : Hp), Same H H' → H' p = some (.lst us) → Dvs K H' (Tr.das ws) us → Q (.ref p) H'
theorem len_way_to (K : PySem.W.Frag) : ∀ vs H Q E, sp_way_to K vs H Q E → vs.length = ["tree", "place"].length := by rintro vs H Q E ⟨t, v, a, pl, ws, rfl, _⟩; rfl
def R_way_to (K : PySem.W.Frag) : TS :=
 (tSeq (tAsg (tLst (tCons (tVar 0) tNil)) (gName 2))
 (tSeq (tFor (iAny K (tVar 1)) (gName 3)
 (T_way_to_1 K))
 (tRet (tVar 2))))
theorem rd_way_to (h : sp_way_to K vs H Q E) : R_way_to K { nx := fun _ H' => Q .non H', rt := Q } (start ["tree", "place", "way", "number", "parts"] vs) H := by
  obtain ⟨t, v, a, pl, ws, rfl, hd, ha, hw, hl, q⟩ := h
  show R_way_to K _ [some v, some (.ref a), none, none, none] H
  unfold R_way_to
  have hwl := way_len hw
  walk_at "s"
  refine ⟨sl64 (by walk_at "z"), fun p hp => ?_⟩
  walk_at "s"
  let Pv0 : Nat → St → Hp → Prop := fun i σ H' => ∃ (us : List V) (a3 a4 : Option V), σ = [some v, some (.ref a), some (.ref p), a3, a4] ∧ Same H H' ∧ H' p = some (.lst us) ∧ Dvs K H' (Tr.das (ws.take (i + 1))) us
  refine any_forS (H0 := H) (xs := intV pl) (.inr ha) (Same.new hp _) Pv0 ⟨[v], _, _, rfl, Same.new hp _, upd_same, ?_⟩ (fun i σ H' ⟨_, _, _, _, s, _⟩ => s) ?_ ?_
  · rw [List.take_add_one, List.take_zero, way_zero hw]
    show Dvs K _ (Tr.das [t]) [v]
    rw [Tr.das, Tr.das]
    exact Dvs.one (Dv.same (Same.new hp _) _ _ hd)
  · rintro i x σ H' hx ⟨us, a3, a4, rfl, s1, hp', dv⟩
    unfold intV at hx
    rw [List.getElem?_map] at hx
    obtain ⟨k, hk, rfl⟩ := Option.map_eq_some_iff.mp hx
    obtain ⟨u, w, h1, h2, h3, h4⟩ := way_step hw hk
    have il := (List.getElem?_eq_some_iff.mp hk).1
    have hul : us.length = i + 1 := by rw [das_len dv, List.length_take]; omega
    obtain ⟨y, hy, dy⟩ := das_get dv (i := i) (t := u) (by rw [List.getElem?_take_of_lt (by omega)]; exact h1)
    walk_at "s"
    refine ⟨1, rfl, ?_⟩
    refine v_ixL (SqL.of hp') (atI_last hul hy) ?_
    walk_at "s"
    refine ⟨u, y, rfl, dy, fun c ys H2 s2 hc dc => ?_⟩
    walk_at "s"
    rw [decide_eq_true h2]
    refine iteT ?_
    walk_at "s"
    refine v_lenQ (.inr hc) ?_
    have hkl := (List.getElem?_eq_some_iff.mp h3).1
    have hyl := das_len dc
    walk_at "s"
    rw [decide_eq_true (by omega)]
    refine iteF ?_
    walk_at "s"
    have hp2 := s2 _ _ hp'
    refine ⟨.inl ⟨rfl, _, SqL.of hp2⟩, ?_⟩
    walk_at "s"
    obtain ⟨z, hz, dz⟩ := das_get dc h3
    refine v_ixT hc (ixI h2 hz) ?_
    walk_at "s"
    refine v_append hp2 (by rw [sizeLine_eq]; omega) ?_
    have tk : TupK H2 (upd H2 p (.lst (us ++ [z]))) := tupK_lst hp2
    refine ⟨us ++ [z], _, _, rfl, Same.put (Same.tr s1 s2) hp _, upd_same, ?_⟩
    rw [List.take_add_one, h4, das_map, List.map_append, ← das_map]
    exact Dvs.append (Dvs.tupK tk _ _ (das_fix _) (Dvs.same s2 _ _ dv)) (Dvs.one (Dv.tupK tk _ _ (da_fix w) dz))
  · rintro σ H' ⟨us, a3, a4, rfl, s1, hp', dv⟩
    walk_at "s"
    rw [List.take_of_length_le (by rw [intV_len]; omega)] at dv
    exact q p us H' s1 hp' dv
def sp_part_at (K : PySem.W.Frag) : Sp := fun vs H Q _ => ∃ (t u : Tr) (v : V) (a : Addr) (pl : List Int) (ws : List Tr), vs = [v, .ref a] ∧ Dv K H t.da v ∧ SqT K H a (intV pl) ∧ way t pl = some (ws ++ [u]) ∧ pl.length ≤ 50000 ∧ ∀ (x : V) (H' : Hp), Same H H' → Dv K H' u.da x → Q x H'
theorem len_part_at (K : PySem.W.Frag) : ∀ vs H Q E, sp_part_at K vs H Q E → vs.length = ["tree", "place"].length := by rintro vs H Q E ⟨t, u, v, a, pl, ws, rfl, _⟩; rfl
def R_part_at (K : PySem.W.Frag) : TS :=
 (tRet (tOp (rIxA K) (tCall (sp_way_to K) [] E0 (tCons (tVar 0) (tCons (tVar 1) tNil))) (tUn (rU fun i => .int (-i)) (tC (.int 1)))))
theorem rd_part_at (h : sp_part_at K vs H Q E) : R_part_at K { nx := fun _ H' => Q .non H', rt := Q } (start ["tree", "place"] vs) H := by
  obtain ⟨t, u, v, a, pl, ws, rfl, hd, ha, hw, hl, q⟩ := h
  show R_part_at K _ [some v, some (.ref a)] H
  unfold R_part_at
  walk_at "s"
  refine ⟨t, v, a, pl, ws ++ [u], rfl, hd, ha, hw, hl, fun p us H' s1 hp dv => ?_⟩
  walk_at "s"
  refine ⟨1, rfl, ?_⟩
  rw [das_map, List.map_append] at dv
  obtain ⟨us', x, rfl, _, dx⟩ := Dvs.snoc dv
  refine v_ixL (SqL.of hp) (v := x) (atI_last (n := us'.length) (by simp) (by simp)) ?_
  exact q x H' s1 dx
noncomputable def nmOf : Tr → Str
  | .nd n _ => n
  | .tx _ => ""
theorem cut_mid (xs : List V) (x z : V) : cutV (x :: (xs ++ [z])) (some 1) (some (-1)) = xs := by
  unfold cutV
  have e1 : HT.sIx (x :: (xs ++ [z])).length 0 (some 1) = 1 := by
    have := HT.sIx_nat (x :: (xs ++ [z])).length 0 1
    rw [show ((1 : Nat) : Int) = 1 from rfl] at this
    rw [this]; simp
  have e2 : HT.sIx (x :: (xs ++ [z])).length (x :: (xs ++ [z])).length (some (-1)) = xs.length + 1 := by
    unfold HT.sIx; simp; omega
  rw [e1, e2]; simp
def sp_names_above (K : PySem.W.Frag) : Sp := fun vs H Q _ => ∃ (t u : Tr) (v : V) (a : Addr) (pl : List Int) (ws : List Tr), vs = [v, .ref a] ∧ Dv K H t.da v ∧ SqT K H a (intV pl) ∧ way t pl = some (t :: (ws ++ [u])) ∧ (∀ w ∈ ws, w.isTx = false) ∧ pl.length ≤ 50000 ∧ ∀ (p : Addr) (H' : Hp), Same H H' → H' p = some (.tup (strV (ws.map nmOf))) → Q (.ref p) H'
theorem len_names_above (K : PySem.W.Frag) : ∀ vs H Q E, sp_names_above K vs H Q E → vs.length = ["tree", "place"].length := by rintro vs H Q E ⟨t, u, v, a, pl, ws, rfl, _⟩; rfl
def R_names_above (K : PySem.W.Frag) : TS :=
 (tRet (tCB (rTupleA K) (tCons (tComp [none] (iAny K (tSl (rSlA K) (tCall (sp_way_to K) [] E0 (tCons (tVar 0) (tCons (tVar 1) tNil))) (tPart (tC (.int 1))) (tPart (tUn (rU fun i => .int (-i)) (tC (.int 1)))))) (gName 0) tTT (tCall (sp_name_of K) [] E0 (tCons (tVar 0) tNil))) tNil)))
theorem rd_names_above (h : sp_names_above K vs H Q E) : R_names_above K { nx := fun _ H' => Q .non H', rt := Q } (start ["tree", "place"] vs) H := by
  obtain ⟨t, u, v, a, pl, ws, rfl, hd, ha, hw, hn, hl, q⟩ := h
  show R_names_above K _ [some v, some (.ref a)] H
  unfold R_names_above
  have hwl := way_len hw
  rw [List.length_cons, List.length_append] at hwl
  walk_at "s"
  refine ⟨t, v, a, pl, _, rfl, hd, ha, hw, hl, fun p us H' s1 hp dv => ?_⟩
  walk_at "s"
  rw [das_map, List.map_cons, List.map_append, Dvs] at dv
  obtain ⟨v0, r, rfl, _, dv⟩ := dv
  obtain ⟨us, x, rfl, dus, dx⟩ := Dvs.snoc dv
  refine ⟨1, rfl, ?_⟩
  walk_at "s"
  refine v_slL (SqL.of hp) fun p2 hp2 => ?_
  rw [cut_mid]
  have s2 := Same.tr s1 (Same.new hp2 (.lst us))
  have dus2 : Dvs K (upd H' p2 (.lst us)) (Tr.das ws) us := by rw [das_map]; exact Dvs.same (Same.new hp2 _) _ _ dus
  have hp3 : (upd H' p2 (.lst us)) p2 = some (.lst us) := upd_same
  have hul := das_len dus2
  generalize upd H' p2 (.lst us) = H2 at *
  refine any_compL (xs := us) (SqL.of hp3) (fun i ys H' => H' = H2 ∧ ys = strV ((ws.take i).map nmOf)) ⟨rfl, rfl⟩ ?_ ?_ ?_ ?_
  · rintro i ys H' hi ⟨rfl, rfl⟩
    rw [strV_len, List.length_map, List.length_take]
    exact sl64 (by omega)
  · rintro i ys H' hi ⟨rfl, rfl⟩
    exact SqL.of hp3
  · rintro i y ys H' hy ⟨rfl, rfl⟩
    obtain ⟨d, h1, h2⟩ := dus2.get' hy
    rw [das_map, List.getElem?_map] at h1
    obtain ⟨w, hw1, rfl⟩ := Option.map_eq_some_iff.mp h1
    have hwn := hn w (List.mem_of_getElem? hw1)
    cases w with
    | tx s => cases hwn
    | nd n ps =>
      walk_at "s"
      refine ⟨n, ps, y, rfl, h2, ?_⟩
      refine ⟨rfl, ?_⟩
      rw [List.take_add_one, hw1]
      simp [strV, nmOf]
  · rintro ys H' ⟨rfl, rfl⟩ p4 hp4
    rw [hul, List.take_length]
    walk_at "s"
    refine ⟨p4, _, rfl, .inl ⟨SqL.of upd_same, fun t4 ht4 => ?_⟩⟩
    exact q t4 _ (Same.tr s2 (Same.tr (Same.new hp4 _) (Same.new ht4 _))) upd_same
def sp_places_in (K : PySem.W.Frag) : Sp := fun vs H Q _ => ∃ (t : Tr) (v : V), vs = [v] ∧ Dv K H t.da v ∧ wt t ≤ 40000 ∧ ∀ (p : Addr) (us : List V) (H' : Hp), Same H H' → H' p = some (.lst us) → Dvs K H' ((pre [] t).map fun p => .tuple (intD p.1)) us → Q (.ref p) H'
theorem len_places_in (K : PySem.W.Frag) : ∀ vs H Q E, sp_places_in K vs H Q E → vs.length = ["tree"].length := by rintro vs H Q E ⟨t, v, rfl, _⟩; rfl
def R_places_in (K : PySem.W.Frag) : TS :=
 (tRet (tComp [none, none] (iAny K (tCall (sp_placed_parts K) [] E0 (tCons (tVar 0) tNil))) (gTup K 2 (gCons (gName 0) (gCons (gName 1) gNil))) tTT (tVar 0)))
theorem rd_places_in (h : sp_places_in K vs H Q E) : R_places_in K { nx := fun _ H' => Q .non H', rt := Q } (start ["tree"] vs) H := by
  obtain ⟨t, v, rfl, hd, hz, q⟩ := h
  show R_places_in K _ [some v] H
  unfold R_places_in
  walk_at "s"
  refine ⟨t, v, rfl, hd, hz, fun p us H1 s1 _ hp dvs => ?_⟩
  have hlen : us.length = (pre [] t).length := by have := dvs.length; rw [List.length_map] at this; exact this
  have hpw := pre_wt [] t
  let Pv1 : Nat → List V → Hp → Prop := fun i ys H' => H' = H1 ∧ ys.length = i ∧ Dvs K H1 (((pre [] t).take i).map fun p => .tuple (intD p.1)) ys
  refine any_compL (xs := us) (SqL.of hp) Pv1 ⟨rfl, rfl, dvs_nil⟩ ?_ ?_ ?_ ?_
  · rintro i ys H' hi ⟨rfl, hl, _⟩
    exact sl64 (by omega)
  · rintro i ys H' hi ⟨rfl, _⟩
    exact SqL.of hp
  · rintro i x ys H' hx ⟨rfl, hl, dy⟩
    obtain ⟨e, he, hdx⟩ := dvs.get' hx
    rw [List.getElem?_map] at he
    obtain ⟨pt, hpt, rfl⟩ := Option.map_eq_some_iff.mp he
    obtain ⟨a, bq, u, rfl, ha, hb, hu⟩ := pD_parts hdx
    refine ⟨a, _, rfl, ha, rfl, _, _, rfl, ?_⟩
    walk_at "s"
    refine ⟨_, _, rfl, ?_⟩
    walk_at "s"
    refine ⟨rfl, ?_⟩
    walk_at "s"
    refine ⟨rfl, by simp [hl], ?_⟩
    rw [List.take_add_one, hpt, List.map_append]
    exact Dvs.append dy (Dvs.one (dv_tuple.mpr ⟨bq, _, rfl, hb, dvs_intD.mpr rfl⟩))
  · rintro ys H' ⟨rfl, hl, dy⟩ r hr
    rw [hlen, List.take_length] at dy
    exact q r ys _ (Same.tr s1 (Same.new hr _)) upd_same (Dvs.same (Same.new hr _) _ _ dy)
end My
namespace My
open PySem L2
variable {K : PySem.W.Frag} {vs : List V} {H : Hp} {Q : VK} {E : XK}
noncomputable def frameF (rs : List Row) (ns : List Str) (n : Str) : Option Str :=
  if (hostOf rs (some (lastOf ns))).isSome && decide (hostOf rs (some (lastOf ns)) ≠ some n) then some "guest"
  else if (frameOf rs (some n)).isSome && decide (frameOf rs (some n) ≠ some (lastOf ns)) then some "lost" else none
noncomputable def nearF (rs : List Row) (ns : List Str) (n : Str) : Option Str :=
  match rowOf rs (some n) with
  | none => none
  | some r => if ((near rs ns).any fun y => decide (y ∈ r.shuts)) then some "shut" else if ((near rs ns).any fun y => decide (y ∈ r.bars)) then some "barred" else none
noncomputable def treeF (rs : List Row) (ns : List Str) (n : Str) (m : Nat) : Option Str :=
  match sortOf rs (some n) with
  | none => some "strange"
  | some s => if s = ("bare" : Str) ∧ 0 < m then some "full" else if 19 < ns.length then some "deep" else match frameF rs ns n with | some f => some f | none => nearF rs ns n
noncomputable def textF (rs : List Row) (ns : List Str) (s : Str) (bs : Bool) : Option Str :=
  if (hostOf rs (some (lastOf ns))).isSome then some "guest" else if s = ("" : Str) then some "empty" else if bs then some "beside" else none
noncomputable def faultF (rs : List Row) (ns : List Str) (t : Tr) (bs : Bool) : Option Str :=
  match t with
  | .tx s => textF rs ns s bs
  | .nd n ps => treeF rs ns n ps.length
theorem oV_non (x : Option Str) : decide (oV x = .non) = x.isNone := by cases x <;> rfl
theorem tup_str {xs : List Str} {v : V} (h : Dv K H (.tuple (sDa xs)) v) : ∃ b, v = .ref b ∧ SqT K H b (strV xs) := by
  obtain ⟨b, ys, rfl, hb, h⟩ := dv_tuple.mp h
  rw [dvs_sDa] at h; subst h
  exact ⟨b, rfl, hb⟩
@[reducible] def T_text_fault_0 (K : PySem.W.Frag) : TS :=
 (tSeq (tIfS (tTest (tOp (rEqA K) (tVar 2) (tC (.str ("" : Str)))))
 (tRet (tC (.str ("empty" : Str)))) tNext)
 (tRet (tIf (tB (tVar 3)) (tC (.str ("beside" : Str))) (tC .non))))
def sp_text_fault (K : PySem.W.Frag) : Sp := fun vs H Q _ => ∃ (v : V) (rs : List Row) (a : Addr) (ns : List Str) (s : Str) (c : Bool), vs = [v, .ref a, .str s, .bl c] ∧ Rws K H v rs ∧ SqT K H a (strV ns) ∧ Q (oV (textF rs ns s c)) H
theorem len_text_fault (K : PySem.W.Frag) : ∀ vs H Q E, sp_text_fault K vs H Q E → vs.length = ["book", "names", "text", "beside"].length := by rintro vs H Q E ⟨v, rs, a, ns, s, c, rfl, _⟩; rfl
def R_text_fault (K : PySem.W.Frag) : TS :=
 (tSeq (tIfS (tTest (tOp rIsNotA (tCall (sp_host_of K) [] E0 (tCons (tVar 0) (tCons (tCall (sp_straight_above K) [] E0 (tCons (tVar 1) tNil)) tNil))) (tC .non)))
 (tRet (tC (.str ("guest" : Str)))) tNext)
 (T_text_fault_0 K))
theorem rd_text_fault (h : sp_text_fault K vs H Q E) : R_text_fault K { nx := fun _ H' => Q .non H', rt := Q } (start ["book", "names", "text", "beside"] vs) H := by
  obtain ⟨v, rs, a, ns, s, c, rfl, hR, ha, q⟩ := h
  show R_text_fault K _ [some v, some (.ref a), some (.str s), some (.bl c)] H
  unfold R_text_fault
  unfold textF at q
  walk_at "s"
  refine ⟨a, ns, rfl, .inr ha, ?_⟩
  walk_at "s"
  refine ⟨v, some (lastOf ns), rs, rfl, hR, ?_⟩
  walk_at "s"
  rw [oV_non]
  cases e : hostOf rs (some (lastOf ns)) with
  | some hh =>
    rw [e] at q
    refine iteT ?_
    walk_at "s"
    exact q
  | none =>
    rw [e] at q
    refine iteF ?_
    walk_at "s"
    by_cases h0 : s = ("" : Str)
    · rw [decide_eq_true h0]; refine iteT ?_
      walk_at "s"
      rw [if_neg (by decide), if_pos h0] at q
      exact q
    · rw [decide_eq_false h0]; refine iteF ?_
      rw [if_neg (by decide), if_neg h0] at q
      walk_at "s"
      cases c with
      | true => exact q
      | false => exact q
@[reducible] def T_frame_fault_0 (K : PySem.W.Frag) : TS :=
 (tSeq (tIfS (tAnd (tTest (tOp rIsNotA (tVar 5) (tC .non))) (tTest (tOp (rNeA K) (tVar 5) (tVar 3))))
 (tRet (tC (.str ("lost" : Str)))) tNext)
 (tRet (tC .non)))
def frameT (K : PySem.W.Frag) : TS :=
 (tSeq (tAsg (tCall (sp_frame_of K) [] E0 (tCons (tVar 0) (tCons (tVar 2) tNil))) (gName 5))
 (T_frame_fault_0 K))
@[reducible] def T_frame_fault_2 (K : PySem.W.Frag) : TS :=
 (tSeq (tIfS (tAnd (tTest (tOp rIsNotA (tVar 4) (tC .non))) (tTest (tOp (rNeA K) (tVar 4) (tVar 2))))
 (tRet (tC (.str ("guest" : Str)))) tNext)
 (frameT K))
@[reducible] def T_frame_fault_3 (K : PySem.W.Frag) : TS :=
 (tSeq (tAsg (tCall (sp_host_of K) [] E0 (tCons (tVar 0) (tCons (tVar 3) tNil))) (gName 4))
 (T_frame_fault_2 K))
def sp_frame_fault (K : PySem.W.Frag) : Sp := fun vs H Q _ => ∃ (v : V) (rs : List Row) (a : Addr) (ns : List Str) (n : Str), vs = [v, .ref a, .str n] ∧ Rws K H v rs ∧ SqT K H a (strV ns) ∧ Q (oV (frameF rs ns n)) H
theorem len_frame_fault (K : PySem.W.Frag) : ∀ vs H Q E, sp_frame_fault K vs H Q E → vs.length = ["book", "names", "name"].length := by rintro vs H Q E ⟨v, rs, a, ns, n, rfl, _⟩; rfl
def R_frame_fault (K : PySem.W.Frag) : TS :=
 (tSeq (tAsg (tCall (sp_straight_above K) [] E0 (tCons (tVar 1) tNil)) (gName 3))
 (T_frame_fault_3 K))
theorem rd_frame_fault (h : sp_frame_fault K vs H Q E) : R_frame_fault K { nx := fun _ H' => Q .non H', rt := Q } (start ["book", "names", "name", "above", "host", "frame"] vs) H := by
  obtain ⟨v, rs, a, ns, n, rfl, hR, ha, q⟩ := h
  show R_frame_fault K _ [some v, some (.ref a), some (.str n), none, none, none] H
  unfold R_frame_fault
  unfold frameF at q
  walk_at "s"
  refine ⟨a, ns, rfl, .inr ha, ?_⟩
  walk_at "s"
  refine ⟨v, some (lastOf ns), rs, rfl, hR, ?_⟩
  walk_at "s"
  rw [oV_non]
  have fin : ((hostOf rs (some (lastOf ns))).isSome && decide (hostOf rs (some (lastOf ns)) ≠ some n)) = false → frameT K { nx := fun _ H' => Q .non H', rt := Q } [some v, some (.ref a), some (.str n), some (.str (lastOf ns)), some (oV (hostOf rs (some (lastOf ns)))), none] H := by
    intro hc
    rw [hc, if_neg Bool.false_ne_true] at q
    unfold frameT
    walk_at "s"
    refine ⟨v, some n, rs, rfl, hR, ?_⟩
    walk_at "s"
    rw [oV_non]
    cases e : frameOf rs (some n) with
    | none =>
      rw [e] at q
      refine iteF ?_
      refine iteF ?_
      walk_at "s"
      exact q
    | some f =>
      rw [e] at q
      refine iteT ?_
      walk_at "s"
      refine v_neS ?_
      walk_at "s"
      by_cases ef : f = lastOf ns
      · rw [decide_eq_true ef]
        refine iteF ?_
        walk_at "s"
        have : ((some f).isSome && decide (some f ≠ some (lastOf ns))) = false := by simp [ef]
        rw [this, if_neg Bool.false_ne_true] at q
        exact q
      · rw [decide_eq_false ef]
        refine iteT ?_
        walk_at "s"
        have : ((some f).isSome && decide (some f ≠ some (lastOf ns))) = true := by simp [ef]
        rw [this, if_pos rfl] at q
        exact q
  cases e : hostOf rs (some (lastOf ns)) with
  | none =>
    refine iteF ?_
    refine iteF ?_
    have := fin (by rw [e]; rfl)
    rw [e] at this
    exact this
  | some hh =>
    refine iteT ?_
    walk_at "s"
    refine v_neS ?_
    walk_at "s"
    by_cases eh : hh = n
    · rw [decide_eq_true eh]
      refine iteF ?_
      have := fin (by rw [e]; simp [eh])
      rw [e] at this
      exact this
    · rw [decide_eq_false eh]
      refine iteT ?_
      walk_at "s"
      have : ((hostOf rs (some (lastOf ns))).isSome && decide (hostOf rs (some (lastOf ns)) ≠ some n)) = true := by rw [e]; simp [eh]
      rw [this, if_pos rfl] at q
      exact q
@[reducible] def T_near_fault_0 (K : PySem.W.Frag) : TS :=
 (tRet (tIf (tB (tCall (sp_share_a_name K) [] E0 (tCons (tVar 4) (tCons (tOp (rIxA K) (tVar 3) (tC (.int 4))) tNil)))) (tC (.str ("barred" : Str))) (tC .non)))
@[reducible] def T_near_fault_1 (K : PySem.W.Frag) : TS :=
 (tSeq (tIfS (tB (tCall (sp_share_a_name K) [] E0 (tCons (tVar 4) (tCons (tOp (rIxA K) (tVar 3) (tC (.int 3))) tNil))))
 (tRet (tC (.str ("shut" : Str)))) tNext)
 (T_near_fault_0 K))
@[reducible] def T_near_fault_2 (K : PySem.W.Frag) : TS :=
 (tSeq (tAsg (tCall (sp_near_of K) [] E0 (tCons (tVar 0) (tCons (tVar 1) tNil))) (gName 4))
 (T_near_fault_1 K))
def sp_near_fault (K : PySem.W.Frag) : Sp := fun vs H Q _ => ∃ (v : V) (rs : List Row) (a : Addr) (ns : List Str) (n : Str) (r : Row), vs = [v, .ref a, .str n] ∧ Rws K H v rs ∧ SqT K H a (strV ns) ∧ ns.length ≤ 1000 ∧ rowOf rs (some n) = some r ∧ ∀ H', Same H H' → Q (oV (nearF rs ns n)) H'
theorem len_near_fault (K : PySem.W.Frag) : ∀ vs H Q E, sp_near_fault K vs H Q E → vs.length = ["book", "names", "name"].length := by rintro vs H Q E ⟨v, rs, a, ns, n, r, rfl, _⟩; rfl
def R_near_fault (K : PySem.W.Frag) : TS :=
 (tSeq (tAsg (tCall (sp_row_of K) [] E0 (tCons (tVar 0) (tCons (tVar 2) tNil))) (gName 3))
 (T_near_fault_2 K))
theorem rd_near_fault (h : sp_near_fault K vs H Q E) : R_near_fault K { nx := fun _ H' => Q .non H', rt := Q } (start ["book", "names", "name", "row", "near"] vs) H := by
  obtain ⟨v, rs, a, ns, n, r, rfl, hR, ha, hl, er, q⟩ := h
  show R_near_fault K _ [some v, some (.ref a), some (.str n), none, none] H
  unfold R_near_fault
  unfold nearF at q
  rw [er] at q
  dsimp only at q
  walk_at "s"
  refine ⟨v, some n, rs, rfl, hR, (fun e => by rw [er] at e; cases e), fun r' u er' du => ?_⟩
  rw [er] at er'
  injection er' with er'
  subst er'
  walk_at "s"
  refine ⟨v, a, ns, rs, rfl, hR, ha, hl, fun p H1 s1 hp => ?_⟩
  walk_at "s"
  obtain ⟨b, sv, bv, rfl, hb, hs, hbv⟩ := row_parts du
  obtain ⟨sb, rfl, hsb⟩ := tup_str hs
  obtain ⟨bb, rfl, hbb⟩ := tup_str hbv
  have hnl := near_len rs ns.length ns rfl
  refine v_ixT (s1.sqT hb) (v := .ref sb) rfl ?_
  walk_at "s"
  refine ⟨p, sb, near rs ns, r.shuts, rfl, hp, s1.sqT hsb, by omega, fun H2 s2 => ?_⟩
  walk_at "s"
  have s12 := Same.tr s1 s2
  cases e1 : (near rs ns).any fun y => decide (y ∈ r.shuts) with
  | true =>
    refine iteT ?_
    walk_at "s"
    have := q H2 s12
    rw [e1, if_pos rfl] at this
    exact this
  | false =>
    refine iteF ?_
    walk_at "s"
    refine v_ixT (s12.sqT hb) (v := .ref bb) rfl ?_
    walk_at "s"
    refine ⟨p, bb, near rs ns, r.bars, rfl, s2.sqT hp, s12.sqT hbb, by omega, fun H3 s3 => ?_⟩
    walk_at "s"
    have := q H3 (Same.tr s12 s3)
    rw [e1, if_neg Bool.false_ne_true] at this
    cases e2 : (near rs ns).any fun y => decide (y ∈ r.bars) with
    | true => rw [e2, if_pos rfl] at this; exact this
    | false => rw [e2, if_neg Bool.false_ne_true] at this; exact this
theorem frameF_is (rs : List Row) (ns : List Str) (n : Str) : frameF rs ns n = none ∨ frameF rs ns n = some "guest" ∨ frameF rs ns n = some "lost" := by
  unfold frameF
  split
  · exact .inr (.inl rfl)
  · split
    · exact .inr (.inr rfl)
    · exact .inl rfl
@[reducible] def T_tree_fault_0 (K : PySem.W.Frag) : TS :=
 (tRet (tOrT K (tCall (sp_frame_fault K) [] E0 (tCons (tVar 0) (tCons (tVar 1) (tCons (tCall (sp_name_of K) [] E0 (tCons (tVar 2) tNil)) tNil)))) (tCall (sp_near_fault K) [] E0 (tCons (tVar 0) (tCons (tVar 1) (tCons (tCall (sp_name_of K) [] E0 (tCons (tVar 2) tNil)) tNil))))))
def treeT (K : PySem.W.Frag) : TS :=
 (tSeq (tIfS (tTest (tOp rGtA (tCB (rLenA K) (tCons (tVar 1) tNil)) (tC (.int 19))))
 (tRet (tC (.str ("deep" : Str)))) tNext)
 (T_tree_fault_0 K))
@[reducible] def T_tree_fault_2 (K : PySem.W.Frag) : TS :=
 (tSeq (tIfS (tAnd (tTest (tOp (rEqA K) (tVar 3) (tC (.str ("bare" : Str))))) (tTest (tOp rGtA (tCB (rLenA K) (tCons (tCall (sp_parts_of K) [] E0 (tCons (tVar 2) tNil)) tNil)) (tC (.int 0)))))
 (tRet (tC (.str ("full" : Str)))) tNext)
 (treeT K))
@[reducible] def T_tree_fault_3 (K : PySem.W.Frag) : TS :=
 (tSeq (tIfS (tTest (tOp rIsA (tVar 3) (tC .non)))
 (tRet (tC (.str ("strange" : Str)))) tNext)
 (T_tree_fault_2 K))
def sp_tree_fault (K : PySem.W.Frag) : Sp := fun vs H Q _ => ∃ (v : V) (rs : List Row) (a : Addr) (ns : List Str) (n : Str) (ps : List Tr) (x : V), vs = [v, .ref a, x] ∧ Rws K H v rs ∧ SqT K H a (strV ns) ∧ ns.length ≤ 1000 ∧ Dv K H (Tr.nd n ps).da x ∧ ∀ H', Same H H' → Q (oV (treeF rs ns n ps.length)) H'
theorem len_tree_fault (K : PySem.W.Frag) : ∀ vs H Q E, sp_tree_fault K vs H Q E → vs.length = ["book", "names", "tree"].length := by rintro vs H Q E ⟨v, rs, a, ns, n, ps, x, rfl, _⟩; rfl
def R_tree_fault (K : PySem.W.Frag) : TS :=
 (tSeq (tAsg (tCall (sp_sort_of K) [] E0 (tCons (tVar 0) (tCons (tCall (sp_name_of K) [] E0 (tCons (tVar 2) tNil)) tNil))) (gName 3))
 (T_tree_fault_3 K))
theorem rd_tree_fault (h : sp_tree_fault K vs H Q E) : R_tree_fault K { nx := fun _ H' => Q .non H', rt := Q } (start ["book", "names", "tree", "sort"] vs) H := by
  obtain ⟨v, rs, a, ns, n, ps, x, rfl, hR, ha, hl, dx, q⟩ := h
  show R_tree_fault K _ [some v, some (.ref a), some x, none] H
  unfold R_tree_fault
  unfold treeF at q
  walk_at "s"
  refine ⟨n, ps, x, rfl, dx, ?_⟩
  walk_at "s"
  refine ⟨v, some n, rs, rfl, hR, ?_⟩
  walk_at "s"
  rw [oV_non]
  cases e : sortOf rs (some n) with
  | none =>
    rw [e] at q
    refine iteT ?_
    walk_at "s"
    exact q H (fun _ _ e => e)
  | some s =>
    rw [e] at q
    dsimp only at q
    refine iteF ?_
    walk_at "s"
    obtain ⟨r, er⟩ : ∃ r, rowOf rs (some n) = some r := by
      unfold sortOf at e
      obtain ⟨r, er, _⟩ := Option.map_eq_some_iff.mp e
      exact ⟨r, er⟩
    have fin : ∀ H1, Same H H1 → ¬ (s = ("bare" : Str) ∧ 0 < ps.length) → treeT K { nx := fun _ H' => Q .non H', rt := Q } [some v, some (.ref a), some x, some (.str s)] H1 := by
      intro H1 s1 hb
      rw [if_neg hb] at q
      unfold treeT
      walk_at "s"
      refine v_lenQ (.inr (s1.sqT ha)) ?_
      rw [strV_len]
      walk_at "s"
      by_cases hd : 19 < ns.length
      · rw [decide_eq_true (by omega)]
        refine iteT ?_
        walk_at "s"
        rw [if_pos hd] at q
        exact q H1 s1
      · rw [decide_eq_false (by omega)]
        refine iteF ?_
        rw [if_neg hd] at q
        walk_at "s"
        refine ⟨n, ps, x, rfl, Dv.same s1 _ _ dx, ?_⟩
        walk_at "s"
        refine ⟨v, rs, a, ns, n, rfl, hR.same s1, s1.sqT ha, ?_⟩
        rcases frameF_is rs ns n with ef | ef | ef
        · rw [ef] at q ⊢
          refine ⟨false, rfl, ?_⟩
          refine iteF ?_
          walk_at "s"
          refine ⟨n, ps, x, rfl, Dv.same s1 _ _ dx, ?_⟩
          walk_at "s"
          exact ⟨v, rs, a, ns, n, r, rfl, hR.same s1, s1.sqT ha, hl, er, fun H2 s2 => q H2 (Same.tr s1 s2)⟩
        · rw [ef] at q ⊢
          refine ⟨true, ⟨sl64 (by decide), by decide⟩, ?_⟩
          refine iteT ?_
          exact q H1 s1
        · rw [ef] at q ⊢
          refine ⟨true, ⟨sl64 (by decide), by decide⟩, ?_⟩
          refine iteT ?_
          exact q H1 s1
    refine v_eqS ?_
    walk_at "s"
    by_cases hb : s = ("bare" : Str)
    · rw [decide_eq_true hb]
      refine iteT ?_
      walk_at "s"
      refine ⟨.nd n ps, x, rfl, dx, fun c us H1 s1 hc dc => ?_⟩
      walk_at "s"
      refine v_lenQ (.inr hc) ?_
      have hul : us.length = ps.length := das_len dc
      rw [hul]
      walk_at "s"
      by_cases hz : 0 < ps.length
      · rw [decide_eq_true (by omega)]
        refine iteT ?_
        walk_at "s"
        rw [if_pos ⟨hb, hz⟩] at q
        exact q H1 s1
      · rw [decide_eq_false (by omega)]
        refine iteF ?_
        exact fin H1 s1 fun h => hz h.2
    · rw [decide_eq_false hb]
      refine iteF ?_
      refine iteF ?_
      exact fin H (fun _ _ e => e) fun h => hb h.1
end My
namespace My
open PySem L2
variable {K : PySem.W.Frag} {vs : List V} {H : Hp} {Q : VK} {E : XK}
theorem way_snoc : ∀ {q : List Int} {t : Tr} {ws : List Tr} {p u : Tr} {k : Nat}, way t q = some (ws ++ [p]) → p.kids[k]? = some u → way t (q ++ [(k : Int)]) = some (ws ++ [p] ++ [u])
  | [], t, ws, p, u, k, h, e => by
    rw [way] at h
    injection h with h
    have hw : ws = [] := by
      cases ws with
      | nil => rfl
      | cons a l => have := congrArg List.length h; simp at this
    subst hw
    injection h with h _
    subst h
    exact way_mk e (by rw [way]; rfl)
  | j :: q, t, ws, p, u, k, h, e => by
    obtain ⟨h0, v, ws', h1, h2, h3⟩ := way_cons h
    cases ws with
    | nil =>
      injection h3 with _ h3
      subst h3
      have := way_len h2
      cases this
    | cons a l =>
      injection h3 with ha h3
      subst h3
      have := way_snoc h2 e
      rw [List.cons_append, way, if_pos h0, h1]
      show (way v (q ++ [(k : Int)])).map (t :: ·) = _
      rw [this, ha]; rfl
theorem kid_nd {p u : Tr} {k : Nat} (e : p.kids[k]? = some u) : p.isTx = false := by
  cases p with
  | tx s => cases e
  | nd n ps => rfl
theorem way_nd : ∀ {q : List Int} {t : Tr} {ws : List Tr} {p : Tr}, way t q = some (ws ++ [p]) → p.isTx = false → ∀ w ∈ ws ++ [p], w.isTx = false
  | [], t, ws, p, h, hp => by
    rw [way] at h
    injection h with h
    rw [← h]
    have hl := congrArg List.length h
    have hw : ws = [] := by
      cases ws with
      | nil => rfl
      | cons a l => simp at hl
    subst hw
    injection h with h _
    intro w hw
    rw [List.mem_singleton.mp hw, h]; exact hp
  | j :: q, t, ws, p, h, hp => by
    obtain ⟨h0, v, ws', h1, h2, h3⟩ := way_cons h
    cases ws with
    | nil =>
      injection h3 with _ h3
      subst h3
      have := way_len h2
      cases this
    | cons a l =>
      injection h3 with ha h3
      subst h3
      intro w hw
      rcases List.mem_cons.mp hw with rfl | hw
      · rw [ha]; exact kid_nd h1
      · exact way_nd h2 hp w hw
theorem way_head {q : List Int} {t : Tr} {ws : List Tr} (h : way t q = some ws) : ws = t :: ws.drop 1 := by
  have := way_zero h
  cases ws with
  | nil => simp at this
  | cons a l => cases this; rfl
noncomputable def bsd (p : Tr) (k : Nat) : Bool := decide (0 < k) && ((p.kids[k - 1]?).map Tr.isTx).getD false
theorem cut_last (xs : List V) (z : V) : cutV (xs ++ [z]) none (some (-1)) = xs := by
  unfold cutV
  have e2 : HT.sIx (xs ++ [z]).length (xs ++ [z]).length (some (-1)) = xs.length := by
    unfold HT.sIx; simp; omega
  show ((xs ++ [z]).drop 0).take (HT.sIx (xs ++ [z]).length (xs ++ [z]).length (some (-1)) - 0) = xs
  rw [e2]; simp
theorem intV_snoc (q : List Int) (k : Int) : intV (q ++ [k]) = intV q ++ [.int k] := by simp [intV]
@[reducible] def T_follows_text_0 (K : PySem.W.Frag) : TS :=
 (tRet (tAndV (tOp rGtA (tVar 2) (tC (.int 0))) (tCall (sp_is_text K) [] E0 (tCons (tCall (sp_part_at K) [] E0 (tCons (tVar 0) (tCons (tOp (rAddB K) (tSl (rSlB K) (tVar 1) tNoPart (tPart (tUn (rU fun i => .int (-i)) (tC (.int 1))))) (tTup (tCons (tOp (rI0 fun i j => .int (i - j)) (tVar 2) (tC (.int 1))) tNil))) tNil))) tNil))))
def sp_follows_text (K : PySem.W.Frag) : Sp := fun vs H Q _ => ∃ (t p u : Tr) (v : V) (a : Addr) (q : List Int) (k : Nat) (ws : List Tr), vs = [v, .ref a] ∧ Dv K H t.da v ∧ SqT K H a (intV (q ++ [(k : Int)])) ∧ way t q = some (ws ++ [p]) ∧ p.kids[k]? = some u ∧ q.length ≤ 40000 ∧ ∀ H', Same H H' → Q (.bl (bsd p k)) H'
theorem len_follows_text (K : PySem.W.Frag) : ∀ vs H Q E, sp_follows_text K vs H Q E → vs.length = ["tree", "place"].length := by rintro vs H Q E ⟨t, p, u, v, a, q, k, ws, rfl, _⟩; rfl
def R_follows_text (K : PySem.W.Frag) : TS :=
 (tSeq (tAsg (tOp (rIxA K) (tVar 1) (tUn (rU fun i => .int (-i)) (tC (.int 1)))) (gName 2))
 (T_follows_text_0 K))
theorem rd_follows_text (h : sp_follows_text K vs H Q E) : R_follows_text K { nx := fun _ H' => Q .non H', rt := Q } (start ["tree", "place", "number"] vs) H := by
  obtain ⟨t, p, u, v, a, q, k, ws, rfl, hd, ha, hw, hk, hl, qq⟩ := h
  show R_follows_text K _ [some v, some (.ref a), none] H
  unfold R_follows_text
  rw [intV_snoc] at ha
  walk_at "s"
  refine ⟨1, rfl, ?_⟩
  refine v_ixT ha (v := .int k) (atI_last (n := (intV q).length) (by simp) (by simp)) ?_
  walk_at "s"
  by_cases h0 : 0 < k
  · rw [decide_eq_true (by omega)]
    refine iteT ?_
    walk_at "s"
    refine ⟨1, rfl, ?_⟩
    walk_at "s"
    refine v_slT ha fun p1 H1 s1 hp1 => ?_
    rw [cut_last] at hp1
    walk_at "s"
    refine ⟨sl64 (by walk_at "z"), fun c hc => ?_⟩
    refine v_catT ((Same.new hc _ : Same H1 _).sqT hp1) (SqT.of upd_same) (by rw [intV_len]; exact sl64 (by simp; omega)) fun p2 H2 s2 hp2 => ?_
    walk_at "s"
    have s3 : Same H H2 := Same.tr s1 (Same.tr (Same.new hc _) s2)
    obtain ⟨j, rfl⟩ : ∃ j, k = j + 1 := ⟨k - 1, by omega⟩
    have hj : j < p.kids.length := by have := (List.getElem?_eq_some_iff.mp hk).1; omega
    have hkj := List.getElem?_eq_getElem hj
    refine ⟨t, p.kids[j], v, p2, q ++ [(j : Int)], ws ++ [p], rfl, Dv.same s3 _ _ hd, ?_, way_snoc hw hkj, by simp; omega, fun x H3 s4 dx => ?_⟩
    · rw [intV_snoc]
      have e : ((j + 1 : Nat) : Int) - 1 = (j : Int) := by omega
      rw [e] at hp2
      exact hp2
    walk_at "s"
    refine ⟨_, x, rfl, dx, ?_⟩
    have := qq H3 (Same.tr s3 s4)
    unfold bsd at this
    rw [decide_eq_true h0, Nat.add_sub_cancel, hkj] at this
    exact this
  · rw [decide_eq_false (by omega)]
    refine iteF ?_
    have := qq H (fun _ _ e => e)
    unfold bsd at this
    rw [decide_eq_false h0] at this
    exact this
@[reducible] def T_fault_at_0 (K : PySem.W.Frag) : TS :=
 (tRet (tCall (sp_text_fault K) [] E0 (tCons (tVar 0) (tCons (tVar 4) (tCons (tVar 3) (tCons (tCall (sp_follows_text K) [] E0 (tCons (tVar 1) (tCons (tVar 2) tNil))) tNil))))))
@[reducible] def T_fault_at_1 (K : PySem.W.Frag) : TS :=
 (tSeq (tIfS (tB (tCall (sp_is_text K) [] E0 (tCons (tVar 3) tNil)))
 (T_fault_at_0 K) tNext)
 (tRet (tCall (sp_tree_fault K) [] E0 (tCons (tVar 0) (tCons (tVar 4) (tCons (tVar 3) tNil))))))
@[reducible] def T_fault_at_2 (K : PySem.W.Frag) : TS :=
 (tSeq (tAsg (tCall (sp_names_above K) [] E0 (tCons (tVar 1) (tCons (tVar 2) tNil))) (gName 4))
 (T_fault_at_1 K))
def sp_fault_at (K : PySem.W.Frag) : Sp := fun vs H Q _ => ∃ (t p u : Tr) (bv v : V) (rs : List Row) (a : Addr) (q : List Int) (k : Nat) (ws : List Tr), vs = [bv, v, .ref a] ∧ Rws K H bv rs ∧ Dv K H t.da v ∧ SqT K H a (intV (q ++ [(k : Int)])) ∧ way t q = some (ws ++ [p]) ∧ p.kids[k]? = some u ∧ q.length ≤ 900 ∧ ∀ H', Same H H' → Q (oV (faultF rs (((ws ++ [p]).drop 1).map nmOf) u (bsd p k))) H'
theorem len_fault_at (K : PySem.W.Frag) : ∀ vs H Q E, sp_fault_at K vs H Q E → vs.length = ["book", "tree", "place"].length := by rintro vs H Q E ⟨t, p, u, bv, v, rs, a, q, k, ws, rfl, _⟩; rfl
def R_fault_at (K : PySem.W.Frag) : TS :=
 (tSeq (tAsg (tCall (sp_part_at K) [] E0 (tCons (tVar 1) (tCons (tVar 2) tNil))) (gName 3))
 (T_fault_at_2 K))
theorem rd_fault_at (h : sp_fault_at K vs H Q E) : R_fault_at K { nx := fun _ H' => Q .non H', rt := Q } (start ["book", "tree", "place", "part", "names"] vs) H := by
  obtain ⟨t, p, u, bv, v, rs, a, q, k, ws, rfl, hR, hd, ha, hw, hk, hl, qq⟩ := h
  show R_fault_at K _ [some bv, some v, some (.ref a), none, none] H
  unfold R_fault_at
  have hw2 := way_snoc hw hk
  have hwl := way_len hw
  walk_at "s"
  refine ⟨t, u, v, a, _, ws ++ [p], rfl, hd, ha, hw2, by simp; omega, fun x H1 s1 dx => ?_⟩
  walk_at "s"
  have hh := way_head hw
  have hnd := way_nd hw (kid_nd hk)
  refine ⟨t, u, v, a, q ++ [(k : Int)], (ws ++ [p]).drop 1, rfl, Dv.same s1 _ _ hd, s1.sqT ha, ?_, fun w hw' => hnd w (List.mem_of_mem_drop hw'), by simp; omega, fun c H2 s2 hc => ?_⟩
  · rw [hw2]
    conv => lhs; rw [hh]
    rfl
  walk_at "s"
  have s12 := Same.tr s1 s2
  have hnl : (((ws ++ [p]).drop 1).map nmOf).length ≤ 1000 := by rw [List.length_map, List.length_drop]; omega
  refine ⟨u, x, rfl, Dv.same s2 _ _ dx, ?_⟩
  walk_at "s"
  cases u with
  | tx s =>
    refine iteT ?_
    walk_at "s"
    rw [tr_tx dx]
    refine ⟨t, p, .tx s, v, a, q, k, ws, rfl, Dv.same s12 _ _ hd, s12.sqT ha, hw, hk, by omega, fun H3 s3 => ?_⟩
    walk_at "s"
    exact ⟨bv, rs, c, _, s, _, rfl, hR.same (Same.tr s12 s3), SqT.of (s3 _ _ hc), qq H3 (Same.tr s12 s3)⟩
  | nd n ps =>
    refine iteF ?_
    walk_at "s"
    exact ⟨bv, rs, c, _, n, ps, x, rfl, hR.same s12, SqT.of hc, hnl, Dv.same s2 _ _ dx, fun H3 s3 => qq H3 (Same.tr s12 s3)⟩
mutual
noncomputable def ffk (rs : List Row) (pl : List Int) (ns : List Str) : Tr → List (List Int × Option Str)
  | .tx _ => []
  | .nd _ ps => ffs rs pl ns 0 false ps
noncomputable def ffs (rs : List Row) (pl : List Int) (ns : List Str) (k : Nat) (bs : Bool) : List Tr → List (List Int × Option Str)
  | [] => []
  | u :: us => (pl ++ [(k : Int)], faultF rs ns u bs) :: (ffk rs (pl ++ [(k : Int)]) (ns ++ [nmOf u]) u ++ ffs rs pl ns (k + 1) u.isTx us)
end
mutual
theorem ffk_pre (rs : List Row) (pl : List Int) (ns : List Str) : ∀ t : Tr, (pre pl t).map (·.1) = pl :: (ffk rs pl ns t).map (·.1)
  | .tx s => by rw [pre, ffk]; rfl
  | .nd n ps => by rw [pre, ffk, List.map_cons, ffs_pre rs pl ns 0 false ps]
theorem ffs_pre (rs : List Row) (pl : List Int) (ns : List Str) (k : Nat) (bs : Bool) : ∀ ts : List Tr, (pres pl k ts).map (·.1) = (ffs rs pl ns k bs ts).map (·.1)
  | [] => by rw [pres, ffs]; rfl
  | u :: us => by
    rw [pres, ffs, List.map_append, ffk_pre rs _ (ns ++ [nmOf u]) u, ffs_pre rs pl ns (k + 1) u.isTx us, List.map_cons, List.map_append]; rfl
end
def Row1 (rs : List Row) (t : Tr) (x : List Int × Option Str) : Prop := ∃ (q : List Int) (k : Nat) (ws : List Tr) (p u : Tr), x.1 = q ++ [(k : Int)] ∧ way t q = some (ws ++ [p]) ∧ p.kids[k]? = some u ∧ x.2 = faultF rs (((ws ++ [p]).drop 1).map nmOf) u (bsd p k)
mutual
theorem ffk_rows (rs : List Row) (t : Tr) (q : List Int) (ns : List Str) (ws : List Tr) : ∀ p : Tr, way t q = some (ws ++ [p]) → ns = ((ws ++ [p]).drop 1).map nmOf → ∀ x ∈ ffk rs q ns p, Row1 rs t x
  | .tx s, _, _, x, hx => by rw [ffk] at hx; cases hx
  | .nd n ps, hw, hn, x, hx => by
    rw [ffk] at hx
    exact ffs_rows rs t q ns ws (.nd n ps) hw hn [] ps rfl rfl 0 false rfl rfl x hx
theorem ffs_rows (rs : List Row) (t : Tr) (q : List Int) (ns : List Str) (ws : List Tr) (p : Tr) (hw : way t q = some (ws ++ [p])) (hn : ns = ((ws ++ [p]).drop 1).map nmOf) :
    ∀ (done ts : List Tr), p.kids = done ++ ts → True = True → ∀ (k : Nat) (bs : Bool), k = done.length → bs = (match done.getLast? with | some w => w.isTx | none => false) → ∀ x ∈ ffs rs q ns k bs ts, Row1 rs t x
  | done, [], _, _, k, bs, _, _, x, hx => by rw [ffs] at hx; cases hx
  | done, u :: us, hk, _, k, bs, hl, hb, x, hx => by
    have ek : p.kids[k]? = some u := by rw [hk, hl]; simp
    rw [ffs, List.mem_cons, List.mem_append] at hx
    rcases hx with rfl | hx | hx
    · refine ⟨q, k, ws, p, u, rfl, hw, ek, ?_⟩
      show faultF rs ns u bs = _
      rw [hn]
      congr 1
      unfold bsd
      rw [hb]
      cases k with
      | zero =>
        have : done = [] := List.length_eq_zero_iff.mp hl.symm
        subst this; rfl
      | succ j =>
        have hj : j < done.length := by omega
        rw [decide_eq_true (by omega), Nat.add_sub_cancel, hk, List.getElem?_append_left hj, List.getLast?_eq_getElem?, ← hl, Nat.add_sub_cancel, List.getElem?_eq_getElem hj]
        rfl
    · have hw2 := way_snoc hw ek
      refine ffk_rows rs t _ _ (ws ++ [p]) u hw2 ?_ x hx
      rw [hn, show ((ws ++ [p]) ++ [u]).drop 1 = (ws ++ [p]).drop 1 ++ [u] from List.drop_append_of_le_length (by simp), List.map_append]; rfl
    · exact ffs_rows rs t q ns ws p hw hn (done ++ [u]) us (by rw [hk]; simp) rfl (k + 1) u.isTx (by simp [hl]) (by simp) x hx
end
theorem ffk_root (rs : List Row) (t : Tr) : ∀ x ∈ ffk rs [] [] t, Row1 rs t x := ffk_rows rs t [] [] [] t (by rw [way]; rfl) rfl
noncomputable def firstF (l : List (List Int × Option Str)) : Option (Str × List Int) := l.findSome? fun x => x.2.map fun r => (r, x.1)
def fltV (K : PySem.W.Frag) (H : Hp) (o : Option (Str × List Int)) (v : V) : Prop := match o with
  | none => v = .non
  | some (r, pl) => Dv K H (.tuple [.str r, .tuple (intD pl)]) v
theorem firstF_none {l : List (List Int × Option Str)} {i : Nat} {x : List Int × Option Str} {r : Str} (h : ∀ y ∈ l.take i, y.2 = none) (e : l[i]? = some x) (ex : x.2 = some r) : firstF l = some (r, x.1) := by
  induction l generalizing i with
  | nil => simp at e
  | cons a l ih =>
    unfold firstF
    rw [List.findSome?_cons]
    cases i with
    | zero =>
      have e : a = x := by simpa using e
      subst e
      rw [ex]; rfl
    | succ i =>
      rw [h a (by simp)]
      exact ih (i := i) (fun y hy => h y (by simp [hy])) (by simpa using e)
theorem firstF_all {l : List (List Int × Option Str)} (h : ∀ y ∈ l, y.2 = none) : firstF l = none := by
  unfold firstF
  rw [List.findSome?_eq_none_iff]
  intro x hx
  rw [h x hx]; rfl
theorem eqv_unit (ns : List Int) : PyData.eqv (.tuple (intD ns)) (.tuple []) = ns.isEmpty := by cases ns <;> rfl
@[reducible] def T_fault_of_0 (K : PySem.W.Frag) : TS :=
 (tIfS (tTest (tOp rIsNotA (tVar 3) (tC .non)))
 (tRet (tTup (tCons (tVar 3) (tCons (tVar 2) tNil)))) tNext)
@[reducible] def T_fault_of_1 (K : PySem.W.Frag) : TS :=
 (tSeq (tAsg (tIf (tTest (tOp (rEqA K) (tVar 2) (tTup tNil))) (tC .non) (tCall (sp_fault_at K) [] E0 (tCons (tVar 0) (tCons (tVar 1) (tCons (tVar 2) tNil))))) (gName 3))
 (T_fault_of_0 K))
def sp_fault_of (K : PySem.W.Frag) : Sp := fun vs H Q _ => ∃ (t : Tr) (bv v : V) (rs : List Row), vs = [bv, v] ∧ Rws K H bv rs ∧ Dv K H t.da v ∧ wt t ≤ 40000 ∧ (∀ p ∈ pre [] t, p.1.length ≤ 800) ∧ ∀ (x : V) (H' : Hp), Same H H' → fltV K H' (firstF (ffk rs [] [] t)) x → Q x H'
theorem len_fault_of (K : PySem.W.Frag) : ∀ vs H Q E, sp_fault_of K vs H Q E → vs.length = ["book", "tree"].length := by rintro vs H Q E ⟨t, bv, v, rs, rfl, _⟩; rfl
def R_fault_of (K : PySem.W.Frag) : TS :=
 (tSeq (tFor (iAny K (tCall (sp_places_in K) [] E0 (tCons (tVar 1) tNil))) (gName 2)
 (T_fault_of_1 K))
 (tRet (tC .non)))
theorem rd_fault_of (h : sp_fault_of K vs H Q E) : R_fault_of K { nx := fun _ H' => Q .non H', rt := Q } (start ["book", "tree", "place", "rule"] vs) H := by
  obtain ⟨t, bv, v, rs, rfl, hR, hd, hz, hpl, q⟩ := h
  show R_fault_of K _ [some bv, some v, none, none] H
  unfold R_fault_of
  walk_at "s"
  refine ⟨t, v, rfl, hd, hz, fun p us H1 s1 hp dv => ?_⟩
  have dv : Dvs K H1 (((pre [] t).map (·.1)).map fun pl => .tuple (intD pl)) us := by rw [List.map_map]; exact dv
  have hpl : ∀ pl ∈ (pre [] t).map (·.1), pl.length ≤ 800 := fun pl h => by obtain ⟨x, hx, rfl⟩ := List.mem_map.mp h; exact hpl x hx
  rw [ffk_pre rs [] []] at dv hpl
  have hul : us.length = (ffk rs [] [] t).length + 1 := by have := dv.length; simpa using this
  let Pv0 : Nat → St → Hp → Prop := fun i σ H' => ∃ (a2 a3 : Option V), σ = [some bv, some v, a2, a3] ∧ Same H1 H' ∧ ∀ y ∈ (ffk rs [] [] t).take (i - 1), y.2 = none
  refine any_forS (H0 := H1) (xs := us) (.inl (SqL.of hp)) (fun _ _ e => e) Pv0 ⟨_, _, rfl, fun _ _ e => e, by simp⟩ (fun i σ H' ⟨_, _, _, s, _⟩ => s) ?_ ?_
  · rintro i x σ H' hx ⟨a2, a3, rfl, s2, hnone⟩
    obtain ⟨d, h1, h2⟩ := dv.get' hx
    rw [List.getElem?_map] at h1
    obtain ⟨pl, hpl1, rfl⟩ := Option.map_eq_some_iff.mp h1
    obtain ⟨a, ks, rfl, ha, hks⟩ := dv_tuple.mp (Dv.same s2 _ _ h2)
    rw [dvs_intD] at hks
    subst hks
    walk_at "s"
    refine ⟨sl64 (by walk_at "z"), fun e he => ?_⟩
    have s3 : Same H1 (upd H' e (.tup [])) := Same.tr s2 (Same.new he _)
    have ha3 : SqT K (upd H' e (.tup [])) a (intV pl) := (Same.new he _ : Same H' _).sqT ha
    refine v_eqM (d := .tuple (intD pl)) (e := .tuple []) (dv_tuple.mpr ⟨a, _, rfl, ha3, dvs_intD.mpr rfl⟩) (dv_tuple.mpr ⟨e, [], rfl, SqT.of upd_same, dvs_nil⟩) ?_ ?_
    · exact Nat.le_trans (Nat.min_le_right _ _) (by decide)
    rw [eqv_unit]
    walk_at "s"
    cases i with
    | zero =>
      have : pl = [] := by simpa using hpl1.symm
      subst this
      refine iteT ?_
      walk_at "s"
      rw [decide_eq_true rfl]
      refine iteF ?_
      exact ⟨_, _, rfl, s3, hnone⟩
    | succ i =>
      rw [List.getElem?_cons_succ, List.getElem?_map] at hpl1
      obtain ⟨y, hy, rfl⟩ := Option.map_eq_some_iff.mp hpl1
      obtain ⟨qq, k, ws, pp, u, e1, e2, e3, e4⟩ := ffk_root rs t y (List.mem_of_getElem? hy)
      have hle := hpl y.1 (by simp; exact .inr ⟨_, List.mem_of_getElem? hy⟩)
      rw [e1] at ha3 hle ⊢
      rw [List.length_append] at hle
      have hemp : (qq ++ [(k : Int)]).isEmpty = false := by cases qq <;> rfl
      rw [hemp]
      refine iteF ?_
      walk_at "s"
      have s13 := Same.tr s1 s3
      refine ⟨t, pp, u, bv, v, rs, a, qq, k, ws, rfl, hR.same s13, Dv.same s13 _ _ hd, ha3, e2, e3, by omega, fun H4 s4 => ?_⟩
      walk_at "s"
      rw [← e4, oV_non]
      cases ef : y.2 with
      | none =>
        refine iteF ?_
        refine ⟨_, _, rfl, Same.tr s3 s4, ?_⟩
        intro z hz
        rw [Nat.add_sub_cancel, List.take_add_one, hy] at hz
        rcases List.mem_append.mp hz with h | h
        · exact hnone z (by rw [Nat.add_sub_cancel]; exact h)
        · have : z = y := by simpa using h
          rw [this]; exact ef
      | some r =>
        refine iteT ?_
        walk_at "s"
        refine ⟨sl64 (by walk_at "z"), fun c hc => ?_⟩
        rw [Nat.add_sub_cancel] at hnone
        refine q _ _ (Same.tr (Same.tr s13 s4) (Same.new hc _)) ?_
        rw [firstF_none hnone hy ef]
        show Dv K _ (.tuple [.str r, .tuple (intD y.1)]) (.ref c)
        refine dv_tuple.mpr ⟨c, _, rfl, SqT.of upd_same, dvs_cons (dv_str.mpr rfl) (dvs_cons (dv_tuple.mpr ⟨a, _, rfl, (Same.tr s4 (Same.new hc _)).sqT ha3, ?_⟩) dvs_nil)⟩
        rw [e1]; exact dvs_intD.mpr rfl
  · rintro σ H' ⟨a2, a3, rfl, s2, hnone⟩
    walk_at "s"
    rw [hul, Nat.add_sub_cancel, List.take_length] at hnone
    refine q _ _ (Same.tr s1 s2) ?_
    rw [firstF_all hnone]
    rfl
end My
namespace My
open PySem L2
variable {K : PySem.W.Frag} {vs : List V} {H : Hp} {Q : VK} {E : XK}
noncomputable def row0 : Row := ⟨"", "", "", [], []⟩
noncomputable def rowL (rs : List Row) (n : Str) : Row := (rowOf rs (some n)).getD row0
structure BkS (rs : List Row) : Prop where
  ne : ∀ r ∈ rs, r.name ≠ ("" : Str)
  so : ∀ r ∈ rs, r.sort ≠ ("" : Str)
  nf : ∀ r ∈ rs, r.sort ≠ ("frame" : Str) → r.host = ("" : Str)
  un : ∀ n : Str, n ≠ ("" : Str) → (rs.filter fun r => decide (r.host = n)).length ≤ 1
theorem wall_L (rs : List Row) (n : Str) : wall rs n = decide ((rowL rs n).sort ∈ [("room" : Str), ("frame" : Str)]) := by
  unfold wall rowL
  cases rowOf rs (some n) with
  | none => rfl
  | some r => rfl
theorem host_L (rs : List Row) (n : Str) : hostOf rs (some n) = if (rowL rs n).sort = ("frame" : Str) then some (rowL rs n).host else none := by
  unfold hostOf rowL
  cases rowOf rs (some n) with
  | none => rfl
  | some r => rfl
theorem sort_L {rs : List Row} (B : BkS rs) (n : Str) : sortOf rs (some n) = if (rowL rs n).sort = ("" : Str) then none else some (rowL rs n).sort := by
  unfold sortOf rowL
  cases e : rowOf rs (some n) with
  | none => rfl
  | some r =>
    have := B.so r (row_some e).1
    show some r.sort = if r.sort = ("" : Str) then none else some r.sort
    rw [if_neg this]
theorem find_head {p : Row → Bool} : ∀ l : List Row, l.find? p = (l.filter p).head?
  | [] => rfl
  | r :: l => by
    rw [List.find?_cons, List.filter_cons]
    cases e : p r with
    | true => rfl
    | false => exact find_head l
theorem frame_L {rs : List Row} (B : BkS rs) {n : Str} (hn : n ≠ ("" : Str)) : frameOf rs (some n) = ((rs.filter fun r => decide (r.host = n)).map (·.name)).head? := by
  unfold frameOf
  have e : (rs.filter fun r => decide (r.sort = ("frame" : Str)) && decide (some r.host = some n)) = rs.filter fun r => decide (r.host = n) := by
    apply List.filter_congr
    intro r hr
    by_cases h : r.host = n
    · have hs : r.sort = ("frame" : Str) := by
        by_cases hs : r.sort = ("frame" : Str)
        · exact hs
        · exact absurd (h.symm.trans (B.nf r hr hs)) hn
      simp [h, hs]
    · simp [h]
  rw [find_head, e, List.head?_map]
theorem row0_parts {p a b : Addr} (h : SqT K H p [.str ("" : Str), .str ("" : Str), .str ("" : Str), .ref a, .ref b]) (ha : SqT K H a []) (hb : SqT K H b []) : Dv K H row0.da (.ref p) := by
  unfold Row.da row0
  exact dv_tuple.mpr ⟨p, _, rfl, h, dvs_cons (dv_str.mpr rfl) (dvs_cons (dv_str.mpr rfl) (dvs_cons (dv_str.mpr rfl) (dvs_cons (dv_tuple.mpr ⟨a, [], rfl, ha, dvs_nil⟩) (dvs_cons (dv_tuple.mpr ⟨b, [], rfl, hb, dvs_nil⟩) dvs_nil))))⟩
@[reducible] def T__law_row_0 (K : PySem.W.Frag) : TS :=
 (tRet (tTup (tCons (tC (.str ("" : Str))) (tCons (tC (.str ("" : Str))) (tCons (tC (.str ("" : Str))) (tCons (tTup tNil) (tCons (tTup tNil) tNil)))))))
def sp__law_row (K : PySem.W.Frag) : Sp := fun vs H Q _ => ∃ v n rs, vs = [v, .str n] ∧ Rws K H v rs ∧ ∀ u H', Same H H' → Dv K H' (rowL rs n).da u → Q u H'
theorem len__law_row (K : PySem.W.Frag) : ∀ vs H Q E, sp__law_row K vs H Q E → vs.length = ["_law_book_here", "_law_name_here"].length := by rintro vs H Q E ⟨v, n, rs, rfl, _⟩; rfl
def R__law_row (K : PySem.W.Frag) : TS :=
 (tSeq (tFor (iAny K (tVar 0)) (gName 2)
 (tIfS (tTest (tOp (rEqA K) (tOp (rIxA K) (tVar 2) (tC (.int 0))) (tVar 1)))
 (tRet (tVar 2)) tNext))
 (T__law_row_0 K))
theorem rd__law_row (h : sp__law_row K vs H Q E) : R__law_row K { nx := fun _ H' => Q .non H', rt := Q } (start ["_law_book_here", "_law_name_here", "_law_row_here"] vs) H := by
  obtain ⟨v, n, rs, rfl, ⟨a, xs, rfl, hq, hd⟩, q⟩ := h
  show R__law_row K _ [some (.ref a), some (.str n), none] H
  have hlen : xs.length = rs.length := by have := hd.length; simpa using this
  unfold R__law_row
  walk_at "s"
  let Pv0 : Nat → St → Hp → Prop := fun i σ H' => H' = H ∧ (∃ w, σ = [some (.ref a), some (.str n), w]) ∧ ∀ r ∈ rs.take i, decide (some r.name = some n) = false
  refine any_forS (H0 := H) hq (fun _ _ e => e) Pv0 ⟨rfl, ⟨_, rfl⟩, by simp⟩ (fun i σ H' p => p.1 ▸ fun _ _ e => e) ?_ ?_
  · rintro i x σ H' hx ⟨rfl, ⟨w, rfl⟩, hn⟩
    obtain ⟨d, hd1, hd2⟩ := hd.get' hx
    rw [List.getElem?_map] at hd1
    obtain ⟨r, hr, rfl⟩ := Option.map_eq_some_iff.mp hd1
    obtain ⟨b, sv, bv, rfl, hb, hsv, hbv⟩ := row_parts hd2
    walk_at "s"
    refine v_ixT hb (v := .str r.name) (atI_nat (j := 0) rfl) ?_
    walk_at "s"
    by_cases e : r.name = n
    · rw [decide_eq_true e]; refine iteT ?_
      walk_at "s"
      have hf : rowOf rs (some n) = some r := find_none_snoc hr hn (by simp [e])
      refine q _ _ (fun _ _ e => e) ?_
      unfold rowL
      rw [hf]; exact hd2
    · rw [decide_eq_false e]; refine iteF ?_
      walk_at "s"
      exact ⟨rfl, ⟨_, rfl⟩, take_all hr hn (by simp [e])⟩
  · rintro σ H' ⟨rfl, ⟨w, rfl⟩, hn⟩
    walk_at "s"
    refine ⟨sl64 (by walk_at "z"), fun p1 hp1 => ?_⟩
    walk_at "s"
    refine ⟨sl64 (by walk_at "z"), fun p2 hp2 => ?_⟩
    walk_at "s"
    refine ⟨sl64 (by walk_at "z"), fun p3 hp3 => ?_⟩
    have s1 := Same.new hp1 (.tup [])
    have s2 := Same.new hp2 (.tup [])
    have s3 := Same.new hp3 (.tup [.str ("" : Str), .str ("" : Str), .str ("" : Str), .ref p1, .ref p2])
    refine q _ _ (Same.tr s1 (Same.tr s2 s3)) ?_
    have hf : rowOf rs (some n) = none := by
      unfold rowOf
      rw [List.find?_eq_none]
      intro r hr
      rw [hlen, List.take_length] at hn
      simpa using hn r hr
    unfold rowL
    rw [hf]
    exact row0_parts (SqT.of upd_same) (SqT.of (s3 _ _ (s2 _ _ upd_same))) (SqT.of (s3 _ _ upd_same))
@[reducible] def T__law_near_0 (K : PySem.W.Frag) : TS :=
 (tAsg (tCB (rListA K) (tCons (tSl (rSlB K) (tVar 1) (tPart (tOp (rAddB K) (tVar 3) (tC (.int 1)))) tNoPart) tNil)) (gName 2))
@[reducible] def T__law_near_1 (K : PySem.W.Frag) : TS :=
 (tIfS (tTest (tOp (rInB K false) (tOp (rIxA K) (tCall (sp__law_row K) [] E0 (tCons (tVar 0) (tCons (tOp (rIxA K) (tVar 1) (tVar 3)) tNil))) (tC (.int 1))) (tTup (tCons (tC (.str ("room" : Str))) (tCons (tC (.str ("frame" : Str))) tNil)))))
 (T__law_near_0 K) tNext)
@[reducible] def T__law_near_2 (K : PySem.W.Frag) : TS :=
 (tSeq (tFor (iRng1 (tCons (tCB (rLenA K) (tCons (tVar 1) tNil)) tNil)) (gName 3)
 (T__law_near_1 K))
 (tRet (tVar 2)))
def sp__law_near (K : PySem.W.Frag) : Sp := fun vs H Q _ => ∃ v a ys rs, vs = [v, .ref a] ∧ Rws K H v rs ∧ SqT K H a (strV ys) ∧ ys.length ≤ 1000 ∧ ∀ p H', Same H H' → H' p = some (.lst (strV (near rs ys))) → Q (.ref p) H'
theorem len__law_near (K : PySem.W.Frag) : ∀ vs H Q E, sp__law_near K vs H Q E → vs.length = ["_law_book_here", "_law_names"].length := by rintro vs H Q E ⟨v, a, ys, rs, rfl, _⟩; rfl
def R__law_near (K : PySem.W.Frag) : TS :=
 (tSeq (tAsg (tCB (rListA K) (tCons (tVar 1) tNil)) (gName 2))
 (T__law_near_2 K))
theorem rd__law_near (h : sp__law_near K vs H Q E) : R__law_near K { nx := fun _ H' => Q .non H', rt := Q } (start ["_law_book_here", "_law_names", "_law_near_here", "_law_k"] vs) H := by
  obtain ⟨v, a, ys, rs, rfl, hR, hq, hl, q⟩ := h
  show R__law_near K _ [some v, some (.ref a), none, none] H
  unfold R__law_near
  walk_at "s"
  refine ⟨a, _, rfl, .inr hq, fun nr hnr => ?_⟩
  have s0 : Same H (upd H nr (.lst (strV ys))) := Same.new hnr _
  have n0 : (upd H nr (.lst (strV ys))) nr = some (.lst (strV ys)) := upd_same
  generalize upd H nr (.lst (strV ys)) = H1 at *
  walk_at "s"
  refine v_lenQ (.inr (s0.sqT hq)) ?_
  rw [strV_len]
  walk_at "s"
  let Pv1 : Nat → St → Hp → Prop := fun i σ H' => Same H H' ∧ ∃ (st : Nat) (nr : Addr) (a3 : Option V), σ = [some v, some (.ref a), some (.ref nr), a3] ∧ st ≤ i ∧ H' nr = some (.lst (strV (ys.drop st))) ∧ near rs (ys.take i) = (ys.take i).drop st
  refine rng1_for (by omega) (by omega) Pv1 ⟨s0, 0, nr, none, rfl, Nat.le_refl _, n0, rfl⟩ ?_ ?_
  · rintro i σ H' hi ⟨s1, st, nr, a3, rfl, hst, hnr, hne⟩
    have hi : i < ys.length := by omega
    have hy : ys[i]? = some ys[i] := List.getElem?_eq_getElem hi
    have etk : ys.take (i + 1) = ys.take i ++ [ys[i]] := by rw [List.take_add_one, hy]; rfl
    walk_at "s"
    refine v_ixT (s1.sqT hq) (atI_nat (strV_at hi)) ?_
    walk_at "s"
    refine ⟨v, ys[i], rs, rfl, hR.same s1, fun u H2 s2 du => ?_⟩
    walk_at "s"
    obtain ⟨b, sv, bv, rfl, hb, _, _⟩ := row_parts du
    refine v_ixT hb (v := .str (rowL rs ys[i]).sort) (atI_nat (j := 1) rfl) ?_
    walk_at "s"
    refine ⟨sl64 (by walk_at "z"), fun t ht => ?_⟩
    have s3 : Same H (upd H2 t (.tup [.str ("room" : Str), .str ("frame" : Str)])) := Same.tr s1 (Same.tr s2 (Same.new ht _))
    have hnr3 := Same.new ht (.tup [.str ("room" : Str), .str ("frame" : Str)]) _ _ (s2 _ _ hnr)
    refine .inl (v_in (xs := strV [("room" : Str), ("frame" : Str)]) (.inr (SqT.of upd_same)) rfl (flat_strV _) ?_)
    rw [inV_strV, ← wall_L]
    generalize upd H2 t (.tup [.str ("room" : Str), .str ("frame" : Str)]) = H3 at *
    walk_at "s"
    cases hw : wall rs ys[i] with
    | true =>
      refine iteT ?_
      walk_at "s"
      refine .inl (v_addI ?_)
      walk_at "s"
      refine v_slT (s3.sqT hq) fun p H4 s4 hp => ?_
      have e : cutV (strV ys) (some ((i : Int) + 1)) none = strV (ys.drop (i + 1)) := by
        unfold cutV
        rw [show ((i : Int) + 1) = ((i + 1 : Nat) : Int) by omega, HT.sIx_nat]
        show ((strV ys).drop (min (i + 1) (strV ys).length)).take ((strV ys).length - min (i + 1) (strV ys).length) = _
        rw [strV_len, Nat.min_eq_left (by omega), List.take_of_length_le (by rw [List.length_drop, strV_len]; exact Nat.le_refl _)]
        unfold strV
        rw [List.map_drop]
      rw [e] at hp
      walk_at "s"
      refine ⟨p, _, rfl, .inr hp, fun r hr => ?_⟩
      walk_at "s"
      refine ⟨Same.tr s3 (Same.tr s4 (Same.new hr _)), i + 1, r, _, rfl, Nat.le_refl _, upd_same, ?_⟩
      rw [etk, near_snoc, if_pos hw, List.drop_eq_nil_of_le (by rw [List.length_append, List.length_take, List.length_singleton]; omega)]
    | false =>
      refine iteF ?_
      walk_at "s"
      refine ⟨s3, st, nr, _, rfl, by omega, hnr3, ?_⟩
      rw [etk, near_snoc, if_neg (by rw [hw]; exact Bool.false_ne_true), hne, List.drop_append_of_le_length (by rw [List.length_take]; omega)]
  · rintro σ H' ⟨s1, st, nr, a3, rfl, hst, hnr, hne⟩
    walk_at "s"
    refine q nr H' s1 ?_
    rw [show ((ys.length : Int)).toNat = ys.length by omega, List.take_length] at hne
    rw [hne]; exact hnr
@[reducible] def T__law_fault_3 (K : PySem.W.Frag) : TS :=
 (tSeq (tIfS (tTest (tOp (rNeA K) (tComp [some 10, none] (iAny K (tVar 12)) (gName 1) (tTest (tOp (rInB K false) (tVar 1) (tVar 0))) (tVar 1)) (tLst tNil)))
 (tRet (tC (.str ("barred" : Str)))) tNext)
 (tRet (tC .non)))
@[reducible] def T__law_fault_4 (K : PySem.W.Frag) : TS :=
 (tSeq (tIfS (tTest (tOp (rNeA K) (tComp [some 9, none] (iAny K (tVar 12)) (gName 1) (tTest (tOp (rInB K false) (tVar 1) (tVar 0))) (tVar 1)) (tLst tNil)))
 (tRet (tC (.str ("shut" : Str)))) tNext)
 (T__law_fault_3 K))
def fltN (K : PySem.W.Frag) : TS :=
 (tSeq (tAsg (tCall (sp__law_near K) [] E0 (tCons (tVar 0) (tCons (tVar 1) tNil))) (gName 12))
 (T__law_fault_4 K))
@[reducible] def T__law_fault_6 (K : PySem.W.Frag) : TS :=
 (tSeq (tIfS (tAnd (tTest (tOp (rNeA K) (tVar 11) (tLst tNil))) (tTest (tOp (rNeA K) (tVar 11) (tLst (tCons (tVar 4) tNil)))))
 (tRet (tC (.str ("lost" : Str)))) tNext)
 (fltN K))
def fltL (K : PySem.W.Frag) : TS :=
 (tSeq (tAsg (tComp [some 6, none] (iAny K (tVar 0)) (gName 1) (tTest (tOp (rEqA K) (tOp (rIxA K) (tVar 1) (tC (.int 2))) (tVar 0))) (tOp (rIxA K) (tVar 1) (tC (.int 0)))) (gName 11))
 (T__law_fault_6 K))
@[reducible] def T__law_fault_8 (K : PySem.W.Frag) : TS :=
 (tSeq (tIfS (tAnd (tTest (tOp (rEqA K) (tOp (rIxA K) (tVar 5) (tC (.int 1))) (tC (.str ("frame" : Str))))) (tTest (tOp (rNeA K) (tOp (rIxA K) (tVar 5) (tC (.int 2))) (tVar 6))))
 (tRet (tC (.str ("guest" : Str)))) tNext)
 (fltL K))
def fltD (K : PySem.W.Frag) : TS :=
 (tSeq (tIfS (tTest (tOp rGeA (tCB (rLenA K) (tCons (tVar 1) tNil)) (tC (.int 20))))
 (tRet (tC (.str ("deep" : Str)))) tNext)
 (T__law_fault_8 K))
@[reducible] def T__law_fault_10 (K : PySem.W.Frag) : TS :=
 (tSeq (tIfS (tAnd (tTest (tOp (rEqA K) (tVar 7) (tC (.str ("bare" : Str))))) (tTest (tOp rGtA (tCB (rLenA K) (tCons (tOp (rIxA K) (tVar 2) (tC (.int 1))) tNil)) (tC (.int 0)))))
 (tRet (tC (.str ("full" : Str)))) tNext)
 (fltD K))
@[reducible] def T__law_fault_11 (K : PySem.W.Frag) : TS :=
 (tSeq (tIfS (tTest (tOp (rEqA K) (tVar 7) (tC (.str ("" : Str)))))
 (tRet (tC (.str ("strange" : Str)))) tNext)
 (T__law_fault_10 K))
def fltT (K : PySem.W.Frag) : TS :=
 (tSeq (tAsg (tCall (sp__law_row K) [] E0 (tCons (tVar 0) (tCons (tOp (rIxA K) (tVar 2) (tC (.int 0))) tNil))) (gTup K 5 (gCons (gName 6) (gCons (gName 7) (gCons (gName 8) (gCons (gName 9) (gCons (gName 10) gNil)))))))
 (T__law_fault_11 K))
@[reducible] def T__law_fault_0 (K : PySem.W.Frag) : TS :=
 (tSeq (tIfS (tB (tCB (rIsi K) (tCons (tVar 3) (tCons (tC (.ty "str")) tNil))))
 (tRet (tC (.str ("beside" : Str)))) tNext)
 (tRet (tC .non)))
@[reducible] def T__law_fault_1 (K : PySem.W.Frag) : TS :=
 (tSeq (tIfS (tTest (tOp (rEqA K) (tVar 2) (tC (.str ("" : Str)))))
 (tRet (tC (.str ("empty" : Str)))) tNext)
 (T__law_fault_0 K))
@[reducible] def T__law_fault_2 (K : PySem.W.Frag) : TS :=
 (tSeq (tIfS (tTest (tOp (rEqA K) (tOp (rIxA K) (tVar 5) (tC (.int 1))) (tC (.str ("frame" : Str)))))
 (tRet (tC (.str ("guest" : Str)))) tNext)
 (T__law_fault_1 K))
@[reducible] def T__law_fault_13 (K : PySem.W.Frag) : TS :=
 (tSeq (tIfS (tB (tCB (rIsi K) (tCons (tVar 2) (tCons (tC (.ty "str")) tNil))))
 (T__law_fault_2 K) tNext)
 (fltT K))
def fltA (K : PySem.W.Frag) : TS :=
 (tSeq (tAsg (tCall (sp__law_row K) [] E0 (tCons (tVar 0) (tCons (tVar 4) tNil))) (gName 5))
 (T__law_fault_13 K))
theorem isE_sDa (xs : List Str) : (sDa xs).isEmpty = xs.isEmpty := by cases xs <;> rfl
theorem filt_any (p : Str → Bool) : ∀ xs : List Str, (!(xs.filter p).isEmpty) = xs.any p
  | [] => rfl
  | x :: xs => by
    rw [List.filter_cons, List.any_cons]
    cases p x with
    | true => rfl
    | false => rw [if_neg Bool.false_ne_true, filt_any p xs]; rfl
theorem eqv_strsT (xs : List Str) : PyData.eqv (.tuple (sDa xs)) (.tuple []) = xs.isEmpty := by cases xs <;> rfl
theorem comp_in {Q : VK} {sa p : Addr} {nr shuts : List Str} (hs : SqT K H sa (strV shuts)) (hp : H p = some (.lst (strV nr))) (hl : nr.length ≤ 1000) (q : ∀ H', Same H H' → Q (.bl (nr.any fun y => decide (y ∈ shuts))) H') :
    ∃ b, V.ref p = .ref b ∧ (((∃ xs, SqL K H b xs) ∧ CompW (gName 1) (tTest (tOp (rInB K false) (tVar 1) (tVar 0))) (tVar 1) [some (.ref sa), none] (fun x H1 => tLst tNil [] H1 fun y H2 => rNeA K x y H2 Q) (Itl K b) H) ∨ ((∃ xs, SqT K H b xs) ∧ CompW (gName 1) (tTest (tOp (rInB K false) (tVar 1) (tVar 0))) (tVar 1) [some (.ref sa), none] (fun x H1 => tLst tNil [] H1 fun y H2 => rNeA K x y H2 Q) (Itt K b) H)) := by
  let Pv2 : Nat → List V → Hp → Prop := fun i ys H' => H' = H ∧ ys = strV ((nr.take i).filter fun y => decide (y ∈ shuts))
  refine any_compL (xs := strV nr) (SqL.of hp) Pv2 ⟨rfl, rfl⟩ ?_ ?_ ?_ ?_
  · rintro i ys H' hi ⟨rfl, rfl⟩
    rw [strV_len]
    exact sl64 (Nat.le_trans (List.length_filter_le _ _) (by rw [List.length_take]; omega))
  · rintro i ys H' hi ⟨rfl, _⟩
    exact SqL.of hp
  · rintro i x ys H' hx ⟨rfl, rfl⟩
    obtain ⟨y, hy, rfl⟩ := strV_get hx
    walk_at "s"
    refine .inl (v_in (xs := strV shuts) (.inr hs) rfl (flat_strV _) ?_)
    rw [inV_strV]
    have etk : nr.take (i + 1) = nr.take i ++ [y] := by rw [List.take_add_one, hy]; rfl
    refine ⟨_, rfl, ?_⟩
    by_cases h : y ∈ shuts
    · rw [decide_eq_true h]; refine iteT ?_
      walk_at "s"
      refine ⟨rfl, ?_⟩
      rw [etk, List.filter_append, strV_app]
      simp [h]
    · rw [decide_eq_false h]; refine iteF ?_
      refine ⟨rfl, ?_⟩
      rw [etk, List.filter_append]
      simp [h]
  · rintro ys H' ⟨rfl, rfl⟩ r hr
    have e : nr.take (strV nr).length = nr := by rw [strV_len, List.take_length]
    rw [e]
    have s1 := Same.new hr (.lst (strV (nr.filter fun y => decide (y ∈ shuts))))
    walk_at "s"
    refine ⟨sl64 (by walk_at "z"), fun e he => ?_⟩
    have s2 := Same.new he (.lst [])
    refine v_neE (ds := sDa (nr.filter fun y => decide (y ∈ shuts))) (dv_list.mpr ⟨r, _, rfl, SqL.of (s2 _ _ upd_same), dvs_sDa.mpr rfl⟩) upd_same ?_
    rw [isE_sDa, filt_any]
    exact q _ (Same.tr s1 s2)
section
variable {D : Ends} {v pv av : V} {na sa ba : Addr} {rs : List Row} {ns : List Str} {a2 a3 a4 a5 a6 a7 a8 a11 a12 : Option V} {shuts bars : List Str}
theorem flt_N (hR : Rws K H v rs) (hna : SqT K H na (strV ns)) (hl : ns.length ≤ 1000) (hs : SqT K H sa (strV shuts)) (hb : SqT K H ba (strV bars))
    (q : ∀ H', Same H H' → D.rt (oV (if ((near rs ns).any fun y => decide (y ∈ shuts)) then some ("shut" : Str) else if ((near rs ns).any fun y => decide (y ∈ bars)) then some ("barred" : Str) else none)) H') :
    fltN K D [some v, some (.ref na), a2, a3, a4, a5, a6, a7, a8, some (.ref sa), some (.ref ba), a11, a12] H := by
  unfold fltN
  walk_at "s"
  refine ⟨v, na, ns, rs, rfl, hR, hna, hl, fun p H1 s1 hp => ?_⟩
  have hnl : (near rs ns).length ≤ 1000 := Nat.le_trans (near_len rs ns.length ns rfl) hl
  walk_at "s"
  refine comp_in (s1.sqT hs) hp hnl fun H2 s2 => ?_
  walk_at "s"
  cases e : (near rs ns).any fun y => decide (y ∈ shuts) with
  | true =>
    refine iteT ?_
    walk_at "s"
    rw [e] at q
    exact q H2 (Same.tr s1 s2)
  | false =>
    refine iteF ?_
    rw [e] at q
    walk_at "s"
    refine comp_in (s2.sqT (s1.sqT hb)) (s2 _ _ hp) hnl fun H3 s3 => ?_
    walk_at "s"
    have s13 := Same.tr s1 (Same.tr s2 s3)
    cases e2 : (near rs ns).any fun y => decide (y ∈ bars) with
    | true =>
      refine iteT ?_
      walk_at "s"
      rw [e2] at q
      exact q H3 s13
    | false =>
      refine iteF ?_
      rw [e2] at q
      walk_at "s"
      exact q H3 s13
theorem flt_L {n above : Str} (B : BkS rs) (hn : n ≠ ("" : Str)) (hR : Rws K H v rs) (hrl : rs.length ≤ 1000) (hna : SqT K H na (strV ns)) (hl : ns.length ≤ 1000) (hs : SqT K H sa (strV shuts)) (hb : SqT K H ba (strV bars))
    (q : ∀ H', Same H H' → D.rt (oV (if (frameOf rs (some n)).isSome && decide (frameOf rs (some n) ≠ some above) then some ("lost" : Str) else if ((near rs ns).any fun y => decide (y ∈ shuts)) then some ("shut" : Str) else if ((near rs ns).any fun y => decide (y ∈ bars)) then some ("barred" : Str) else none)) H') :
    fltL K D [some v, some (.ref na), a2, a3, some (.str above), a5, some (.str n), a7, a8, some (.ref sa), some (.ref ba), a11, a12] H := by
  unfold fltL
  walk_at "s"
  obtain ⟨ba', xs, rfl, hq, hd⟩ := id hR
  have hxl : xs.length = rs.length := by have := hd.length; simpa using this
  let Pv3 : Nat → List V → Hp → Prop := fun i ys H' => H' = H ∧ ys = strV (((rs.take i).filter fun r => decide (r.host = n)).map (·.name))
  refine any_compS (H0 := H) hq (fun _ _ e => e) Pv3 ⟨rfl, rfl⟩ ?_ (fun i ys H' p => p.1 ▸ fun _ _ e => e) ?_ ?_
  · rintro i ys H' hi ⟨rfl, rfl⟩
    rw [strV_len, List.length_map]
    exact sl64 (Nat.le_trans (List.length_filter_le _ _) (by rw [List.length_take]; omega))
  · rintro i x ys H' hx ⟨rfl, rfl⟩
    obtain ⟨d, hd1, hd2⟩ := hd.get' hx
    rw [List.getElem?_map] at hd1
    obtain ⟨r, hr, rfl⟩ := Option.map_eq_some_iff.mp hd1
    obtain ⟨b, sv, bv, rfl, hb', hsv, hbv⟩ := row_parts hd2
    have etk : rs.take (i + 1) = rs.take i ++ [r] := by rw [List.take_add_one, hr]; rfl
    walk_at "s"
    refine v_ixT hb' (v := .str r.host) (atI_nat (j := 2) rfl) ?_
    walk_at "s"
    by_cases h : r.host = n
    · rw [decide_eq_true h]; refine iteT ?_
      walk_at "s"
      refine v_ixT hb' (v := .str r.name) (atI_nat (j := 0) rfl) ?_
      refine ⟨rfl, ?_⟩
      rw [etk, List.filter_append, List.map_append, strV_app]
      simp [h]
    · rw [decide_eq_false h]; refine iteF ?_
      refine ⟨rfl, ?_⟩
      rw [etk, List.filter_append]
      simp [h]
  · rintro ys H' ⟨rfl, rfl⟩ r hr
    rw [hxl, List.take_length]
    have hf := frame_L B hn
    have hu := B.un n hn
    generalize hL : (rs.filter fun r => decide (r.host = n)).map (·.name) = L at *
    have hLl : L.length ≤ 1 := by rw [← hL, List.length_map]; exact hu
    have s1 := Same.new hr (.lst (strV L))
    walk_at "s"
    refine ⟨sl64 (by walk_at "z"), fun e he => ?_⟩
    have s2 := Same.new he (.lst [])
    have hrL := s2 _ _ (upd_same (H := H') (a := r) (o := .lst (strV L)))
    have he2 : (upd (upd H' r (.lst (strV L))) e (.lst [])) e = some (.lst []) := upd_same
    generalize upd (upd H' r (.lst (strV L))) e (.lst []) = H2 at *
    have s12 := Same.tr s1 s2
    refine v_neE (ds := sDa L) (dv_list.mpr ⟨r, _, rfl, SqL.of hrL, dvs_sDa.mpr rfl⟩) he2 ?_
    rw [isE_sDa]
    walk_at "s"
    match L, hLl, hf, hrL with
    | [], _, hf, hrL =>
      refine iteF ?_
      refine iteF ?_
      walk_at "s"
      refine flt_N (hR.same s12) (s12.sqT hna) hl (s12.sqT hs) (s12.sqT hb) fun H3 s3 => ?_
      have := q H3 (Same.tr s12 s3)
      rw [hf] at this
      exact this
    | [x], _, hf, hrL =>
      refine iteT ?_
      walk_at "s"
      refine ⟨sl64 (by walk_at "z"), fun e2 he2 => ?_⟩
      have s3 := Same.new he2 (.lst [.str above])
      refine v_neD (d := .list (sDa [x])) (e := .list (sDa [above])) (dv_list.mpr ⟨r, _, rfl, SqL.of (s3 _ _ hrL), dvs_sDa.mpr rfl⟩) (dv_list.mpr ⟨e2, _, rfl, SqL.of upd_same, dvs_sDa.mpr rfl⟩) (by simp [sDa, PyData.depth, PyData.depthAll]) ?_
      have ee : PyData.eqv (.list (sDa [x])) (.list (sDa [above])) = decide (x = above) := by
        by_cases hx : x = above
        · subst hx; simp [sDa, PyData.eqv, PyData.eqvAll]
        · simp [sDa, PyData.eqv, PyData.eqvAll, hx]
      rw [ee]
      have s13 := Same.tr s12 s3
      generalize upd H2 e2 (.lst [.str above]) = H3 at *
      walk_at "s"
      by_cases hx : x = above
      · rw [decide_eq_true hx]; refine iteF ?_
        walk_at "s"
        refine flt_N (hR.same s13) (s13.sqT hna) hl (s13.sqT hs) (s13.sqT hb) fun H4 s4 => ?_
        have := q H4 (Same.tr s13 s4)
        rw [hf, if_neg (by simp [hx])] at this
        exact this
      · rw [decide_eq_false hx]; refine iteT ?_
        walk_at "s"
        have := q H3 s13
        rw [hf, if_pos (by simp [hx])] at this
        exact this
    | _ :: _ :: _, h, _, _ => simp at h
end
theorem tree_L {rs : List Row} {n : Str} {r : Row} {ns : List Str} {m : Nat} (hr : rowOf rs (some n) = some r) : treeF rs ns n m = if r.sort = ("bare" : Str) ∧ 0 < m then some ("full" : Str) else if 19 < ns.length then some ("deep" : Str) else if (rowL rs (lastOf ns)).sort = ("frame" : Str) ∧ (rowL rs (lastOf ns)).host ≠ n then some ("guest" : Str)
    else if (frameOf rs (some n)).isSome && decide (frameOf rs (some n) ≠ some (lastOf ns)) then some ("lost" : Str) else if ((near rs ns).any fun y => decide (y ∈ r.shuts)) then some ("shut" : Str) else if ((near rs ns).any fun y => decide (y ∈ r.bars)) then some ("barred" : Str) else none := by
  unfold treeF
  rw [show sortOf rs (some n) = some r.sort by unfold sortOf; rw [hr]; rfl]
  show (if r.sort = ("bare" : Str) ∧ 0 < m then some ("full" : Str) else if 19 < ns.length then some ("deep" : Str) else match frameF rs ns n with | some f => some f | none => nearF rs ns n) = _
  have en : nearF rs ns n = if ((near rs ns).any fun y => decide (y ∈ r.shuts)) then some ("shut" : Str) else if ((near rs ns).any fun y => decide (y ∈ r.bars)) then some ("barred" : Str) else none := by
    unfold nearF; rw [hr]
  by_cases h1 : r.sort = ("bare" : Str) ∧ 0 < m
  · rw [if_pos h1, if_pos h1]
  · rw [if_neg h1, if_neg h1]
    by_cases h2 : 19 < ns.length
    · rw [if_pos h2, if_pos h2]
    · rw [if_neg h2, if_neg h2, en]
      unfold frameF
      rw [host_L]
      by_cases h3 : (rowL rs (lastOf ns)).sort = ("frame" : Str) ∧ (rowL rs (lastOf ns)).host ≠ n
      · rw [if_pos h3, if_pos (by rw [if_pos h3.1]; simp [h3.2])]
      · rw [if_neg h3]
        have h4 : ¬ ((if (rowL rs (lastOf ns)).sort = ("frame" : Str) then some (rowL rs (lastOf ns)).host else none).isSome && decide ((if (rowL rs (lastOf ns)).sort = ("frame" : Str) then some (rowL rs (lastOf ns)).host else none) ≠ some n)) = true := by
          by_cases h5 : (rowL rs (lastOf ns)).sort = ("frame" : Str)
          · rw [if_pos h5]
            have : (rowL rs (lastOf ns)).host = n := Classical.byContradiction fun z => h3 ⟨h5, z⟩
            simp [this]
          · rw [if_neg h5]; simp
        rw [if_neg h4]
        by_cases h6 : ((frameOf rs (some n)).isSome && decide (frameOf rs (some n) ≠ some (lastOf ns))) = true
        · rw [if_pos h6, if_pos h6]
        · rw [if_neg h6, if_neg h6]
section
variable {D : Ends} {v pv av fv : V} {na : Addr} {rs : List Row} {ns : List Str} {a3 a6 a7 a8 a9 a10 a11 a12 : Option V}
theorem flt_T {n : Str} {ps : List Tr} (B : BkS rs) (hR : Rws K H v rs) (hrl : rs.length ≤ 1000) (hna : SqT K H na (strV ns)) (hl : ns.length ≤ 1000) (hpv : Dv K H (Tr.nd n ps).da pv) (hfv : Dv K H (rowL rs (lastOf ns)).da fv)
    (q : ∀ H', Same H H' → D.rt (oV (treeF rs ns n ps.length)) H') : fltT K D [some v, some (.ref na), some pv, a3, some (.str (lastOf ns)), some fv, a6, a7, a8, a9, a10, a11, a12] H := by
  unfold fltT
  obtain ⟨pa, pb, us, rfl, hpa, hpb, dvs⟩ := tr_parts hpv
  have hul := das_len dvs
  walk_at "s"
  refine v_ixT hpa (v := .str n) (atI_nat (j := 0) rfl) ?_
  walk_at "s"
  refine ⟨v, n, rs, rfl, hR, fun u H1 s1 du => ?_⟩
  obtain ⟨rb, sv, bv, rfl, hrb, hsv, hbv⟩ := row_parts du
  obtain ⟨sa, rfl, hsa⟩ := tup_str hsv
  obtain ⟨ba, rfl, hba⟩ := tup_str hbv
  refine ⟨rb, _, rfl, hrb, rfl, _, _, rfl, st_name ⟨_, _, rfl, st_name ⟨_, _, rfl, st_name ⟨_, _, rfl, st_name ⟨_, _, rfl, st_name ⟨rfl, ?_⟩⟩⟩⟩⟩⟩
  walk_at "s"
  by_cases h0 : (rowL rs n).sort = ("" : Str)
  · rw [decide_eq_true h0]; refine iteT ?_
    walk_at "s"
    have := q H1 s1
    unfold treeF at this
    rw [sort_L B, if_pos h0] at this
    exact this
  · rw [decide_eq_false h0]; refine iteF ?_
    obtain ⟨r, hr⟩ : ∃ r, rowOf rs (some n) = some r := by
      cases e : rowOf rs (some n) with
      | some r => exact ⟨r, rfl⟩
      | none => exact absurd (by unfold rowL; rw [e]; rfl) h0
    have eR : rowL rs n = r := by unfold rowL; rw [hr]; rfl
    rw [eR] at hsa hba ⊢
    obtain ⟨hm, hrn⟩ := row_some hr
    have hn0 : n ≠ ("" : Str) := hrn ▸ B.ne r hm
    rw [hrn]
    rw [tree_L hr] at q
    have last : ∀ {a11 a12 : Option V} {a7 a8 : Option V}, ¬ (r.sort = ("bare" : Str) ∧ 0 < ps.length) → ¬ (19 < ns.length) → ¬ ((rowL rs (lastOf ns)).sort = ("frame" : Str) ∧ (rowL rs (lastOf ns)).host ≠ n) → fltL K D [some v, some (.ref na), some (.ref pa), a3, some (.str (lastOf ns)), some fv, some (.str n), a7, a8, some (.ref sa), some (.ref ba), a11, a12] H1 := by
      intro _ _ _ _ h1 h2 h3
      rw [if_neg h1, if_neg h2, if_neg h3] at q
      exact flt_L B hn0 (hR.same s1) hrl (s1.sqT hna) hl hsa hba fun H2 s2 => q H2 (Same.tr s1 s2)
    obtain ⟨fb, fsv, fbv, rfl, hfb, _, _⟩ := row_parts hfv
    have hfb := s1.sqT hfb
    have tail : ¬ (r.sort = ("bare" : Str) ∧ 0 < ps.length) → fltD K D [some v, some (.ref na), some (.ref pa), a3, some (.str (lastOf ns)), some (.ref fb), some (.str n), some (.str r.sort), some (.str r.host), some (.ref sa), some (.ref ba), a11, a12] H1 := by
      intro h1
      unfold fltD
      walk_at "s"
      refine v_lenQ (.inr (s1.sqT hna)) ?_
      rw [strV_len]
      walk_at "s"
      by_cases h2 : 19 < ns.length
      · rw [decide_eq_true (by omega)]; refine iteT ?_
        walk_at "s"
        have := q H1 s1
        rw [if_neg h1, if_pos h2] at this
        exact this
      · rw [decide_eq_false (by omega)]; refine iteF ?_
        walk_at "s"
        refine v_ixT hfb (v := .str (rowL rs (lastOf ns)).sort) (atI_nat (j := 1) rfl) ?_
        walk_at "s"
        by_cases h3 : (rowL rs (lastOf ns)).sort = ("frame" : Str)
        · rw [decide_eq_true h3]; refine iteT ?_
          walk_at "s"
          refine v_ixT hfb (v := .str (rowL rs (lastOf ns)).host) (atI_nat (j := 2) rfl) ?_
          walk_at "s"
          by_cases h4 : (rowL rs (lastOf ns)).host = n
          · rw [decide_eq_true h4]; refine iteF ?_
            walk_at "s"
            exact last h1 h2 (fun z => z.2 h4)
          · rw [decide_eq_false h4]; refine iteT ?_
            walk_at "s"
            have := q H1 s1
            rw [if_neg h1, if_neg h2, if_pos ⟨h3, h4⟩] at this
            exact this
        · rw [decide_eq_false h3]; refine iteF ?_
          refine iteF ?_
          walk_at "s"
          exact last h1 h2 (fun z => h3 z.1)
    walk_at "s"
    by_cases hb0 : r.sort = ("bare" : Str)
    · rw [decide_eq_true hb0]; refine iteT ?_
      walk_at "s"
      refine v_ixT (s1.sqT hpa) (v := .ref pb) (atI_nat (j := 1) rfl) ?_
      walk_at "s"
      refine v_lenQ (.inr (s1.sqT hpb)) ?_
      rw [hul]
      walk_at "s"
      by_cases hp0 : 0 < ps.length
      · rw [decide_eq_true (by omega)]; refine iteT ?_
        walk_at "s"
        have := q H1 s1
        rw [if_pos ⟨hb0, hp0⟩] at this
        exact this
      · rw [decide_eq_false (by omega)]; refine iteF ?_
        walk_at "s"
        exact tail (fun z => hp0 z.2)
    · rw [decide_eq_false hb0]; refine iteF ?_
      refine iteF ?_
      walk_at "s"
      exact tail (fun z => hb0 z.1)
def Ahd (K : PySem.W.Frag) (H : Hp) (av : V) (bs : Bool) : Prop := (av = .non ∧ bs = false) ∨ ∃ w : Tr, Dv K H w.da av ∧ w.isTx = bs
theorem isi_ahd {Q : VK} {bs : Bool} (h : Ahd K H av bs) (q : Q (.bl bs) H) : rIsi K [av, .ty "str"] H Q := by
  rcases h with ⟨rfl, rfl⟩ | ⟨w, hw, rfl⟩
  · exact v_isi .non (b := false) rfl q
  · exact isi_tr hw q
theorem Ahd.same {H' : Hp} {bs : Bool} (h : Ahd K H av bs) (s : Same H H') : Ahd K H' av bs := h.imp (fun h => h) fun ⟨w, h1, h2⟩ => ⟨w, Dv.same s _ _ h1, h2⟩
theorem flt_A {u : Tr} {bs : Bool} {a5 : Option V} (B : BkS rs) (hR : Rws K H v rs) (hrl : rs.length ≤ 1000) (hna : SqT K H na (strV ns)) (hl : ns.length ≤ 1000) (hpv : Dv K H u.da pv) (hav : Ahd K H av bs)
    (q : ∀ H', Same H H' → D.rt (oV (faultF rs ns u bs)) H') : fltA K D [some v, some (.ref na), some pv, some av, some (.str (lastOf ns)), a5, a6, a7, a8, a9, a10, a11, a12] H := by
  unfold fltA
  walk_at "s"
  refine ⟨v, lastOf ns, rs, rfl, hR, fun fv H1 s1 hfv => ?_⟩
  walk_at "s"
  refine isi_tr (Dv.same s1 _ _ hpv) ?_
  walk_at "s"
  cases u with
  | nd n ps =>
    refine iteF ?_
    walk_at "s"
    exact flt_T B (hR.same s1) hrl (s1.sqT hna) hl (Dv.same s1 _ _ hpv) hfv fun H2 s2 => q H2 (Same.tr s1 s2)
  | tx z =>
    refine iteT ?_
    obtain ⟨fb, fsv, fbv, rfl, hfb, _, _⟩ := row_parts hfv
    have hz := tr_tx hpv
    subst hz
    have q1 : D.rt (oV (textF rs ns z bs)) H1 := q H1 s1
    unfold textF at q1
    rw [host_L] at q1
    walk_at "s"
    refine v_ixT hfb (v := .str (rowL rs (lastOf ns)).sort) (atI_nat (j := 1) rfl) ?_
    walk_at "s"
    by_cases h3 : (rowL rs (lastOf ns)).sort = ("frame" : Str)
    · rw [decide_eq_true h3]; refine iteT ?_
      walk_at "s"
      rw [if_pos h3, if_pos (by rfl)] at q1
      exact q1
    · rw [decide_eq_false h3]; refine iteF ?_
      rw [if_neg h3, if_neg (by decide)] at q1
      walk_at "s"
      by_cases hz : z = ("" : Str)
      · rw [decide_eq_true hz]; refine iteT ?_
        walk_at "s"
        rw [if_pos hz] at q1
        exact q1
      · rw [decide_eq_false hz]; refine iteF ?_
        rw [if_neg hz] at q1
        walk_at "s"
        refine isi_ahd (hav.same s1) ?_
        walk_at "s"
        cases bs with
        | true =>
          refine iteT ?_
          walk_at "s"
          exact q1
        | false =>
          refine iteF ?_
          walk_at "s"
          exact q1
end
@[reducible] def T__law_fault_15 (K : PySem.W.Frag) : TS :=
 (tSeq (tIfS (tTest (tOp (rNeA K) (tVar 1) (tTup tNil)))
 (tAsg (tOp (rIxA K) (tVar 1) (tUn (rU fun i => .int (-i)) (tC (.int 1)))) (gName 4)) tNext)
 (fltA K))
def sp__law_fault (K : PySem.W.Frag) : Sp := fun vs H Q _ => ∃ (v : V) (na : Addr) (pv av : V) (rs : List Row) (ns : List Str) (u : Tr) (bs : Bool), vs = [v, .ref na, pv, av] ∧ BkS rs ∧ Rws K H v rs ∧ rs.length ≤ 1000 ∧ SqT K H na (strV ns) ∧ ns.length ≤ 1000 ∧ Dv K H u.da pv ∧ Ahd K H av bs ∧ ∀ H', Same H H' → Q (oV (faultF rs ns u bs)) H'
theorem len__law_fault (K : PySem.W.Frag) : ∀ vs H Q E, sp__law_fault K vs H Q E → vs.length = ["_law_book_here", "_law_names", "_law_part", "_law_ahead"].length := by rintro vs H Q E ⟨v, na, pv, av, rs, ns, u, bs, rfl, _⟩; rfl
def R__law_fault (K : PySem.W.Frag) : TS :=
 (tSeq (tAsg (tC (.str ("" : Str))) (gName 4))
 (T__law_fault_15 K))
theorem rd__law_fault (h : sp__law_fault K vs H Q E) : R__law_fault K { nx := fun _ H' => Q .non H', rt := Q } (start ["_law_book_here", "_law_names", "_law_part", "_law_ahead", "_law_above", "_law_frame", "_law_name_here", "_law_sort", "_law_host", "_law_shuts", "_law_bars", "_law_frames", "_law_near_here"] vs) H := by
  obtain ⟨v, na, pv, av, rs, ns, u, bs, rfl, B, hR, hrl, hna, hl, hpv, hav, q⟩ := h
  show R__law_fault K _ [some v, some (.ref na), some pv, some av, none, none, none, none, none, none, none, none, none] H
  unfold R__law_fault
  walk_at "s"
  refine ⟨sl64 (by walk_at "z"), fun e he => ?_⟩
  have s1 : Same H (upd H e (.tup [])) := Same.new he _
  refine v_neM (d := .tuple (sDa ns)) (e := .tuple []) (dv_tuple.mpr ⟨na, _, rfl, s1.sqT hna, dvs_sDa.mpr rfl⟩) (dv_tuple.mpr ⟨e, [], rfl, SqT.of upd_same, dvs_nil⟩) (Nat.le_trans (Nat.min_le_right _ _) (by decide)) ?_
  rw [eqv_strsT]
  generalize upd H e (.tup []) = H1 at *
  walk_at "s"
  by_cases hn : ns = []
  · subst hn
    refine iteF ?_
    walk_at "s"
    exact flt_A (ns := []) B (hR.same s1) hrl (s1.sqT hna) hl (Dv.same s1 _ _ hpv) (hav.same s1) fun H2 s2 => q H2 (Same.tr s1 s2)
  · have e0 : (!ns.isEmpty) = true := by cases ns with | nil => exact absurd rfl hn | cons _ _ => rfl
    rw [e0]
    refine iteT ?_
    walk_at "s"
    refine ⟨1, rfl, ?_⟩
    obtain ⟨xs, x, rfl⟩ : ∃ xs x, ns = xs ++ [x] := ⟨ns.dropLast, ns.getLast hn, (List.dropLast_concat_getLast hn).symm⟩
    refine v_ixT (s1.sqT hna) (v := .str x) (atI_last (n := xs.length) (by rw [strV_len]; simp) (by rw [strV_at (by simp)]; simp)) ?_
    walk_at "s"
    have := lastOf_snoc xs x
    rw [← this]
    exact flt_A B (hR.same s1) hrl (s1.sqT hna) hl (Dv.same s1 _ _ hpv) (hav.same s1) fun H2 s2 => q H2 (Same.tr s1 s2)
end My
namespace My
open PySem L2
variable {K : PySem.W.Frag} {vs : List V} {H : Hp} {Q : VK} {E : XK}
abbrev T3 := List Int × List Str × Tr
noncomputable def abv (x : T3) : List Str := if x.1 = [] then x.2.1 else x.2.1 ++ [nmOf x.2.2]
noncomputable def kid3 (pl : List Int) (ab : List Str) : Nat → List Tr → List T3
  | _, [] => []
  | k, t :: ts => (pl ++ [(k : Int)], ab, t) :: kid3 pl ab (k + 1) ts
mutual
noncomputable def wkT (pl : List Int) (ns ab : List Str) : Tr → List T3
  | .tx s => [(pl, ns, .tx s)]
  | .nd n ps => (pl, ns, .nd n ps) :: wkS pl ab 0 ps
noncomputable def wkS (pl : List Int) (ab : List Str) (k : Nat) : List Tr → List T3
  | [] => []
  | t :: ts => wkT (pl ++ [(k : Int)]) ab (ab ++ [nmOf t]) t ++ wkS pl ab (k + 1) ts
end
noncomputable def wk (x : T3) : List T3 := wkT x.1 x.2.1 (abv x) x.2.2
noncomputable def flat3 (l : List T3) : List T3 := l.flatMap wk
theorem flat3_app (a b : List T3) : flat3 (a ++ b) = flat3 a ++ flat3 b := by unfold flat3; rw [List.flatMap_append]
theorem snoc_ne {α : Type} (l : List α) (x : α) : l ++ [x] ≠ [] := by simp
theorem wkS_flat (pl : List Int) (ab : List Str) : ∀ (k : Nat) (ts : List Tr), wkS pl ab k ts = flat3 (kid3 pl ab k ts)
  | k, [] => by rw [wkS]; rfl
  | k, t :: ts => by
    rw [wkS, wkS_flat pl ab (k + 1) ts, kid3]
    show _ = wk (pl ++ [(k : Int)], ab, t) ++ flat3 (kid3 pl ab (k + 1) ts)
    unfold wk abv
    rw [if_neg (snoc_ne _ _)]
theorem wk_kids (x : T3) : wk x = x :: flat3 (kid3 x.1 (abv x) 0 x.2.2.kids) := by
  obtain ⟨pl, ns, t⟩ := x
  cases t with
  | tx s => unfold wk; rw [wkT]; rfl
  | nd n ps => unfold wk; rw [wkT, wkS_flat]; rfl
theorem flat3_cons (x : T3) (r : List T3) : flat3 (x :: r) = x :: flat3 (kid3 x.1 (abv x) 0 x.2.2.kids ++ r) := by
  rw [flat3_app]
  show wk x ++ flat3 r = _
  rw [wk_kids]; rfl
theorem kid3_len (pl : List Int) (ab : List Str) : ∀ (k : Nat) (ts : List Tr), (kid3 pl ab k ts).length = ts.length
  | _, [] => rfl
  | k, t :: ts => by rw [kid3, List.length_cons, List.length_cons, kid3_len pl ab (k + 1) ts]
mutual
theorem wkT_wt (pl : List Int) (ns ab : List Str) : ∀ t : Tr, (wkT pl ns ab t).length ≤ wt t
  | .tx s => by rw [wkT, wt, List.length_singleton]; omega
  | .nd n ps => by rw [wkT, wt, List.length_cons]; have := wkS_wt pl ab 0 ps; omega
theorem wkS_wt (pl : List Int) (ab : List Str) (k : Nat) : ∀ ts : List Tr, (wkS pl ab k ts).length ≤ wts ts
  | [] => by rw [wkS, wts]; exact Nat.le_refl _
  | t :: ts => by rw [wkS, wts, List.length_append]; have := wkT_wt (pl ++ [(k : Int)]) ab (ab ++ [nmOf t]) t; have := wkS_wt pl ab (k + 1) ts; omega
end
mutual
theorem wkT_len (pl : List Int) (ns ab : List Str) (h : ns.length ≤ ab.length) : ∀ (t : Tr) (x : T3), x ∈ wkT pl ns ab t → x.1.length + 1 ≤ pl.length + wt t ∧ x.2.1.length + 1 ≤ ab.length + wt t
  | .tx s, x, hx => by rw [wkT, List.mem_singleton] at hx; subst hx; rw [wt]; show pl.length + 1 ≤ _ ∧ ns.length + 1 ≤ _; omega
  | .nd n ps, x, hx => by
    rw [wkT, List.mem_cons] at hx
    rw [wt]
    rcases hx with rfl | hx
    · show pl.length + 1 ≤ _ ∧ ns.length + 1 ≤ _; omega
    · have := wkS_len pl ab 0 ps x hx; omega
theorem wkS_len (pl : List Int) (ab : List Str) (k : Nat) : ∀ (ts : List Tr) (x : T3), x ∈ wkS pl ab k ts → x.1.length ≤ pl.length + wts ts ∧ x.2.1.length ≤ ab.length + wts ts
  | [], x, hx => by rw [wkS] at hx; cases hx
  | t :: ts, x, hx => by
    rw [wkS, List.mem_append] at hx
    rw [wts]
    rcases hx with hx | hx
    · have := wkT_len _ _ _ (by simp) t x hx; simp at this; omega
    · have := wkS_len pl ab (k + 1) ts x hx; omega
end
mutual
theorem wkT_h (pl : List Int) (ns ab : List Str) (h : ns.length ≤ ab.length) : ∀ (t : Tr) (x : T3), x ∈ wkT pl ns ab t → x.1.length ≤ pl.length + hgt t ∧ x.2.1.length ≤ ab.length + hgt t
  | .tx s, x, hx => by rw [wkT, List.mem_singleton] at hx; subst hx; show pl.length ≤ _ ∧ ns.length ≤ _; omega
  | .nd n ps, x, hx => by
    rw [wkT, List.mem_cons] at hx
    rw [hgt]
    rcases hx with rfl | hx
    · show pl.length ≤ _ ∧ ns.length ≤ _; omega
    · have := wkS_h pl ab 0 ps x hx; omega
theorem wkS_h (pl : List Int) (ab : List Str) (k : Nat) : ∀ (ts : List Tr) (x : T3), x ∈ wkS pl ab k ts → x.1.length ≤ pl.length + 1 + hgts ts ∧ x.2.1.length ≤ ab.length + 1 + hgts ts
  | [], x, hx => by rw [wkS] at hx; cases hx
  | t :: ts, x, hx => by
    rw [wkS, List.mem_append] at hx
    rw [hgts]
    rcases hx with hx | hx
    · have := wkT_h _ _ _ (by simp) t x hx; simp at this; omega
    · have := wkS_h pl ab (k + 1) ts x hx; omega
end
def W3 (K : PySem.W.Frag) (H : Hp) (x : T3) (v : V) : Prop := ∃ (a pa na : Addr) (pv : V), v = .ref a ∧ H a = some (.tup [.ref pa, .ref na, pv]) ∧ H pa = some (.tup (intV x.1)) ∧ H na = some (.tup (strV x.2.1)) ∧ Dv K H x.2.2.da pv
def W3s (K : PySem.W.Frag) (H : Hp) : List T3 → List V → Prop
  | [], vs => vs = []
  | x :: xs, vs => ∃ v r, vs = v :: r ∧ W3 K H x v ∧ W3s K H xs r
theorem W3.tupK {H' : Hp} {x : T3} {v : V} (k : TupK H H') (h : W3 K H x v) : W3 K H' x v := by
  obtain ⟨a, pa, na, pv, rfl, h1, h2, h3, h4⟩ := h
  exact ⟨a, pa, na, pv, rfl, k.1 _ _ h1, k.1 _ _ h2, k.1 _ _ h3, Dv.tupK k _ _ (da_fix _) h4⟩
theorem W3s.tupK {H' : Hp} (k : TupK H H') : ∀ {xs : List T3} {vs : List V}, W3s K H xs vs → W3s K H' xs vs
  | [], _, h => h
  | x :: xs, _, ⟨v, r, e, h1, h2⟩ => ⟨v, r, e, h1.tupK k, W3s.tupK k h2⟩
theorem W3s.app : ∀ {xs ys : List T3} {vs ws : List V}, W3s K H xs vs → W3s K H ys ws → W3s K H (xs ++ ys) (vs ++ ws)
  | [], _, _, _, h, g => by rw [show _ = [] from h]; exact g
  | x :: xs, _, _, _, ⟨v, r, e, h1, h2⟩, g => by subst e; exact ⟨v, _, rfl, h1, W3s.app h2 g⟩
theorem W3s.length : ∀ {xs : List T3} {vs : List V}, W3s K H xs vs → vs.length = xs.length
  | [], _, h => by rw [show _ = [] from h]; rfl
  | x :: xs, _, ⟨v, r, e, h1, h2⟩ => by subst e; rw [List.length_cons, List.length_cons, W3s.length h2]
theorem W3s.get : ∀ {xs : List T3} {vs : List V} {i : Nat} {v : V}, W3s K H xs vs → vs[i]? = some v → ∃ x, xs[i]? = some x ∧ W3 K H x v
  | [], _, i, v, h, e => by rw [show _ = [] from h] at e; simp at e
  | x :: xs, _, 0, v, ⟨w, r, e, h1, h2⟩, e2 => by subst e; cases e2; exact ⟨x, rfl, h1⟩
  | x :: xs, _, i + 1, v, ⟨w, r, e, h1, h2⟩, e2 => by
    subst e
    obtain ⟨y, hy, w3⟩ := W3s.get (i := i) h2 (by simpa using e2)
    exact ⟨y, by simpa using hy, w3⟩
theorem W3s.one {x : T3} {v : V} (h : W3 K H x v) : W3s K H [x] [v] := ⟨v, [], rfl, h, rfl⟩
noncomputable def d3 (x : T3) : PyData := .tuple [.tuple (intD x.1), .tuple (sDa x.2.1), x.2.2.da]
theorem W3.dv {x : T3} {v : V} (h : W3 K H x v) : Dv K H (d3 x) v := by
  obtain ⟨a, pa, na, pv, rfl, h1, h2, h3, h4⟩ := h
  unfold d3
  exact dv_tuple.mpr ⟨a, _, rfl, SqT.of h1, dvs_cons (dv_tuple.mpr ⟨pa, _, rfl, SqT.of h2, dvs_intD.mpr rfl⟩) (dvs_cons (dv_tuple.mpr ⟨na, _, rfl, SqT.of h3, dvs_sDa.mpr rfl⟩) (dvs_cons h4 dvs_nil))⟩
theorem W3s.dvs : ∀ {xs : List T3} {vs : List V}, W3s K H xs vs → Dvs K H (xs.map d3) vs
  | [], _, h => by rw [show _ = [] from h]; exact dvs_nil
  | x :: xs, _, ⟨v, r, e, h1, h2⟩ => by subst e; exact dvs_cons h1.dv h2.dvs
def walkC (K : PySem.W.Frag) : TS :=
 (tAsg (tOp (rAddB K) (tComp [some 6, some 3, some 5, none] (iRng1 (tCons (tCB (rLenA K) (tCons (tOp (rIxA K) (tVar 5) (tC (.int 1))) tNil)) tNil)) (gName 3) tTT (tTup (tCons (tOp (rAddB K) (tVar 1) (tTup (tCons (tVar 3) tNil))) (tCons (tVar 0) (tCons (tOp (rIxA K) (tOp (rIxA K) (tVar 2) (tC (.int 1))) (tVar 3)) tNil))))) (tVar 2)) (gName 2))
section
variable {D : Ends} {v pv : V} {p1 p2 pa na ab : Addr}
theorem walk_C {x : T3} {n : Str} {ps : List Tr} {ws : List V} {stk : List T3} (hx : x.2.2 = .nd n ps) (hp2 : H p2 = some (.lst ws)) (hpa : H pa = some (.tup (intV x.1))) (hab : H ab = some (.tup (strV (abv x)))) (hpv : Dv K H x.2.2.da pv) (hstk : W3s K H stk ws) (hz : x.1.length + ps.length + ws.length ≤ 90000)
    (q : ∀ (r : Addr) (us : List V) (H' : Hp), Same H H' → H r = none → H' r = some (.lst us) → W3s K H' (kid3 x.1 (abv x) 0 ps ++ stk) us → D.nx [some v, some (.ref p1), some (.ref r), some (.ref pa), some (.ref na), some pv, some (.ref ab)] H') :
    walkC K D [some v, some (.ref p1), some (.ref p2), some (.ref pa), some (.ref na), some pv, some (.ref ab)] H := by
  rw [hx] at hpv
  obtain ⟨ta, tb, us, rfl, hta, htb, hd⟩ := tr_parts hpv
  have hul := das_len hd
  unfold walkC
  walk_at "s"
  refine v_ixT hta (v := .ref tb) (atI_nat (j := 1) rfl) ?_
  walk_at "s"
  refine v_lenQ (.inr htb) ?_
  rw [hul]
  let Pv0 : Nat → List V → Hp → Prop := fun i ys H' => Same H H' ∧ W3s K H' (kid3 x.1 (abv x) 0 (ps.take i)) ys
  refine rng1_comp (n := (ps.length : Int)) (by omega) (by omega) Pv0 ⟨fun _ _ e => e, rfl⟩ ?_ ?_ ?_
  · rintro i ys H' hi ⟨s1, h⟩
    rw [h.length, kid3_len, List.length_take]; exact sl64 (by omega)
  · rintro i ys H' hi ⟨s1, h⟩
    have hi : i < ps.length := by omega
    obtain ⟨u, hu, du⟩ := das_get hd (List.getElem?_eq_getElem hi)
    walk_at "s"
    refine ⟨sl64 (by walk_at "z"), fun c hc => ?_⟩
    have sc := Same.new hc (.tup [.int (i : Int)])
    refine v_catH (sc _ _ (s1 _ _ hpa)) upd_same (by rw [intV_len]; exact sl64 (by simp; omega)) fun pp H2 s2 hpp => ?_
    have s12 : Same H' H2 := Same.tr sc s2
    have s02 := Same.tr s1 s12
    walk_at "s"
    refine v_ixT (s02.sqT hta) (v := .ref tb) (atI_nat (j := 1) rfl) ?_
    walk_at "s"
    refine v_ixT (s02.sqT htb) (v := u) (atI_nat hu) ?_
    walk_at "s"
    refine ⟨sl64 (by walk_at "z"), fun t ht => ?_⟩
    have s3 := Same.new ht (.tup [.ref pp, .ref ab, u])
    refine ⟨Same.tr s02 s3, ?_⟩
    have e : kid3 x.1 (abv x) 0 (ps.take (i + 1)) = kid3 x.1 (abv x) 0 (ps.take i) ++ [(x.1 ++ [((i : Nat) : Int)], abv x, ps[i])] := by
      rw [List.take_add_one, List.getElem?_eq_getElem hi]
      have : ∀ (k : Nat) (l : List Tr) (y : Tr), kid3 x.1 (abv x) k (l ++ [y]) = kid3 x.1 (abv x) k l ++ [(x.1 ++ [((k + l.length : Nat) : Int)], abv x, y)] := by
        intro k l y
        induction l generalizing k with
        | nil => simp [kid3]
        | cons z l ih => rw [List.cons_append, kid3, ih, kid3, List.cons_append, List.length_cons, show k + 1 + l.length = k + (l.length + 1) by omega]
      show kid3 _ _ _ (ps.take i ++ [ps[i]]) = _
      rw [this, List.length_take, show 0 + min i ps.length = i by omega]
    rw [e]
    refine W3s.app (h.tupK (Same.tr s12 s3).tupK) (W3s.one ⟨t, pp, ab, u, rfl, upd_same, ?_, s3 _ _ (s02 _ _ hab), Dv.same (Same.tr s02 s3) _ _ du⟩)
    have := s3 _ _ hpp
    rw [this]
    show some (HO.tup (intV x.1 ++ [V.int (i : Int)])) = _
    rw [intV_app]
  · rintro ys H' ⟨s1, h⟩ r hr
    rw [show ((ps.length : Int)).toNat = ps.length by omega, List.take_length] at h
    have sr := Same.new hr (.lst ys)
    walk_at "s"
    have h1 := h.length
    rw [kid3_len] at h1
    refine .inl (v_cat upd_same (Same.tr s1 sr _ _ hp2) (by rw [h1]; exact sl64 (by omega)) fun r2 hr2 => ?_)
    have sr2 := Same.new hr2 (.lst (ys ++ ws))
    have st := Same.tr s1 (Same.tr sr sr2)
    walk_at "s"
    exact q r2 _ _ st (none_of (Same.tr s1 sr) hr2) upd_same (W3s.app (h.tupK (Same.tr sr sr2).tupK) (hstk.tupK st.tupK))
end
@[reducible] def T__law_walk_1 (K : PySem.W.Frag) : TS :=
 (tSeq (tIfS (tTest (tOp (rNeA K) (tVar 3) (tTup tNil)))
 (tAsg (tOp (rAddB K) (tVar 4) (tTup (tCons (tOp (rIxA K) (tVar 5) (tC (.int 0))) tNil))) (gName 6)) tNext)
 (walkC K))
@[reducible] def T__law_walk_2 (K : PySem.W.Frag) : TS :=
 (tIfS (tNot (tB (tCB (rIsi K) (tCons (tVar 5) (tCons (tC (.ty "str")) tNil)))))
 (tSeq (tAsg (tVar 4) (gName 6))
 (T__law_walk_1 K)) tNext)
@[reducible] def T__law_walk_3 (K : PySem.W.Frag) : TS :=
 (tSeq (tDrop (tBM K "list" rAppend (tVar 1) (tCons (tTup (tCons (tVar 3) (tCons (tVar 4) (tCons (tVar 5) tNil)))) tNil)))
 (T__law_walk_2 K))
@[reducible] def T__law_walk_4 (K : PySem.W.Frag) : TS :=
 (tSeq (tAsg (tBM K "list" rPopAt (tVar 2) (tCons (tC (.int 0)) tNil)) (gTup K 3 (gCons (gName 3) (gCons (gName 4) (gCons (gName 5) gNil)))))
 (T__law_walk_3 K))
@[reducible] def T__law_walk_5 (K : PySem.W.Frag) : TS :=
 (tSeq (tAsg (tLst (tCons (tTup (tCons (tTup tNil) (tCons (tTup tNil) (tCons (tVar 0) tNil)))) tNil)) (gName 2))
 (tSeq (tWhile (tTest (tOp (rNeA K) (tVar 2) (tLst tNil)))
 (T__law_walk_4 K))
 (tRet (tVar 1))))
def sp__law_walk (K : PySem.W.Frag) : Sp := fun vs H Q _ => ∃ (t : Tr) (v : V), vs = [v] ∧ Dv K H t.da v ∧ wt t ≤ 40000 ∧ ∀ (p : Addr) (us : List V) (H' : Hp), Same H H' → H p = none → H' p = some (.lst us) → W3s K H' (wk ([], [], t)) us → Q (.ref p) H'
theorem len__law_walk (K : PySem.W.Frag) : ∀ vs H Q E, sp__law_walk K vs H Q E → vs.length = ["_law_tree"].length := by rintro vs H Q E ⟨t, v, rfl, _⟩; rfl
def R__law_walk (K : PySem.W.Frag) : TS :=
 (tSeq (tAsg (tLst tNil) (gName 1))
 (T__law_walk_5 K))
theorem while_m {c : TT} {tb : TS} {D : Ends} {σ : St} {m0 : Nat} (W : Nat → St → Hp → Prop) (h0 : W m0 σ H)
    (hs : ∀ m σ H, W m σ H → c σ H fun b H1 => if b = true then ∃ N : St → Hp → Prop, (∀ σ' H', N σ' H' → ∃ m', m' < m ∧ W m' σ' H') ∧ tb (Ends.lp D N) σ H1 else D.nx σ H1) : tWhile c tb D σ H := ⟨W, ⟨_, h0⟩, hs⟩
theorem flat3_le : ∀ l : List T3, l.length ≤ (flat3 l).length
  | [] => Nat.zero_le _
  | p :: r => by have ih := flat3_le r; rw [flat3_cons, flat3_app, List.length_cons, List.length_cons, List.length_append]; omega
inductive Wlk (K : PySem.W.Frag) (H : Hp) (v : V) (p1 : Addr) (t : Tr) (m : Nat) : St → Hp → Prop
  | mk {H' : Hp} {p2 : Addr} {a3 a4 a5 a6 : Option V} {us ws : List V} {done stk : List T3} (s : Same H H') (n2 : H p2 = none) (n12 : p1 ≠ p2) (h1 : H' p1 = some (.lst us)) (h2 : H' p2 = some (.lst ws)) (d1 : W3s K H' done us) (d2 : W3s K H' stk ws) (e : done ++ flat3 stk = wk ([], [], t)) (hm : (flat3 stk).length = m) : Wlk K H v p1 t m [some v, some (.ref p1), some (.ref p2), a3, a4, a5, a6] H'
theorem walk_D {H : Hp} {v : V} {p1 p2 pa na ab : Addr} {t : Tr} {D : Ends} {pv : V} {us ws : List V} {done rest : List T3} {pl : List Int} {ns : List Str} {n : Str} {ps : List Tr} {f0 : Addr} {H9 H10 : Hp} (hz : wt t ≤ 40000) (s9 : Same H H9) (s10 : Same H9 H10) (g3 : H9 p1 = some (.lst (us ++ [.ref f0]))) (g2 : H9 p2 = some (.lst ws)) (k2 : H9 pa = some (.tup (intV pl))) (hab : H10 ab = some (.tup (strV (abv (pl, ns, .nd n ps))))) (k4 : Dv K H9 (Tr.nd n ps).da pv) (d1 : W3s K H9 (done ++ [(pl, ns, .nd n ps)]) (us ++ [.ref f0])) (d4 : W3s K H9 rest ws)
    (e : done ++ (pl, ns, .nd n ps) :: flat3 (kid3 pl (abv (pl, ns, .nd n ps)) 0 ps ++ rest) = wk ([], [], t)) (hpl : pl.length + 1 ≤ wt t)
    (q : ∀ (p2 : Addr) (H'' : Hp), Wlk K H v p1 t (flat3 (kid3 pl (abv (pl, ns, .nd n ps)) 0 ps ++ rest)).length [some v, some (.ref p1), some (.ref p2), some (.ref pa), some (.ref na), some pv, some (.ref ab)] H'' → D.nx [some v, some (.ref p1), some (.ref p2), some (.ref pa), some (.ref na), some pv, some (.ref ab)] H'') :
    walkC K D [some v, some (.ref p1), some (.ref p2), some (.ref pa), some (.ref na), some pv, some (.ref ab)] H10 := by
  have hwt : (wk ([], [], t)).length ≤ wt t := wkT_wt _ _ _ t
  have hl : done.length + ((flat3 (kid3 pl (abv (pl, ns, .nd n ps)) 0 ps ++ rest)).length + 1) = (wk ([], [], t)).length := by rw [← e, List.length_append, List.length_cons]
  have hk := flat3_le (kid3 pl (abv (pl, ns, .nd n ps)) 0 ps ++ rest)
  rw [List.length_append, kid3_len] at hk
  have hwl := d4.length
  refine walk_C (x := (pl, ns, .nd n ps)) rfl (s10 _ _ g2) (s10 _ _ k2) hab (Dv.same s10 _ _ k4) (d4.tupK s10.tupK) (by show pl.length + ps.length + ws.length ≤ 90000; omega) fun r us2 H11 s11 hr hus w3 => ?_
  have s911 := Same.tr s10 s11
  exact q r H11 (.mk (done := done ++ [(pl, ns, .nd n ps)]) (Same.tr s9 s911) (none_of (Same.tr s9 s10) hr) (ne_free (s10 _ _ g3) hr) (s911 _ _ g3) hus (d1.tupK s911.tupK) w3 (by rw [← e]; simp [Tr.kids]) rfl)
theorem rd__law_walk (h : sp__law_walk K vs H Q E) : R__law_walk K { nx := fun _ H' => Q .non H', rt := Q } (start ["_law_tree", "_law_found", "_law_todo", "_law_place", "_law_names", "_law_part", "_law_above"] vs) H := by
  obtain ⟨t, v, rfl, hd, hz, q⟩ := h
  show R__law_walk K _ [some v, none, none, none, none, none, none] H
  unfold R__law_walk
  walk_at "s"
  refine ⟨sl64 (by walk_at "z"), fun p1 hp1 => ?_⟩
  have s1 := Same.new hp1 (.lst [])
  have e1 : (upd H p1 (.lst [])) p1 = some (.lst []) := upd_same
  generalize upd H p1 (.lst []) = H1 at *
  walk_at "s"
  refine ⟨sl64 (by walk_at "z"), fun c0 hc0 => ?_⟩
  have s2 := Same.new hc0 (.tup [])
  have e2 : (upd H1 c0 (.tup [])) c0 = some (.tup []) := upd_same
  generalize upd H1 c0 (.tup []) = H2 at *
  walk_at "s"
  refine ⟨sl64 (by walk_at "z"), fun c1 hc1 => ?_⟩
  have s3 := Same.new hc1 (.tup [])
  have e3 : (upd H2 c1 (.tup [])) c1 = some (.tup []) := upd_same
  generalize upd H2 c1 (.tup []) = H3 at *
  walk_at "s"
  refine ⟨sl64 (by walk_at "z"), fun c2 hc2 => ?_⟩
  have s4 := Same.new hc2 (.tup [.ref c0, .ref c1, v])
  have e4 : (upd H3 c2 (.tup [.ref c0, .ref c1, v])) c2 = some (.tup [.ref c0, .ref c1, v]) := upd_same
  generalize upd H3 c2 (.tup [.ref c0, .ref c1, v]) = H4 at *
  walk_at "s"
  refine ⟨sl64 (by walk_at "z"), fun p2 hp2 => ?_⟩
  have s5 := Same.new hp2 (.lst [.ref c2])
  have e5 : (upd H4 p2 (.lst [.ref c2])) p2 = some (.lst [.ref c2]) := upd_same
  have s14 : Same H1 H4 := Same.tr s2 (Same.tr s3 s4)
  have n12 : p1 ≠ p2 := ne_free (s14 _ _ e1) hp2
  have n2 : H p2 = none := none_of (Same.tr s1 s14) hp2
  generalize upd H4 p2 (.lst [.ref c2]) = H5 at *
  have s15 := Same.tr s14 s5
  have sA := Same.tr s1 s15
  walk_at "s"
  refine while_m (Wlk K H v p1 t) (.mk (us := []) (done := []) (stk := [([], [], t)]) sA n2 n12 (s15 _ _ e1) e5 rfl (W3s.one ⟨c2, c0, c1, v, rfl, s5 _ _ e4, s5 _ _ (s4 _ _ (s3 _ _ e2)), s5 _ _ (s4 _ _ e3), Dv.same sA _ _ hd⟩) (by simp [flat3]) rfl) ?_
  clear e1 e2 e3 e4 e5 s1 s2 s3 s4 s5 s14 s15 sA n12 n2 hc0 hc1 hc2 hp2
  rintro m σ H' ⟨s1, n2, n12, h1, h2, d1, d2, e, rfl⟩
  rename_i p2 a3 a4 a5 a6 us ws done stk
  walk_at "s"
  refine ⟨sl64 (by walk_at "z"), fun e0 he0 => ?_⟩
  have s2 := Same.new he0 (.lst [])
  have h1 := s2 _ _ h1
  have h2 := s2 _ _ h2
  have d1 := d1.tupK s2.tupK
  have d2 := d2.tupK s2.tupK
  have s1 := Same.tr s1 s2
  have he : (upd H' e0 (.lst [])) e0 = some (.lst []) := upd_same
  generalize upd H' e0 (.lst []) = H6 at *
  refine v_neE (ds := stk.map d3) (dv_list.mpr ⟨p2, _, rfl, SqL.of h2, d2.dvs⟩) he ?_
  walk_at "s"
  cases stk with
  | nil =>
    refine iteF ?_
    walk_at "s"
    have : done = wk ([], [], t) := by simpa [flat3] using e
    rw [this] at d1
    exact q p1 us H6 s1 hp1 h1 d1
  | cons x rest =>
    refine iteT ?_
    obtain ⟨y, ws', rfl, d3', d4⟩ := d2
    rw [flat3_cons] at e
    have hm : x ∈ wk ([], [], t) := by rw [← e]; simp
    have hxl := wkT_len [] [] (abv ([], [], t)) (by simp) t x hm
    have hdl := d1.length
    have hdw : done.length ≤ (wk ([], [], t)).length := by rw [← e, List.length_append]; omega
    have hwt : (wk ([], [], t)).length ≤ wt t := wkT_wt _ _ _ t
    refine ⟨fun σ' H'' => ∃ m', m' < (flat3 (x :: rest)).length ∧ Wlk K H v p1 t m' σ' H'', fun _ _ h => h, ?_⟩
    rw [flat3_cons]
    obtain ⟨xa, pa, na, pv, rfl, k1, k2, k3, k4⟩ := d3'
    walk_at "s"
    refine ⟨.inl ⟨rfl, _, SqL.of h2⟩, ?_⟩
    walk_at "s"
    refine v_pop0 h2 ?_
    have tk := tupK_lst (ys := ws') h2
    have s7 : Same H (upd H6 p2 (.lst ws')) := Same.put s1 n2 _
    have g1 : (upd H6 p2 (.lst ws')) p1 = some (.lst us) := by rw [upd_ne n12]; exact h1
    have g2 : (upd H6 p2 (.lst ws')) p2 = some (.lst ws') := upd_same
    have d1 := d1.tupK tk
    have d4 := d4.tupK tk
    have k1 := tk.1 _ _ k1
    have k2 := tk.1 _ _ k2
    have k3 := tk.1 _ _ k3
    have k4 := Dv.tupK tk _ _ (da_fix _) k4
    clear h1 h2 s1 s2 he
    generalize upd H6 p2 (.lst ws') = H7 at *
    refine ⟨xa, _, rfl, SqT.of k1, rfl, _, _, rfl, st_name ⟨_, _, rfl, st_name ⟨_, _, rfl, st_name ⟨rfl, ?_⟩⟩⟩⟩
    walk_at "s"
    refine ⟨.inl ⟨rfl, _, SqL.of g1⟩, ?_⟩
    walk_at "s"
    refine ⟨sl64 (by walk_at "z"), fun f0 hf0 => ?_⟩
    have s8 := Same.new hf0 (.tup [.ref pa, .ref na, pv])
    have g1 := s8 _ _ g1
    have g2 := s8 _ _ g2
    have d1 := d1.tupK s8.tupK
    have d4 := d4.tupK s8.tupK
    have k2 := s8 _ _ k2
    have k3 := s8 _ _ k3
    have k4 := Dv.same s8 _ _ k4
    have kf : (upd H7 f0 (.tup [.ref pa, .ref na, pv])) f0 = some (.tup [.ref pa, .ref na, pv]) := upd_same
    have s7 := Same.tr s7 s8
    generalize upd H7 f0 (.tup [.ref pa, .ref na, pv]) = H8 at *
    walk_at "s"
    refine v_append g1 (by rw [hdl, sizeLine_eq]; omega) ?_
    have tk := tupK_lst (ys := us ++ [.ref f0]) g1
    have s9 : Same H (upd H8 p1 (.lst (us ++ [.ref f0]))) := Same.put s7 hp1 _
    have g3 : (upd H8 p1 (.lst (us ++ [.ref f0]))) p1 = some (.lst (us ++ [.ref f0])) := upd_same
    have g2 : (upd H8 p1 (.lst (us ++ [.ref f0]))) p2 = some (.lst ws') := by rw [upd_ne (Ne.symm n12)]; exact g2
    have d4 := d4.tupK tk
    have k2 := tk.1 _ _ k2
    have k3 := tk.1 _ _ k3
    have k4 := Dv.tupK tk _ _ (da_fix _) k4
    have d1 : W3s K (upd H8 p1 (.lst (us ++ [.ref f0]))) (done ++ [x]) (us ++ [.ref f0]) := W3s.app (d1.tupK tk) (W3s.one ⟨f0, pa, na, pv, rfl, tk.1 _ _ kf, k2, k3, k4⟩)
    clear kf tk s7 s8 g1
    generalize upd H8 p1 (.lst (us ++ [.ref f0])) = H9 at *
    walk_at "s"
    refine isi_tr k4 ?_
    walk_at "s"
    obtain ⟨pl, ns, u⟩ := x
    cases u with
    | tx z =>
      refine iteF ?_
      walk_at "s"
      exact ⟨_, Nat.lt_succ_self _, .mk (done := done ++ [(pl, ns, .tx z)]) (stk := rest) s9 n2 n12 g3 g2 d1 d4 (by rw [← e]; simp [Tr.kids, kid3]) (by simp [Tr.kids, kid3])⟩
    | nd n ps =>
      refine iteT ?_
      walk_at "s"
      have hpl1 : pl.length + 1 ≤ wt t := by have := hxl.1; simpa using this
      have hns1 : ns.length + 1 ≤ wt t := by have := hxl.2; rw [show (abv ([], [], t)).length = 0 from rfl] at this; simpa using this
      refine ⟨sl64 (by walk_at "z"), fun e9 he9 => ?_⟩
      have s10 := Same.new he9 (.tup [])
      refine v_neM (d := .tuple (intD pl)) (e := .tuple []) (dv_tuple.mpr ⟨pa, _, rfl, SqT.of (s10 _ _ k2), dvs_intD.mpr rfl⟩) (dv_tuple.mpr ⟨e9, [], rfl, SqT.of upd_same, dvs_nil⟩) (Nat.le_trans (Nat.min_le_right _ _) (by decide)) ?_
      rw [eqv_unit]
      generalize upd H9 e9 (.tup []) = H10 at *
      walk_at "s"
      by_cases hpl0 : pl = []
      · have e0 : (!pl.isEmpty) = false := by rw [hpl0]; rfl
        rw [e0]
        refine iteF ?_
        walk_at "s"
        exact walk_D hz s9 s10 g3 g2 k2 (by rw [s10 _ _ k3]; unfold abv; rw [if_pos hpl0]) k4 d1 d4 e hpl1 fun p2 H'' w => ⟨_, Nat.lt_succ_self _, w⟩
      · have e0 : (!pl.isEmpty) = true := by cases pl with | nil => exact absurd rfl hpl0 | cons _ _ => rfl
        rw [e0]
        refine iteT ?_
        obtain ⟨ta, tb, us3, rfl, hta, htb, hd3⟩ := tr_parts k4
        walk_at "s"
        refine v_ixT (s10.sqT hta) (v := .str n) (atI_nat (j := 0) rfl) ?_
        walk_at "s"
        refine ⟨sl64 (by walk_at "z"), fun c9 hc9 => ?_⟩
        have s11 := Same.new hc9 (.tup [.str n])
        refine v_catH (s11 _ _ (s10 _ _ k3)) upd_same (by rw [strV_len]; exact sl64 (by show ns.length + 1 ≤ _; omega)) fun ab H12 s12 hab => ?_
        walk_at "s"
        exact walk_D hz s9 (Same.tr s10 (Same.tr s11 s12)) g3 g2 k2 (by rw [hab]; unfold abv; rw [if_neg hpl0, ← strV_app]; rfl) k4 d1 d4 e hpl1 fun p2 H'' w => ⟨_, Nat.lt_succ_self _, w⟩
end My
namespace My
open PySem L2
variable {K : PySem.W.Frag} {vs : List V} {H : Hp} {Q : VK} {E : XK}
mutual
noncomputable def wbK (pl : List Int) (ab : List Str) : Tr → List (T3 × Bool)
  | .tx _ => []
  | .nd _ ps => wbS pl ab 0 false ps
noncomputable def wbS (pl : List Int) (ab : List Str) (k : Nat) (bs : Bool) : List Tr → List (T3 × Bool)
  | [] => []
  | t :: ts => ((pl ++ [(k : Int)], ab, t), bs) :: (wbK (pl ++ [(k : Int)]) (ab ++ [nmOf t]) t ++ wbS pl ab (k + 1) t.isTx ts)
end
mutual
theorem wbK_wk (pl : List Int) (ns ab : List Str) : ∀ t : Tr, wkT pl ns ab t = (pl, ns, t) :: (wbK pl ab t).map (·.1)
  | .tx s => by rw [wkT, wbK]; rfl
  | .nd n ps => by rw [wkT, wbK, wbS_wk pl ab 0 false ps]
theorem wbS_wk (pl : List Int) (ab : List Str) (k : Nat) (bs : Bool) : ∀ ts : List Tr, wkS pl ab k ts = (wbS pl ab k bs ts).map (·.1)
  | [] => by rw [wkS, wbS]; rfl
  | t :: ts => by rw [wkS, wbS, wbK_wk (pl ++ [(k : Int)]) ab (ab ++ [nmOf t]) t, wbS_wk pl ab (k + 1) t.isTx ts, List.map_cons, List.map_append]; rfl
end
noncomputable def fOf (rs : List Row) (y : T3 × Bool) : List Int × Option Str := (y.1.1, faultF rs y.1.2.1 y.1.2.2 y.2)
mutual
theorem wbK_ff (rs : List Row) (pl : List Int) (ab : List Str) : ∀ t : Tr, ffk rs pl ab t = (wbK pl ab t).map (fOf rs)
  | .tx s => by rw [ffk, wbK]; rfl
  | .nd n ps => by rw [ffk, wbK, wbS_ff rs pl ab 0 false ps]
theorem wbS_ff (rs : List Row) (pl : List Int) (ab : List Str) (k : Nat) (bs : Bool) : ∀ ts : List Tr, ffs rs pl ab k bs ts = (wbS pl ab k bs ts).map (fOf rs)
  | [] => by rw [ffs, wbS]; rfl
  | t :: ts => by rw [ffs, wbS, wbK_ff rs (pl ++ [(k : Int)]) (ab ++ [nmOf t]) t, wbS_ff rs pl ab (k + 1) t.isTx ts, List.map_cons, List.map_append]; rfl
end
mutual
theorem wbK_way (t : Tr) (q : List Int) (ab : List Str) (ws : List Tr) : ∀ p : Tr, way t q = some (ws ++ [p]) → ∀ y ∈ wbK q ab p, ∃ ws', way t y.1.1 = some (ws' ++ [y.1.2.2])
  | .tx s, _, y, hy => by rw [wbK] at hy; cases hy
  | .nd n ps, hw, y, hy => by
    rw [wbK] at hy
    exact wbS_way t q ab ws (.nd n ps) hw [] ps rfl 0 false rfl y hy
theorem wbS_way (t : Tr) (q : List Int) (ab : List Str) (ws : List Tr) (p : Tr) (hw : way t q = some (ws ++ [p])) : ∀ (done ts : List Tr), p.kids = done ++ ts → ∀ (k : Nat) (bs : Bool), k = done.length → ∀ y ∈ wbS q ab k bs ts, ∃ ws', way t y.1.1 = some (ws' ++ [y.1.2.2])
  | done, [], _, k, bs, _, y, hy => by rw [wbS] at hy; cases hy
  | done, u :: us, hk, k, bs, hl, y, hy => by
    have ek : p.kids[k]? = some u := by rw [hk, hl]; simp
    have hw2 := way_snoc hw ek
    rw [wbS, List.mem_cons, List.mem_append] at hy
    rcases hy with rfl | hy | hy
    · exact ⟨ws ++ [p], hw2⟩
    · exact wbK_way t _ _ (ws ++ [p]) u hw2 y hy
    · exact wbS_way t q ab ws p hw (done ++ [u]) us (by rw [hk]; simp) (k + 1) u.isTx (by simp [hl]) y hy
end
def Sib (pl : List Int) (k : Nat) (bs : Bool) (L : List (T3 × Bool)) : Prop := ∀ (i : Nat) (y : T3 × Bool), L[i]? = some y → ∃ (q : List Int) (m : Nat), y.1.1 = q ++ [(m : Int)] ∧ ((m = 0 ∧ y.2 = false) ∨ (∃ m', m = m' + 1 ∧ ∃ z ∈ L.take i, z.1.1 = q ++ [(m' : Int)] ∧ z.1.2.2.isTx = y.2) ∨ (q = pl ∧ m = k ∧ y.2 = bs))
mutual
theorem wbK_sib (pl : List Int) (ab : List Str) : ∀ t : Tr, Sib pl 0 false (wbK pl ab t)
  | .tx s => by rw [wbK]; intro i y h; simp at h
  | .nd n ps => by rw [wbK]; exact wbS_sib pl ab 0 false ps
theorem wbS_sib (pl : List Int) (ab : List Str) (k : Nat) (bs : Bool) : ∀ ts : List Tr, Sib pl k bs (wbS pl ab k bs ts)
  | [] => by rw [wbS]; intro i y h; simp at h
  | t :: ts => by
    rw [wbS]
    intro i y h
    cases i with
    | zero => cases h; exact ⟨pl, k, rfl, .inr (.inr ⟨rfl, rfl, rfl⟩)⟩
    | succ i =>
      rw [List.getElem?_cons_succ] at h
      rw [List.take_succ_cons]
      by_cases hi : i < (wbK (pl ++ [(k : Int)]) (ab ++ [nmOf t]) t).length
      · rw [List.getElem?_append_left hi] at h
        obtain ⟨q, m, e, hc⟩ := wbK_sib (pl ++ [(k : Int)]) (ab ++ [nmOf t]) t i y h
        refine ⟨q, m, e, ?_⟩
        rcases hc with hc | ⟨m', h1, z, hz, h2⟩ | ⟨h1, h2, h3⟩
        · exact .inl hc
        · exact .inr (.inl ⟨m', h1, z, List.mem_cons_of_mem _ (by rw [List.take_append_of_le_length (by omega)]; exact hz), h2⟩)
        · exact .inl ⟨h2, h3⟩
      · rw [List.getElem?_append_right (by omega)] at h
        obtain ⟨q, m, e, hc⟩ := wbS_sib pl ab (k + 1) t.isTx ts _ y h
        refine ⟨q, m, e, ?_⟩
        rcases hc with hc | ⟨m', h1, z, hz, h2⟩ | ⟨h1, h2, h3⟩
        · exact .inl hc
        · exact .inr (.inl ⟨m', h1, z, List.mem_cons_of_mem _ (by rw [List.take_append]; exact List.mem_append.mpr (.inr hz)), h2⟩)
        · subst h1 h2
          exact .inr (.inl ⟨k, rfl, ((q ++ [(k : Int)], ab, t), bs), List.mem_cons_self, rfl, h3.symm⟩)
end
theorem way_last {t u w : Tr} {q : List Int} {ws ws' : List Tr} (h : way t q = some (ws ++ [u])) (g : way t q = some (ws' ++ [w])) : u = w := by
  rw [h] at g
  have := congrArg List.getLast? (Option.some.inj g)
  simpa using this
theorem way_neg {q : List Int} {t : Tr} {x : List Tr} (h : way t (q ++ [(-1 : Int)]) = some x) : False := by
  induction q generalizing t x with
  | nil => have := (way_cons h).1; omega
  | cons k q ih => obtain ⟨_, u, ws, _, h2, _⟩ := way_cons h; exact ih h2
noncomputable def ky (pl : List Int) : List Key := pl.map Sum.inl
theorem ky_kV (pl : List Int) : (ky pl).map kV = intV pl := by unfold ky intV; rw [List.map_map]; rfl
theorem ky_inj : ∀ {a b : List Int}, ky a = ky b → a = b
  | [], [], _ => rfl
  | [], _ :: _, h => by cases h
  | _ :: _, [], h => by cases h
  | x :: a, y :: b, h => by
    have h : (Sum.inl x :: ky a : List Key) = Sum.inl y :: ky b := h
    injection h with h1 h2
    rw [Sum.inl.inj h1, ky_inj h2]
theorem tupK_dT {d : Addr} {xs : List (List Key × V)} {o : HO} (h : H d = some (.dT xs)) : TupK H (upd H d o) :=
  ⟨fun b zs e => by rw [upd_ne (fun z => by rw [z, h] at e; cases e)]; exact e, fun b o zs e => by rw [upd_ne (fun z => by rw [z, h] at e; cases e)]; exact e⟩
noncomputable def oD : Option Str → PyData
  | none => .none
  | some r => .str r
theorem dv_oD (x : Option Str) : Dv K H (oD x) (oV x) := by cases x with | none => exact dv_none.mpr rfl | some r => exact dv_str.mpr rfl
noncomputable def fD (x : List Int × Option Str) : PyData := .tuple [oD x.2, .tuple (intD x.1)]
theorem oD_fix (x : Option Str) : fix (oD x) = true := by cases x <;> (unfold oD; rw [fix])
theorem fD_fix (x : List Int × Option Str) : fix (fD x) = true := by unfold fD; rw [fix, fixs, fixs, fixs, oD_fix, fix, intD_fix]; rfl
theorem fD_parts {x : List Int × Option Str} {v : V} (h : Dv K H (fD x) v) : ∃ a b, v = .ref a ∧ SqT K H a [oV x.2, .ref b] ∧ SqT K H b (intV x.1) := by
  obtain ⟨a, xs, rfl, ha, h⟩ := dv_tuple.mp h
  rw [Dvs] at h; obtain ⟨v1, r1, rfl, e1, h⟩ := h
  rw [Dvs] at h; obtain ⟨v2, r2, rfl, e2, h⟩ := h
  rw [Dvs] at h; subst h
  have e1 : v1 = oV x.2 := by
    cases e : x.2 with
    | none => rw [e] at e1; exact dv_none.mp e1
    | some r => rw [e] at e1; exact dv_str.mp e1
  subst e1
  obtain ⟨b, ys, rfl, hb, h⟩ := dv_tuple.mp e2
  rw [dvs_intD] at h; subst h
  exact ⟨a, b, rfl, ha, hb⟩
@[reducible] def T__law_faults_0 (K : PySem.W.Frag) : TS :=
 (tDrop (tBM K "list" rAppend (tVar 2) (tCons (tTup (tCons (tCall (sp__law_fault K) [] E0 (tCons (tVar 0) (tCons (tVar 6) (tCons (tVar 7) (tCons (tVar 8) tNil))))) (tCons (tVar 5) tNil))) tNil)))
@[reducible] def T__law_faults_1 (K : PySem.W.Frag) : TS :=
 (tSeq (tAsg (tDGet1 (tVar 4) (tOp (rAddB K) (tSl (rSlB K) (tVar 5) tNoPart (tPart (tUn (rU fun i => .int (-i)) (tC (.int 1))))) (tTup (tCons (tOp (rI0 fun i j => .int (i - j)) (tOp (rIxA K) (tVar 5) (tUn (rU fun i => .int (-i)) (tC (.int 1)))) (tC (.int 1))) tNil)))) (gName 8))
 (T__law_faults_0 K))
def faultsB (K : PySem.W.Frag) : TS :=
 (tIfS (tTest (tOp (rNeA K) (tVar 5) (tTup tNil)))
 (T__law_faults_1 K) tNext)
@[reducible] def T__law_faults_2 (K : PySem.W.Frag) : TS :=
 (tSeq (tAsg (tVar 7) (gSub (tVar 4) (tVar 5) rSetA))
 (faultsB K))
@[reducible] def T__law_faults_3 (K : PySem.W.Frag) : TS :=
 (tSeq (tFor (iAny K (tVar 3)) (gTup K 3 (gCons (gName 5) (gCons (gName 6) (gCons (gName 7) gNil))))
 (T__law_faults_2 K))
 (tRet (tVar 2)))
@[reducible] def T__law_faults_4 (K : PySem.W.Frag) : TS :=
 (tSeq (tAsg (tCall (sp__law_walk K) [] E0 (tCons (tVar 1) tNil)) (gName 3))
 (tSeq (tAsg tDNewT (gName 4))
 (T__law_faults_3 K)))
def sp__law_faults (K : PySem.W.Frag) : Sp := fun vs H Q _ => ∃ (bv v : V) (rs : List Row) (t : Tr), vs = [bv, v] ∧ BkS rs ∧ Rws K H bv rs ∧ rs.length ≤ 1000 ∧ Dv K H t.da v ∧ wt t ≤ 30000 ∧ hgt t ≤ 700 ∧ ∀ (p : Addr) (us : List V) (H' : Hp), Same H H' → H' p = some (.lst us) → Dvs K H' ((ffk rs [] [] t).map fD) us → Q (.ref p) H'
theorem len__law_faults (K : PySem.W.Frag) : ∀ vs H Q E, sp__law_faults K vs H Q E → vs.length = ["_law_book_here", "_law_tree"].length := by rintro vs H Q E ⟨bv, v, rs, t, rfl, _⟩; rfl
def R__law_faults (K : PySem.W.Frag) : TS :=
 (tSeq (tAsg (tLst tNil) (gName 2))
 (T__law_faults_4 K))
structure Flt (K : PySem.W.Frag) (H : Hp) (du wd dc : Addr) (rs : List Row) (t : Tr) (us ds : List V) (kvs : List (List Key × V)) (i : Nat) (H' : Hp) : Prop where
  s : Same H H'
  h1 : H' du = some (.lst ds)
  h2 : H' wd = some (.lst us)
  h3 : H' dc = some (.dT kvs)
  w : W3s K H' (wk ([], [], t)) us
  d : Dvs K H' (((ffk rs [] [] t).take i).map fD) ds
  A : ∀ pl w, valV kvs (ky pl) = some w → ∃ ws u, way t pl = some (ws ++ [u]) ∧ Dv K H' u.da w
theorem Flt.same {H H' H'' : Hp} {du wd dc : Addr} {rs : List Row} {t : Tr} {us ds : List V} {kvs : List (List Key × V)} {i : Nat} (f : Flt K H du wd dc rs t us ds kvs i H') (s : Same H' H'') : Flt K H du wd dc rs t us ds kvs i H'' :=
  ⟨Same.tr f.s s, s _ _ f.h1, s _ _ f.h2, s _ _ f.h3, f.w.tupK s.tupK, Dvs.same s _ _ f.d, fun pl w h => by obtain ⟨ws, u, h1, h2⟩ := f.A pl w h; exact ⟨ws, u, h1, Dv.same s _ _ h2⟩⟩
theorem Flt.put {H H' : Hp} {du wd dc : Addr} {rs : List Row} {t : Tr} {us ds : List V} {kvs : List (List Key × V)} {i : Nat} {y : T3} {pv : V} (f : Flt K H du wd dc rs t us ds kvs i H') (h0 : H dc = none) (n1 : du ≠ dc) (n2 : wd ≠ dc) (hw : ∃ ws, way t y.1 = some (ws ++ [y.2.2])) (k : Dv K H' y.2.2.da pv) :
    Flt K H du wd dc rs t us ds (putK kvs (ky y.1) pv) i (upd H' dc (.dT (putK kvs (ky y.1) pv))) := by
  have tk := tupK_dT (o := .dT (putK kvs (ky y.1) pv)) f.h3
  refine ⟨Same.put f.s h0 _, by rw [upd_ne n1]; exact f.h1, by rw [upd_ne n2]; exact f.h2, upd_same, f.w.tupK tk, Dvs.tupK tk _ _ (fixs_map fD_fix _) f.d, fun pl w h => ?_⟩
  rw [valV_put] at h
  by_cases e : ky pl = ky y.1
  · rw [if_pos e] at h
    cases h
    obtain ⟨ws, hw⟩ := hw
    rw [ky_inj e]
    exact ⟨ws, _, hw, Dv.tupK tk _ _ (da_fix _) k⟩
  · rw [if_neg e] at h
    obtain ⟨ws, u, h1, h2⟩ := f.A pl w h
    exact ⟨ws, u, h1, Dv.tupK tk _ _ (da_fix _) h2⟩
theorem Flt.add {H H' : Hp} {du wd dc : Addr} {rs : List Row} {t : Tr} {us ds : List V} {kvs : List (List Key × V)} {i : Nat} {yb : T3 × Bool} {pa c4 : Addr} (f : Flt K H du wd dc rs t us ds kvs i H') (h0 : H du = none) (n1 : du ≠ dc) (n2 : du ≠ wd) (hff : (ffk rs [] [] t)[i]? = some (fOf rs yb)) (hc : H' c4 = some (.tup [oV (faultF rs yb.1.2.1 yb.1.2.2 yb.2), .ref pa])) (hp : H' pa = some (.tup (intV yb.1.1))) :
    Flt K H du wd dc rs t us (ds ++ [.ref c4]) kvs (i + 1) (upd H' du (.lst (ds ++ [.ref c4]))) := by
  have tk := tupK_lst (ys := ds ++ [.ref c4]) f.h1
  refine ⟨Same.put f.s h0 _, upd_same, by rw [upd_ne (Ne.symm n2)]; exact f.h2, by rw [upd_ne (Ne.symm n1)]; exact f.h3, f.w.tupK tk, ?_, fun pl w h => ?_⟩
  · rw [List.take_add_one, hff, List.map_append]
    refine Dvs.append (Dvs.tupK tk _ _ (fixs_map fD_fix _) f.d) (Dvs.one ?_)
    unfold fD fOf
    exact dv_tuple.mpr ⟨c4, _, rfl, SqT.of (tk.1 _ _ hc), dvs_cons (dv_oD _) (dvs_cons (dv_tuple.mpr ⟨pa, _, rfl, SqT.of (tk.1 _ _ hp), dvs_intD.mpr rfl⟩) dvs_nil)⟩
  · obtain ⟨ws, u, h1, h2⟩ := f.A pl w h
    exact ⟨ws, u, h1, Dv.tupK tk _ _ (da_fix _) h2⟩
theorem Flt.ahd {H H' : Hp} {du wd dc : Addr} {rs : List Row} {t : Tr} {us ds : List V} {kvs : List (List Key × V)} {i k : Nat} {yb : T3 × Bool} {qq : List Int} {m : Nat} (f : Flt K H du wd dc rs t us ds kvs k H') (uB : ∀ x ∈ (wk ([], [], t)).take (i + 1 + 1), ∃ w, valV kvs (ky x.1) = some w)
    (hc : (m = 0 ∧ yb.2 = false) ∨ (∃ m', m = m' + 1 ∧ ∃ z ∈ (wbK [] [] t).take i, z.1.1 = qq ++ [(m' : Int)] ∧ z.1.2.2.isTx = yb.2)) : Ahd K H' ((valV kvs (ky (qq ++ [(m : Int) - 1]))).getD .non) yb.2 := by
  rcases hc with ⟨rfl, h2⟩ | ⟨m', rfl, z, hz, h3, h4⟩
  · cases e : valV kvs (ky (qq ++ [((0 : Nat) : Int) - 1])) with
    | none => exact .inl ⟨rfl, h2⟩
    | some w =>
      obtain ⟨ws, u, h5, _⟩ := f.A _ _ e
      exact (way_neg h5).elim
  · have em : (((m' + 1 : Nat) : Int) - 1) = (m' : Int) := by omega
    rw [em]
    have hwk : wk ([], [], t) = ([], [], t) :: (wbK [] [] t).map (·.1) := wbK_wk [] [] [] t
    obtain ⟨w, hw⟩ := uB z.1 (by
      rw [hwk, List.take_succ_cons]
      refine List.mem_cons_of_mem _ ?_
      rw [← List.map_take]
      refine List.mem_map_of_mem ?_
      rw [List.take_add_one]
      exact List.mem_append.mpr (.inl hz))
    rw [h3] at hw
    rw [hw]
    obtain ⟨ws, u, h5, h6⟩ := f.A _ _ hw
    obtain ⟨ws', h7⟩ := wbK_way t [] [] [] t (by rw [way]; rfl) z (List.mem_of_mem_take hz)
    rw [h3] at h7
    have := way_last h5 h7
    exact .inr ⟨u, h6, by rw [this]; exact h4⟩
theorem walk_way {t : Tr} {y : T3} (hm : y ∈ wk ([], [], t)) : ∃ ws, way t y.1 = some (ws ++ [y.2.2]) := by
  rw [show wk ([], [], t) = ([], [], t) :: (wbK [] [] t).map (·.1) from wbK_wk [] [] [] t, List.mem_cons] at hm
  rcases hm with rfl | hm
  · exact ⟨[], by rw [way]; rfl⟩
  · obtain ⟨w, hw, rfl⟩ := List.mem_map.mp hm
    exact wbK_way t [] [] [] t (by rw [way]; rfl) w hw
inductive Fli (K : PySem.W.Frag) (H : Hp) (bv v : V) (du wd dc : Addr) (rs : List Row) (t : Tr) (us : List V) (i : Nat) : St → Hp → Prop
  | mk {H' : Hp} {a5 a6 a7 a8 : Option V} {ds : List V} {kvs : List (List Key × V)} (f : Flt K H du wd dc rs t us ds kvs (i - 1) H') (l : kvs.length ≤ i) (b : ∀ x ∈ (wk ([], [], t)).take i, ∃ w, valV kvs (ky x.1) = some w) : Fli K H bv v du wd dc rs t us i [some bv, some v, some (.ref du), some (.ref wd), some (.ref dc), a5, a6, a7, a8] H'
theorem rd__law_faults (h : sp__law_faults K vs H Q E) : R__law_faults K { nx := fun _ H' => Q .non H', rt := Q } (start ["_law_book_here", "_law_tree", "_law_due", "_law_walked", "_law_parts", "_law_place", "_law_names", "_law_part", "_law_ahead"] vs) H := by
  obtain ⟨bv, v, rs, t, rfl, B, hR, hrl, hd, hz, hh, q⟩ := h
  show R__law_faults K _ [some bv, some v, none, none, none, none, none, none, none] H
  unfold R__law_faults
  walk_at "s"
  refine ⟨sl64 (by walk_at "z"), fun du hdu => ?_⟩
  have s1 := Same.new hdu (.lst [])
  have e1 : (upd H du (.lst [])) du = some (.lst []) := upd_same
  generalize upd H du (.lst []) = H1 at *
  walk_at "s"
  refine ⟨t, v, rfl, Dv.same s1 _ _ hd, by omega, fun wd us H2 s2 nwd hwd w3 => ?_⟩
  walk_at "s"
  intro dc hdc
  have s3 := Same.new hdc (.dT [])
  have e3 : (upd H2 dc (.dT [])) dc = some (.dT []) := upd_same
  have ndd : du ≠ dc := ne_free (s2 _ _ e1) hdc
  have ndw : du ≠ wd := fun z => by rw [← z, e1] at nwd; cases nwd
  have ncw : wd ≠ dc := ne_free hwd hdc
  have e1 := s3 _ _ (s2 _ _ e1)
  have ndc0 : H dc = none := none_of (Same.tr s1 s2) hdc
  have hwd := s3 _ _ hwd
  have w3 := w3.tupK s3.tupK
  have s13 := Same.tr s1 (Same.tr s2 s3)
  generalize upd H2 dc (.dT []) = H3 at *
  have hul := w3.length
  have hwk : wk ([], [], t) = ([], [], t) :: (wbK [] [] t).map (·.1) := wbK_wk [] [] [] t
  have hwl : (wk ([], [], t)).length ≤ wt t := wkT_wt _ _ _ t
  walk_at "s"
  refine ⟨wd, rfl, .inl ⟨⟨us, SqL.of hwd⟩, for_list (xs := us) (Fli K H bv v du wd dc rs t us) (.mk (ds := []) (kvs := []) ⟨s13, e1, hwd, e3, w3, dvs_nil, fun pl w h => by simp [valV_nil] at h⟩ (Nat.zero_le _) (by simp)) (fun i σ H' hi p => by cases p with | mk f l b => exact SqL.of f.h2) ?_ ?_⟩⟩
  · clear e1 hwd e3 w3 s13 s1 s2 s3
    rintro i x σ H' hx ⟨f, l, b⟩
    rename_i a5 a6 a7 a8 ds kvs
    obtain ⟨y, hy, wy⟩ := f.w.get hx
    obtain ⟨xa, pa, na, pv, rfl, k1, k2, k3, k4⟩ := wy
    have hil : i < (wk ([], [], t)).length := (List.getElem?_eq_some_iff.mp hy).1
    have hylen := wkT_h [] [] (abv ([], [], t)) (by simp) t y (List.mem_of_getElem? hy)
    rw [show (abv ([], [], t)).length = 0 from rfl] at hylen
    simp only [List.length_nil, Nat.zero_add] at hylen
    refine ⟨xa, _, rfl, SqT.of k1, rfl, _, _, rfl, st_name ⟨_, _, rfl, st_name ⟨_, _, rfl, st_name ⟨rfl, ?_⟩⟩⟩⟩
    walk_at "s"
    refine .inr ⟨dc, _, rfl, DPut.t (k := ky y.1) f.h3 (by rw [k2, ky_kV]) (by rw [sizeLine_eq]; omega), ?_⟩
    have tk := tupK_dT (o := .dT (putK kvs (ky y.1) pv)) f.h3
    have f := f.put ndc0 ndd ncw (walk_way (List.mem_of_getElem? hy)) k4
    have k2 := tk.1 _ _ k2
    have k3 := tk.1 _ _ k3
    have k4 := Dv.tupK tk _ _ (da_fix _) k4
    have uB : ∀ x ∈ (wk ([], [], t)).take (i + 1), ∃ w, valV (putK kvs (ky y.1) pv) (ky x.1) = some w := by
      intro x hx
      rw [valV_put]
      by_cases e : ky x.1 = ky y.1
      · rw [if_pos e]; exact ⟨_, rfl⟩
      · rw [if_neg e]
        rw [List.take_add_one, hy] at hx
        rcases List.mem_append.mp hx with hx | hx
        · exact b x hx
        · have : x = y := by simpa using hx
          rw [this] at e; exact absurd rfl e
    have uL : (putK kvs (ky y.1) pv).length ≤ i + 1 := by
      unfold putK
      split
      · rw [List.length_map]; omega
      · rw [List.length_append, List.length_singleton]; omega
    clear b l k1 tk
    generalize putK kvs (ky y.1) pv = kvs' at *
    generalize upd H' dc (.dT kvs') = H4 at *
    unfold faultsB
    walk_at "s"
    refine ⟨sl64 (by walk_at "z"), fun e0 he0 => ?_⟩
    have s4 := Same.new he0 (.tup [])
    refine v_neM (d := .tuple (intD y.1)) (e := .tuple []) (dv_tuple.mpr ⟨pa, _, rfl, SqT.of (s4 _ _ k2), dvs_intD.mpr rfl⟩) (dv_tuple.mpr ⟨e0, [], rfl, SqT.of upd_same, dvs_nil⟩) (Nat.le_trans (Nat.min_le_right _ _) (by decide)) ?_
    rw [eqv_unit]
    have f := f.same s4
    have k2 := s4 _ _ k2
    have k3 := s4 _ _ k3
    have k4 := Dv.same s4 _ _ k4
    clear s4
    generalize upd H4 e0 (.tup []) = H5 at *
    walk_at "s"
    cases i with
    | zero =>
      rw [hwk] at hy
      cases hy
      refine iteF ?_
      walk_at "s"
      exact .mk f uL uB
    | succ i =>
      rw [hwk, List.getElem?_cons_succ, List.getElem?_map] at hy
      obtain ⟨yb, hyb, rfl⟩ := Option.map_eq_some_iff.mp hy
      obtain ⟨qq, m, eq, hc⟩ := wbK_sib [] [] t i yb hyb
      have e0 : (!yb.1.1.isEmpty) = true := by rw [eq]; cases qq <;> rfl
      rw [e0]
      refine iteT ?_
      have hc : (m = 0 ∧ yb.2 = false) ∨ (∃ m', m = m' + 1 ∧ ∃ z ∈ (wbK [] [] t).take i, z.1.1 = qq ++ [(m' : Int)] ∧ z.1.2.2.isTx = yb.2) := by
        rcases hc with hc | hc | ⟨_, h2, h3⟩
        · exact .inl hc
        · exact .inr hc
        · exact .inl ⟨h2, h3⟩
      have hff : (ffk rs [] [] t)[i]? = some (fOf rs yb) := by rw [wbK_ff, List.getElem?_map, hyb]; rfl
      have k2' : H5 pa = some (.tup (intV (qq ++ [(m : Int)]))) := by rw [← eq]; exact k2
      rw [eq, List.length_append, List.length_singleton] at hylen
      walk_at "s"
      unfold tDGet1
      walk_at "s"
      refine ⟨dc, rfl, .inr ⟨kvs', .inl f.h3⟩, ?_⟩
      walk_at "s"
      refine ⟨1, rfl, ?_⟩
      walk_at "s"
      refine v_slH k2' fun c1 H6 s6 hc1 => ?_
      rw [intV_snoc, cut_last] at hc1
      walk_at "s"
      refine ⟨1, rfl, ?_⟩
      refine v_ixT (SqT.of (s6 _ _ k2')) (v := .int m) (atI_last (n := (intV qq).length) (by rw [intV_snoc]; simp) (by rw [intV_snoc]; simp)) ?_
      walk_at "s"
      refine ⟨sl64 (by walk_at "z"), fun c2 hc2 => ?_⟩
      have s7 := Same.new hc2 (.tup [.int ((m : Int) - 1)])
      refine v_catH (s7 _ _ hc1) upd_same (by rw [intV_len]; exact sl64 (by show qq.length + 1 ≤ _; omega)) fun c3 H8 s8 hc3 => ?_
      have hc3 : H8 c3 = some (.tup ((ky (qq ++ [(m : Int) - 1])).map kV)) := by rw [ky_kV, hc3, intV_snoc]
      have s58 : Same H5 H8 := Same.tr s6 (Same.tr s7 s8)
      have f := f.same s58
      have k2 := s58 _ _ k2
      have k3 := s58 _ _ k3
      have k4 := Dv.same s58 _ _ k4
      clear s58 s6 s7 s8 k2' hc1
      refine ⟨_, DGet.t f.h3 hc3, ?_⟩
      have hah := f.ahd uB hc
      generalize (valV kvs' (ky (qq ++ [(m : Int) - 1]))).getD .non = av at *
      walk_at "s"
      refine ⟨.inl ⟨rfl, _, SqL.of f.h1⟩, ?_⟩
      walk_at "s"
      refine ⟨bv, na, pv, av, rs, yb.1.2.1, yb.1.2.2, yb.2, rfl, B, hR.same f.s, hrl, SqT.of k3, by omega, k4, hah, fun H9 s9 => ?_⟩
      walk_at "s"
      refine ⟨sl64 (by walk_at "z"), fun c4 hc4 => ?_⟩
      have s10 := Same.new hc4 (.tup [oV (faultF rs yb.1.2.1 yb.1.2.2 yb.2), .ref pa])
      have e10 : (upd H9 c4 (.tup [oV (faultF rs yb.1.2.1 yb.1.2.2 yb.2), .ref pa])) c4 = some (.tup [oV (faultF rs yb.1.2.1 yb.1.2.2 yb.2), .ref pa]) := upd_same
      generalize upd H9 c4 (.tup [oV (faultF rs yb.1.2.1 yb.1.2.2 yb.2), .ref pa]) = H10 at *
      have f := f.same (Same.tr s9 s10)
      have k2 := s10 _ _ (s9 _ _ k2)
      have hdsl : ds.length ≤ i := by
        have := f.d.length
        rw [List.length_map, List.length_take, Nat.add_sub_cancel] at this
        omega
      walk_at "s"
      refine v_append f.h1 (by rw [sizeLine_eq]; omega) ?_
      exact .mk (f.add hdu ndd ndw hff e10 k2) uL uB
  · rintro σ H' ⟨f, l, b⟩
    walk_at "s"
    refine q du _ H' f.s f.h1 ?_
    have z6 := f.d
    have hlen : (ffk rs [] [] t).length = us.length - 1 := by rw [hul, hwk, wbK_ff]; simp
    rw [List.take_of_length_le (by omega)] at z6
    exact z6
end My
namespace My
open PySem L2
variable {K : PySem.W.Frag} {vs : List V} {H : Hp} {Q : VK} {E : XK}
@[reducible] def T__law_first_0 (K : PySem.W.Frag) : TS :=
 (tIfS (tTest (tOp rIsNotA (tVar 2) (tC .non)))
 (tRet (tTup (tCons (tVar 2) (tCons (tVar 3) tNil)))) tNext)
def sp__law_first (K : PySem.W.Frag) : Sp := fun vs H Q _ => ∃ (bv v : V) (rs : List Row) (t : Tr), vs = [bv, v] ∧ BkS rs ∧ Rws K H bv rs ∧ rs.length ≤ 1000 ∧ Dv K H t.da v ∧ wt t ≤ 30000 ∧ hgt t ≤ 700 ∧ ∀ (x : V) (H' : Hp), Same H H' → fltV K H' (firstF (ffk rs [] [] t)) x → Q x H'
theorem len__law_first (K : PySem.W.Frag) : ∀ vs H Q E, sp__law_first K vs H Q E → vs.length = ["_law_book_here", "_law_tree"].length := by rintro vs H Q E ⟨bv, v, rs, t, rfl, _⟩; rfl
def R__law_first (K : PySem.W.Frag) : TS :=
 (tSeq (tFor (iAny K (tCall (sp__law_faults K) [] E0 (tCons (tVar 0) (tCons (tVar 1) tNil)))) (gTup K 2 (gCons (gName 2) (gCons (gName 3) gNil)))
 (T__law_first_0 K))
 (tRet (tC .non)))
theorem rd__law_first (h : sp__law_first K vs H Q E) : R__law_first K { nx := fun _ H' => Q .non H', rt := Q } (start ["_law_book_here", "_law_tree", "_law_rule", "_law_place"] vs) H := by
  obtain ⟨bv, v, rs, t, rfl, B, hR, hrl, hd, hz, hh, q⟩ := h
  show R__law_first K _ [some bv, some v, none, none] H
  unfold R__law_first
  walk_at "s"
  refine ⟨bv, v, rs, t, rfl, B, hR, hrl, hd, hz, hh, fun p us H1 s1 hp dv => ?_⟩
  have hul : us.length = (ffk rs [] [] t).length := by have := dv.length; rw [List.length_map] at this; exact this
  let Pv0 : Nat → St → Hp → Prop := fun i σ H' => H' = H1 ∧ (∃ (a2 a3 : Option V), σ = [some bv, some v, a2, a3]) ∧ ∀ y ∈ (ffk rs [] [] t).take i, y.2 = none
  refine any_forS (H0 := H1) (xs := us) (.inl (SqL.of hp)) (fun _ _ e => e) Pv0 ⟨rfl, ⟨_, _, rfl⟩, by simp⟩ (fun i σ H' p => p.1 ▸ fun _ _ e => e) ?_ ?_
  · rintro i x σ H' hx ⟨rfl, ⟨a2, a3, rfl⟩, hn⟩
    obtain ⟨d, h1, h2⟩ := dv.get' hx
    rw [List.getElem?_map] at h1
    obtain ⟨y, hy, rfl⟩ := Option.map_eq_some_iff.mp h1
    obtain ⟨a, pb, rfl, ha, hb⟩ := fD_parts h2
    refine ⟨a, _, rfl, ha, rfl, _, _, rfl, st_name ⟨_, _, rfl, st_name ⟨rfl, ?_⟩⟩⟩
    walk_at "s"
    rw [oV_non]
    cases e : y.2 with
    | none =>
      refine iteF ?_
      walk_at "s"
      exact ⟨rfl, ⟨_, _, rfl⟩, take_all hy hn e⟩
    | some r =>
      refine iteT ?_
      walk_at "s"
      refine ⟨sl64 (by walk_at "z"), fun c hc => ?_⟩
      have s2 := Same.new hc (.tup [.str r, .ref pb])
      refine q _ _ (Same.tr s1 s2) ?_
      rw [firstF_none hn hy e]
      exact dv_tuple.mpr ⟨c, _, rfl, SqT.of upd_same, dvs_cons (dv_str.mpr rfl) (dvs_cons (dv_tuple.mpr ⟨pb, _, rfl, s2.sqT hb, dvs_intD.mpr rfl⟩) dvs_nil)⟩
  · rintro σ H' ⟨rfl, ⟨a2, a3, rfl⟩, hn⟩
    walk_at "s"
    refine q _ _ s1 ?_
    rw [hul, List.take_length] at hn
    rw [firstF_all hn]
    rfl
def sp__law_whole (K : PySem.W.Frag) : Sp := fun vs H Q _ => ∃ i : Int, vs = [.int i] ∧ Q (.bl true) H
theorem len__law_whole (K : PySem.W.Frag) : ∀ vs H Q E, sp__law_whole K vs H Q E → vs.length = ["_law_found"].length := by rintro vs H Q E ⟨i, rfl, _⟩; rfl
def R__law_whole (K : PySem.W.Frag) : TS :=
 (tRet (tAndV (tCB (rIsi K) (tCons (tVar 0) (tCons (tC (.ty "int")) tNil))) (tNotV (tCB (rIsi K) (tCons (tVar 0) (tCons (tC (.ty "bool")) tNil))))))
theorem rd__law_whole (h : sp__law_whole K vs H Q E) : R__law_whole K { nx := fun _ H' => Q .non H', rt := Q } (start ["_law_found"] vs) H := by
  obtain ⟨i, rfl, q⟩ := h
  show R__law_whole K _ [some (.int i)] H
  unfold R__law_whole
  walk_at "s"
  refine v_isi (.int _) (b := true) rfl ?_
  refine ⟨true, rfl, ?_⟩
  refine iteT ?_
  walk_at "s"
  refine v_isi (.int _) (b := false) rfl ?_
  exact ⟨false, rfl, q⟩
theorem cut_take {xs : List V} {m : Int} (h : 0 ≤ m) : cutV xs none (some m) = xs.take m.toNat := by
  unfold cutV
  show (xs.drop 0).take (HT.sIx xs.length xs.length (some m) - 0) = _
  rw [List.drop_zero, Nat.sub_zero]
  have e : HT.sIx xs.length xs.length (some m) = min m.toNat xs.length := by
    show (if m < 0 then _ else min m.toNat xs.length) = _
    rw [if_neg (by omega)]
  rw [e]
  by_cases hl : m.toNat ≤ xs.length
  · rw [Nat.min_eq_left hl]
  · rw [Nat.min_eq_right (by omega), List.take_length, List.take_of_length_le (by omega)]
theorem cut_drop {xs : List V} {m : Int} (h : 0 ≤ m) : cutV xs (some m) none = xs.drop m.toNat := by
  unfold cutV
  have e : HT.sIx xs.length 0 (some m) = min m.toNat xs.length := by
    show (if m < 0 then _ else min m.toNat xs.length) = _
    rw [if_neg (by omega)]
  show (xs.drop (HT.sIx xs.length 0 (some m))).take (xs.length - HT.sIx xs.length 0 (some m)) = _
  rw [e]
  by_cases hl : m.toNat ≤ xs.length
  · rw [Nat.min_eq_left hl, List.take_of_length_le (by rw [List.length_drop]; exact Nat.le_refl _)]
  · rw [Nat.min_eq_right (by omega), List.drop_length, List.drop_eq_nil_of_le (by omega), List.take_nil]
theorem dvs_take : ∀ {ds : List PyData} {us : List V} (k : Nat), Dvs K H ds us → Dvs K H (ds.take k) (us.take k)
  | _, _, 0, _ => by rw [List.take_zero, List.take_zero]; exact dvs_nil
  | [], us, k + 1, h => by rw [Dvs] at h; subst h; exact dvs_nil
  | d :: ds, us, k + 1, h => by rw [Dvs] at h; obtain ⟨v, r, rfl, h1, h2⟩ := h; exact dvs_cons h1 (dvs_take k h2)
theorem dvs_drop : ∀ {ds : List PyData} {us : List V} (k : Nat), Dvs K H ds us → Dvs K H (ds.drop k) (us.drop k)
  | _, _, 0, h => by rw [List.drop_zero, List.drop_zero]; exact h
  | [], us, k + 1, h => by rw [Dvs] at h; subst h; exact dvs_nil
  | d :: ds, us, k + 1, h => by rw [Dvs] at h; obtain ⟨v, r, rfl, h1, h2⟩ := h; exact dvs_drop k h2
theorem das_take (ts : List Tr) (k : Nat) : Tr.das (ts.take k) = (Tr.das ts).take k := by rw [das_map, das_map, List.map_take]
theorem das_drop (ts : List Tr) (k : Nat) : Tr.das (ts.drop k) = (Tr.das ts).drop k := by rw [das_map, das_map, List.map_drop]
theorem das_app2 (a b : List Tr) : Tr.das (a ++ b) = Tr.das a ++ Tr.das b := by rw [das_map, das_map, das_map, List.map_append]
noncomputable def putP : Tr → List Int → List Tr → Tr
  | .tx s, _, _ => .tx s
  | .nd n _, [], ps => .nd n ps
  | .nd n qs, k :: pl, ps => .nd n (qs.take k.toNat ++ [putP ((qs[k.toNat]?).getD (.tx "")) pl ps] ++ qs.drop (k.toNat + 1))
def putB (K : PySem.W.Frag) : TS :=
 (tRet (tTup (tCons (tOp (rIxA K) (tVar 0) (tC (.int 0))) (tCons (tOp (rAddB K) (tOp (rAddB K) (tSl (rSlB K) (tOp (rIxA K) (tVar 0) (tC (.int 1))) tNoPart (tPart (tVar 3))) (tTup (tCons (tVar 4) tNil))) (tSl (rSlB K) (tOp (rIxA K) (tVar 0) (tC (.int 1))) (tPart (tOp (rAddB K) (tVar 3) (tC (.int 1)))) tNoPart)) tNil))))
@[reducible] def T__law_put_parts_1 (K : PySem.W.Frag) (spr : Sp) : TS :=
 (tSeq (tAsg (tCall spr [] E0 (tCons (tOp (rIxA K) (tOp (rIxA K) (tVar 0) (tC (.int 1))) (tVar 3)) (tCons (tSl (rSlB K) (tVar 1) (tPart (tC (.int 1))) tNoPart) (tCons (tVar 2) tNil)))) (gName 4))
 (putB K))
def spn__law_put_parts (n : Nat) (K : PySem.W.Frag) : Sp := fun vs H Q _ => ∃ (tv : V) (pa qa : Addr) (t u : Tr) (pl : List Int) (ws ps : List Tr) (qs : List V), vs = [tv, .ref pa, .ref qa] ∧ Dv K H t.da tv ∧ SqT K H pa (intV pl) ∧ way t pl = some (ws ++ [u]) ∧ u.isTx = false ∧ pl.length ≤ n ∧ SqT K H qa qs ∧ Dvs K H (Tr.das ps) qs ∧ wt t ≤ 30000 ∧ ∀ (x : V) (H' : Hp), Same H H' → Dv K H' (putP t pl ps).da x → Q x H'
def sp__law_put_parts (K : PySem.W.Frag) : Sp := spn__law_put_parts 12 K
def prev__law_put_parts (K : PySem.W.Frag) : Nat → Sp
  | 0 => fun _ _ _ _ => False
  | n + 1 => spn__law_put_parts n K
theorem len__law_put_parts (K : PySem.W.Frag) (n : Nat) : ∀ vs H Q E, spn__law_put_parts n K vs H Q E → vs.length = ["_law_tree", "_law_place", "_law_parts"].length := by rintro vs H Q E ⟨tv, pa, qa, t, u, pl, ws, ps, qs, rfl, _⟩; rfl
def R__law_put_parts (K : PySem.W.Frag) (spr : Sp) : TS :=
 (tSeq (tIfS (tTest (tOp (rEqA K) (tVar 1) (tTup tNil)))
 (tRet (tTup (tCons (tOp (rIxA K) (tVar 0) (tC (.int 0))) (tCons (tVar 2) tNil)))) tNext)
 (tSeq (tAsg (tOp (rIxA K) (tVar 1) (tC (.int 0))) (gName 3))
 (T__law_put_parts_1 K spr)))
theorem rd__law_put_parts (n : Nat) (h : spn__law_put_parts n K vs H Q E) : R__law_put_parts K (prev__law_put_parts K n) { nx := fun _ H' => Q .non H', rt := Q } (start ["_law_tree", "_law_place", "_law_parts", "_law_k", "_law_inner"] vs) H := by
  obtain ⟨tv, pa, qa, t, u, pl, ws, ps, qs, rfl, hd, hpa, hw, hu, hn, hqa, dq, hz, q⟩ := h
  show R__law_put_parts K _ _ [some tv, some (.ref pa), some (.ref qa), none, none] H
  unfold R__law_put_parts
  walk_at "s"
  refine ⟨sl64 (by walk_at "z"), fun e0 he0 => ?_⟩
  have s1 := Same.new he0 (.tup [])
  refine v_eqM (d := .tuple (intD pl)) (e := .tuple []) (dv_tuple.mpr ⟨pa, _, rfl, s1.sqT hpa, dvs_intD.mpr rfl⟩) (dv_tuple.mpr ⟨e0, [], rfl, SqT.of upd_same, dvs_nil⟩) (Nat.le_trans (Nat.min_le_right _ _) (by decide)) ?_
  rw [eqv_unit]
  generalize upd H e0 (.tup []) = H1 at *
  have hd := Dv.same s1 _ _ hd
  have hpa := s1.sqT hpa
  have hqa := s1.sqT hqa
  have dq := Dvs.same s1 _ _ dq
  walk_at "s"
  cases pl with
  | nil =>
    refine iteT ?_
    have hw2 : t = u := by
      rw [way] at hw
      have := congrArg List.getLast? (Option.some.inj hw)
      simpa using this
    subst hw2
    cases t with
    | tx s => cases hu
    | nd m ts =>
      obtain ⟨ta, tb, us, rfl, hta, htb, _⟩ := tr_parts hd
      walk_at "s"
      refine v_ixT hta (v := .str m) (atI_nat (j := 0) rfl) ?_
      walk_at "s"
      refine ⟨sl64 (by walk_at "z"), fun c hc => ?_⟩
      have s2 := Same.new hc (.tup [.str m, .ref qa])
      refine q _ _ (Same.tr s1 s2) ?_
      rw [putP]
      exact da_nd (SqT.of upd_same) (s2.sqT hqa) (Dvs.same s2 _ _ dq)
  | cons k pl =>
    refine iteF ?_
    obtain ⟨h0, w, ws', h1, h2, h3⟩ := way_cons hw
    cases t with
    | tx s => cases h1
    | nd m ts =>
      have h1 : ts[k.toNat]? = some w := h1
      have hk : k.toNat < ts.length := (List.getElem?_eq_some_iff.mp h1).1
      have hwts : wts ts ≤ 30000 := by rw [wt] at hz; omega
      have htl := wts_len ts
      obtain ⟨ta, tb, us, rfl, hta, htb, hd2⟩ := tr_parts hd
      obtain ⟨v, hv, dv⟩ := das_get hd2 h1
      cases n with
      | zero => simp at hn
      | succ n =>
        walk_at "s"
        refine v_ixT hpa (v := .int k) (atI_nat (j := 0) rfl) ?_
        walk_at "s"
        refine v_ixT hta (v := .ref tb) (atI_nat (j := 1) rfl) ?_
        walk_at "s"
        refine v_ixT htb (v := v) (ixI h0 hv) ?_
        walk_at "s"
        refine v_slT hpa fun p2 H2 s2 hp2 => ?_
        rw [cut_drop (by decide)] at hp2
        have hp2 : SqT K H2 p2 (intV pl) := hp2
        walk_at "s"
        have hww : wt w ≤ 30000 := by
          have : ∀ {l : List Tr} {i : Nat}, l[i]? = some w → wt w ≤ wts l := by
            intro l
            induction l with
            | nil => intro i h; simp at h
            | cons a l ih =>
              intro i h
              rw [wts]
              cases i with
              | zero => cases h; omega
              | succ i => have := ih (i := i) (by simpa using h); omega
          have := this h1
          omega
        have hlast : ∃ ws2, way w pl = some (ws2 ++ [u]) := by
          rw [h2]
          cases ws with
          | nil =>
            injection h3 with _ h3
            subst h3
            have := way_len h2
            simp at this
          | cons a l =>
            injection h3 with _ h3
            exact ⟨l, by rw [← h3]; rfl⟩
        obtain ⟨ws2, hw2⟩ := hlast
        refine ⟨v, p2, qa, w, u, pl, ws2, ps, qs, rfl, Dv.same s2 _ _ dv, hp2, hw2, hu, by simp at hn; omega, s2.sqT hqa, Dvs.same s2 _ _ dq, hww, fun x H3 s3 dx => ?_⟩
        walk_at "s"
        unfold putB
        have s23 := Same.tr s2 s3
        have hta := s23.sqT hta
        have htb := s23.sqT htb
        have hd2 := Dvs.same s23 _ _ hd2
        have hul := das_len hd2
        walk_at "s"
        refine v_ixT hta (v := .str m) (atI_nat (j := 0) rfl) ?_
        walk_at "s"
        refine v_ixT hta (v := .ref tb) (atI_nat (j := 1) rfl) ?_
        walk_at "s"
        refine v_slT htb fun c1 H4 s4 hc1 => ?_
        rw [cut_take h0] at hc1
        walk_at "s"
        refine ⟨sl64 (by walk_at "z"), fun c2 hc2 => ?_⟩
        have s5 := Same.new hc2 (.tup [x])
        refine v_catT (s5.sqT hc1) (SqT.of upd_same) (sl64 (by rw [List.length_take]; show _ + 1 ≤ _; omega)) fun c3 H6 s6 hc3 => ?_
        have s36 := Same.tr s4 (Same.tr s5 s6)
        walk_at "s"
        refine v_ixT (s36.sqT hta) (v := .ref tb) (atI_nat (j := 1) rfl) ?_
        walk_at "s"
        refine .inl (v_addI ?_)
        walk_at "s"
        refine v_slT (s36.sqT htb) fun c4 H7 s7 hc4 => ?_
        rw [cut_drop (by omega), show (k + 1).toNat = k.toNat + 1 by omega] at hc4
        refine v_catT (s7.sqT hc3) hc4 (sl64 (by rw [List.length_append, List.length_take, List.length_drop]; show _ + 1 + _ ≤ _; omega)) fun c5 H8 s8 hc5 => ?_
        walk_at "s"
        refine ⟨sl64 (by walk_at "z"), fun c6 hc6 => ?_⟩
        have s9 := Same.new hc6 (.tup [.str m, .ref c5])
        have s39 := Same.tr s36 (Same.tr s7 (Same.tr s8 s9))
        refine q _ _ (Same.tr s1 (Same.tr s23 s39)) ?_
        rw [putP, h1]
        refine da_nd (SqT.of upd_same) (s9.sqT hc5) ?_
        rw [das_app2, das_app2, das_take, das_drop]
        refine Dvs.append (Dvs.append (dvs_take _ (Dvs.same s39 _ _ hd2)) ?_) (dvs_drop _ (Dvs.same s39 _ _ hd2))
        rw [Tr.das, Tr.das]
        exact Dvs.one (Dv.same s39 _ _ dx)
end My
namespace My
open PySem L2
variable {K : PySem.W.Frag} {vs : List V} {H : Hp} {Q : VK} {E : XK}
def Hst (n : Nat) (kvs : List (Key × V)) : Prop := ∀ kv ∈ kvs, ∃ j : Int, kv.2 = .int j ∧ 0 ≤ j ∧ j < n
theorem hst_ints {n : Nat} : ∀ {kvs : List (Key × V)}, Hst n kvs → ∃ js : List Int, kvs.map (·.2) = js.map V.int
  | [], _ => ⟨[], rfl⟩
  | kv :: kvs, h => by
    obtain ⟨j, e, _⟩ := h kv (by simp)
    obtain ⟨js, e2⟩ := hst_ints (kvs := kvs) fun x hx => h x (by simp [hx])
    exact ⟨j :: js, by rw [List.map_cons, List.map_cons, e, e2]⟩
def HS (n : Nat) (ss : List Str) (i : Nat) (kvs : List (Key × V)) : Prop := (∀ kv ∈ kvs, ∃ (k : Nat) (j : Int), kv = (.inl (k : Int), .int j) ∧ 0 ≤ j ∧ j < n ∧ k < i ∧ ss[k]? = some ("frame" : Str)) ∧ (kvs.map (·.2)).Nodup
theorem HS.hst {n i : Nat} {ss : List Str} {kvs : List (Key × V)} (h : HS n ss i kvs) : Hst n kvs := fun kv hm => by obtain ⟨k, j, rfl, h0, h1, _⟩ := h.1 kv hm; exact ⟨j, rfl, h0, h1⟩
theorem HS.mono {n i : Nat} {ss : List Str} {kvs : List (Key × V)} (h : HS n ss i kvs) : HS n ss (i + 1) kvs := ⟨fun kv hm => by obtain ⟨k, j, e, h0, h1, h2, h3⟩ := h.1 kv hm; exact ⟨k, j, e, h0, h1, by omega, h3⟩, h.2⟩
theorem HS.set {n i : Nat} {ss : List Str} {kvs : List (Key × V)} (h : HS n ss i kvs) (x : Str) : HS n (ss.set i x) (i + 1) kvs := ⟨fun kv hm => by obtain ⟨k, j, e, h0, h1, h2, h3⟩ := h.1 kv hm; exact ⟨k, j, e, h0, h1, by omega, by rw [List.getElem?_set_ne (by omega)]; exact h3⟩, h.2⟩
theorem HS.put {n i : Nat} {ss : List Str} {kvs : List (Key × V)} (h : HS n ss i kvs) {j : Int} (h0 : 0 ≤ j) (h1 : j < n) (hs : ss[i]? = some ("frame" : Str)) (hn : V.int j ∉ kvs.map (·.2)) : HS n ss (i + 1) (putK kvs (.inl (i : Int)) (.int j)) := by
  have hv : valV kvs (.inl (i : Int)) = none := by
    unfold valV
    rw [Option.map_eq_none_iff, List.find?_eq_none]
    intro kv hm
    obtain ⟨k, j', rfl, _, _, h2, _⟩ := h.1 kv hm
    simp
    omega
  rw [putK_new _ hv]
  refine ⟨fun kv hm => ?_, ?_⟩
  · rcases List.mem_append.mp hm with hm | hm
    · exact h.mono.1 kv hm
    · rw [List.mem_singleton.mp hm]; exact ⟨i, j, rfl, h0, h1, by omega, hs⟩
  · rw [List.map_append, List.nodup_append]
    refine ⟨h.2, by simp, ?_⟩
    intro a ha b hb
    rw [List.mem_singleton.mp hb]
    rintro rfl
    exact hn ha
theorem hst_val {n : Nat} {kvs : List (Key × V)} {k : Key} {v : V} (h : Hst n kvs) (e : valV kvs k = some v) : ∃ j : Int, v = .int j ∧ 0 ≤ j ∧ j < n := by
  unfold valV at e
  obtain ⟨kv, hf, rfl⟩ := Option.map_eq_some_iff.mp e
  exact h kv (List.mem_of_find?_eq_some hf)
@[reducible] def T__law_sorts_0 (K : PySem.W.Frag) : TS :=
 (tAsg (tOp (rIxA K) (tLst (tCons (tC (.str ("room" : Str))) (tCons (tC (.str ("plain" : Str))) tNil))) (tCB rIntA (tCons (tInV false (tVar 5) (tVar 4)) tNil))) (gSub (tVar 3) (tVar 5) rSetA))
@[reducible] def T__law_sorts_1 (K : PySem.W.Frag) : TS :=
 (tAsg (tOp (rIxA K) (tVar 6) (tCall (sp__law_draw K) [] E0 (tCons (tVar 0) (tCons (tCB (rLenA K) (tCons (tVar 6) tNil)) tNil)))) (gSub (tVar 4) (tVar 5) rSetA))
@[reducible] def T__law_sorts_2 (K : PySem.W.Frag) : TS :=
 (tSeq (tAsg (tComp [some 3, some 4, none] (iRng2 (tCons (tOp (rAddA K) (tVar 5) (tC (.int 1))) (tCons (tVar 1) tNil))) (gName 2) (tAnd (tTest (tOp (rInB K false) (tOp (rIxA K) (tVar 0) (tVar 2)) (tTup (tCons (tC (.str ("plain" : Str))) (tCons (tC (.str ("frame" : Str))) tNil))))) (tTest (tInV true (tVar 2) (tVar 1)))) (tVar 2)) (gName 6))
 (tIfS (tTest (tOp (rEqA K) (tVar 6) (tLst tNil)))
 (T__law_sorts_0 K) (T__law_sorts_1 K)))
def sortT (K : PySem.W.Frag) : TS :=
 (tIfS (tTest (tOp (rEqA K) (tOp (rIxA K) (tVar 3) (tVar 5)) (tC (.str ("frame" : Str)))))
 (T__law_sorts_2 K) tNext)
theorem sort_tail {D : Ends} {d sa hb kd : Addr} {n k : Nat} {ss : List Str} {kvs : List (Key × V)} {a6 : Option V} (hk : k < n) (hn : n ≤ 16) (dk : Dk H d) (hsa : H sa = some (.lst (strV ss))) (hl : ss.length = n) (hss : ∀ s ∈ ss, s.length ≤ 8 ∧ s ≠ ("" : Str)) (nsa : sa ≠ d) (hhb : H hb = some (.dK kvs)) (hh : HS n ss k kvs) (hkl : kvs.length ≤ k)
    (q : ∀ (H' : Hp) (ss : List Str) (kvs : List (Key × V)) (a6 : Option V), But [d, sa, hb] H H' → Dk H' d → H' sa = some (.lst (strV ss)) → ss.length = n → (∀ s ∈ ss, s.length ≤ 8 ∧ s ≠ ("" : Str)) → H' hb = some (.dK kvs) → HS n ss (k + 1) kvs → kvs.length ≤ k + 1 → D.nx [some (.ref d), some (.int n), some (.ref kd), some (.ref sa), some (.ref hb), some (.int k), a6] H') :
    sortT K D [some (.ref d), some (.int n), some (.ref kd), some (.ref sa), some (.ref hb), some (.int k), a6] H := by
  have nhb : hb ≠ d := fun e => by obtain ⟨ns, h, _⟩ := dk; rw [← e, hhb] at h; cases h
  have nsh : sa ≠ hb := fun e => by rw [e, hhb] at hsa; cases hsa
  unfold sortT
  walk_at "s"
  refine v_ixL (SqL.of hsa) (atI_nat (strV_at (by omega))) ?_
  walk_at "s"
  by_cases ef : ss[k] = ("frame" : Str)
  · rw [decide_eq_true ef]; refine iteT ?_
    walk_at "s"
    let Pv0 : Nat → List V → Hp → Prop := fun i ys H' => Same H H' ∧ ∃ fs : List Int, ys = intV fs ∧ fs.length ≤ i ∧ ∀ x ∈ fs, 0 ≤ x ∧ x < n ∧ V.int x ∉ kvs.map (·.2)
    refine rng2_comp (lo := (k : Int) + 1) (hi := n) (by omega) (by omega) (by omega) Pv0 ⟨fun _ _ e => e, [], rfl, by simp, by simp⟩ ?_ ?_ ?_
    · rintro i ys H' hi ⟨_, fs, rfl, hf, _⟩
      rw [intV_len]; exact sl64 (by omega)
    · rintro i ys H' hi ⟨s1, fs, rfl, hf, hr⟩
      have e1 : (k : Int) + 1 + i = ((k + 1 + i : Nat) : Int) := by omega
      rw [e1]
      have hsa' := s1 _ _ hsa
      have hhb' := s1 _ _ hhb
      walk_at "s"
      refine v_ixL (SqL.of hsa') (atI_nat (strV_at (by omega))) ?_
      walk_at "s"
      refine ⟨sl64 (by walk_at "z"), fun t ht => ?_⟩
      refine .inl (v_in (xs := strV [("plain" : Str), ("frame" : Str)]) (.inr (SqT.of upd_same)) rfl (flat_strV _) ?_)
      rw [inV_strV]
      walk_at "s"
      have s2 := Same.tr s1 (Same.new ht (.tup (strV [("plain" : Str), ("frame" : Str)])))
      have no : ∃ fs' : List Int, intV fs = intV fs' ∧ fs'.length ≤ i + 1 ∧ ∀ x ∈ fs', 0 ≤ x ∧ x < n ∧ V.int x ∉ kvs.map (·.2) := ⟨fs, rfl, by omega, hr⟩
      by_cases hin : ss[k + 1 + i] ∈ [("plain" : Str), ("frame" : Str)]
      · rw [decide_eq_true hin]; refine iteT ?_
        walk_at "s"
        obtain ⟨js, ej⟩ := hst_ints hh.hst
        refine ⟨_, hb, kvs, js, rfl, rfl, by rw [upd_ne (ne_free hhb' ht)]; exact hhb', ej, ?_⟩
        generalize hcc : (if true = true then !decide (((k + 1 + i : Nat) : Int) ∈ js) else decide (((k + 1 + i : Nat) : Int) ∈ js)) = c
        walk_at "s"
        cases c with
        | true =>
          refine iteT ?_
          walk_at "s"
          refine ⟨s2, fs ++ [((k + 1 + i : Nat) : Int)], intV_app _ _, by simp; omega, fun x hx => ?_⟩
          rcases List.mem_append.mp hx with h | h
          · exact hr x h
          · rw [List.mem_singleton.mp h]
            refine ⟨by omega, by omega, ?_⟩
            rw [ej]
            intro hm
            obtain ⟨y, hy, e⟩ := List.mem_map.mp hm
            injection e with e
            rw [if_pos rfl] at hcc
            rw [← e, decide_eq_true hy] at hcc
            cases hcc
        | false =>
          refine iteF ?_
          exact ⟨s2, no⟩
      · rw [decide_eq_false hin]; refine iteF ?_
        refine iteF ?_
        exact ⟨s2, no⟩
    · rintro ys H' ⟨s1, fs, rfl, hf, hr⟩ p hp
      walk_at "s"
      have s2 : Same H (upd H' p (.lst (intV fs))) := Same.tr s1 (Same.new hp _)
      refine ⟨sl64 (by walk_at "z"), fun e he => ?_⟩
      have hp2 : (upd (upd H' p (.lst (intV fs))) e (.lst [])) p = some (.lst (intV fs)) := by rw [upd_ne (ne_free upd_same he)]; exact upd_same
      refine v_eqE (ds := intD fs) (dv_list.mpr ⟨p, _, rfl, SqL.of hp2, dvs_intD.mpr rfl⟩) upd_same ?_
      have s3 : Same H (upd (upd H' p (.lst (intV fs))) e (.lst [])) := Same.tr s2 (Same.new he _)
      generalize (upd (upd H' p (.lst (intV fs))) e (.lst [])) = H3 at *
      have hsa3 := s3 _ _ hsa
      have hhb3 := s3 _ _ hhb
      have dk3 := dk.same s3
      walk_at "s"
      cases fs with
      | nil =>
        refine iteT ?_
        walk_at "s"
        refine ⟨sl64 (by walk_at "z"), fun t ht => ?_⟩
        walk_at "s"
        have hhb4 : (upd H3 t (.lst [.str ("room" : Str), .str ("plain" : Str)])) hb = some (.dK kvs) := by rw [upd_ne (ne_free hhb3 ht)]; exact hhb3
        obtain ⟨js, ej⟩ := hst_ints hh.hst
        refine ⟨_, hb, kvs, js, rfl, rfl, hhb4, ej, ?_⟩
        generalize (if false = true then !decide ((k : Int) ∈ js) else decide ((k : Int) ∈ js)) = c
        walk_at "s"
        have s4 := Same.tr s3 (Same.new ht (.lst [.str ("room" : Str), .str ("plain" : Str)]))
        have ht4 : (upd H3 t (.lst [.str ("room" : Str), .str ("plain" : Str)])) t = some (.lst [.str ("room" : Str), .str ("plain" : Str)]) := upd_same
        generalize (upd H3 t (.lst [.str ("room" : Str), .str ("plain" : Str)])) = H4 at *
        refine .inr ⟨c, rfl, ?_⟩
        have fin : ∀ x : Str, x.length ≤ 8 ∧ x ≠ ("" : Str) → rSetA (.ref sa) (.int k) (.str x) H4 (fun H1 => D.nx [some (.ref d), some (.int n), some (.ref kd), some (.ref sa), some (.ref hb), some (.int k), some (.ref p)] H1) := fun x hx => by
          refine .inl (v_setL (s4 _ _ hsa) (j := k) (by unfold ixN; rw [if_pos (by omega), if_pos (by rw [strV_len]; omega)]; simp) ?_)
          have es : (strV ss).set k (.str x) = strV (ss.set k x) := by unfold strV; rw [List.map_set]
          rw [es]
          refine q _ (ss.set k x) kvs _ (fun b o e n => ?_) ((dk.same s4).put nsa _) upd_same (by rw [List.length_set]; exact hl) (fun s hs => ?_) (by rw [upd_ne (Ne.symm nsh)]; exact s4 _ _ hhb) (hh.set x) (by omega)
          · rw [upd_ne (fun z => n (by simp [z]))]; exact s4 _ _ e
          · rcases List.mem_or_eq_of_mem_set hs with h | h
            · exact hss s h
            · rw [h]; exact hx
        cases c with
        | true =>
          refine v_ixL (SqL.of ht4) (v := .str ("plain" : Str)) (atI_nat (j := 1) rfl) ?_
          walk_at "s"
          exact fin _ (by decide)
        | false =>
          refine v_ixL (SqL.of ht4) (v := .str ("room" : Str)) (atI_nat (j := 0) rfl) ?_
          walk_at "s"
          exact fin _ (by decide)
      | cons f0 fr =>
        refine iteF ?_
        walk_at "s"
        refine v_lenQ (.inl (SqL.of hp2)) ?_
        rw [intV_len]
        walk_at "s"
        refine ⟨d, ((f0 :: fr).length : Int), rfl, by rw [List.length_cons]; omega, by omega, dk3, fun m H5 m0 m1 mv => ?_⟩
        walk_at "s"
        have np : p ≠ d := dk.ne (none_of s1 hp)
        have hm : m.toNat < (f0 :: fr).length := by omega
        refine v_ixL (SqL.of (mv.at hp2 np)) (v := .int (f0 :: fr)[m.toNat]) (ixI m0 (intV_at hm)) ?_
        walk_at "s"
        have hr' := hr _ (List.getElem_mem hm)
        refine .inr ⟨hb, _, rfl, DPut.k (k := .inl (k : Int)) (mv.at hhb3 nhb) (by rw [sizeLine_eq]; omega), ?_⟩
        refine q _ ss _ _ (fun b o e n => ?_) (mv.dk.put nhb _) (by rw [upd_ne nsh]; exact mv.at hsa3 nsa) hl hss upd_same (hh.put hr'.1 hr'.2.1 (by rw [List.getElem?_eq_getElem (by omega), ef]) hr'.2.2) ?_
        · rw [upd_ne (fun z => n (by simp [z]))]; exact mv.at (s3 _ _ e) (fun z => n (by simp [z]))
        · have := length_putK kvs (.inl (k : Int)) (V.int (f0 :: fr)[m.toNat]); omega
  · rw [decide_eq_false ef]; refine iteF ?_
    exact q H ss kvs _ (fun _ _ e _ => e) dk hsa hl hss hhb hh.mono (by omega)
@[reducible] def T__law_sorts_4 (K : PySem.W.Frag) : TS :=
 (tSeq (tFor (iRng1 (tCons (tVar 1) tNil)) (gName 5)
 (sortT K))
 (tRet (tTup (tCons (tVar 3) (tCons (tVar 4) tNil)))))
@[reducible] def T__law_sorts_5 (K : PySem.W.Frag) : TS :=
 (tSeq (tAsg (tComp [some 2, some 0, none] (iRng1 (tCons (tVar 1) tNil)) (gName 2) tTT (tOp (rIxA K) (tVar 0) (tCall (sp__law_draw K) [] E0 (tCons (tVar 1) (tCons (tC (.int 8)) tNil))))) (gName 3))
 (tSeq (tAsg tDNewK (gName 4))
 (T__law_sorts_4 K)))
def sp__law_sorts (K : PySem.W.Frag) : Sp := fun vs H Q _ => ∃ (d : Addr) (n : Nat), vs = [.ref d, .int n] ∧ 1 ≤ n ∧ n ≤ 16 ∧ Dk H d ∧ ∀ (r sa hb : Addr) (ss : List Str) (kvs : List (Key × V)) (H' : Hp), Mv d H H' → H' r = some (.tup [.ref sa, .ref hb]) → H' sa = some (.lst (strV ss)) → sa ≠ d → ss.length = n → (∀ s ∈ ss, s.length ≤ 8 ∧ s ≠ ("" : Str)) → H' hb = some (.dK kvs) → HS n ss n kvs → Q (.ref r) H'
theorem len__law_sorts (K : PySem.W.Frag) : ∀ vs H Q E, sp__law_sorts K vs H Q E → vs.length = ["_law_deck", "_law_count"].length := by rintro vs H Q E ⟨d, n, rfl, _⟩; rfl
def R__law_sorts (K : PySem.W.Frag) : TS :=
 (tSeq (tAsg (tLst (tStrs [("plain" : Str), ("anew" : Str), ("plain" : Str), ("frame" : Str), ("room" : Str), ("bare" : Str), ("plain" : Str), ("anew" : Str)])) (gName 2))
 (T__law_sorts_5 K))
theorem rd__law_sorts (h : sp__law_sorts K vs H Q E) : R__law_sorts K { nx := fun _ H' => Q .non H', rt := Q } (start ["_law_deck", "_law_count", "_law_kinds", "_law_sorts_here", "_law_hosts", "_law_k", "_law_free"] vs) H := by
  obtain ⟨d, n, rfl, h1, h2, dk, q⟩ := h
  show R__law_sorts K _ [some (.ref d), some (.int n), none, none, none, none, none] H
  unfold R__law_sorts
  walk_at "s"
  refine ⟨sl64 (by simp [strV]), fun kd hkd => ?_⟩
  walk_at "s"
  generalize hks : [("plain" : Str), ("anew" : Str), ("plain" : Str), ("frame" : Str), ("room" : Str), ("bare" : Str), ("plain" : Str), ("anew" : Str)] = ks
  have hkl : ks.length = 8 := by rw [← hks]; rfl
  have hk8 : ∀ s ∈ ks, s.length ≤ 8 ∧ s ≠ ("" : Str) := by rw [← hks]; decide
  have nkd := dk.ne hkd
  have m0 : Mv d H (upd H kd (.lst (strV ks))) := Mv.new (Mv.refl dk) hkd _
  have hk0 : (upd H kd (.lst (strV ks))) kd = some (.lst (strV ks)) := upd_same
  generalize upd H kd (.lst (strV ks)) = H1 at *
  let Pv1 : Nat → List V → Hp → Prop := fun i ys H' => Mv d H1 H' ∧ ∃ ss : List Str, ys = strV ss ∧ ss.length = i ∧ ∀ s ∈ ss, s.length ≤ 8 ∧ s ≠ ("" : Str)
  refine rng1_comp (by omega) (by omega) Pv1 ⟨Mv.refl m0.dk, [], rfl, rfl, by simp⟩ ?_ ?_ ?_
  · rintro i ys H' hi ⟨_, ss, rfl, hl, _⟩
    rw [strV_len]; exact sl64 (by omega)
  · rintro i ys H' hi ⟨mv, ss, rfl, hl, hs⟩
    walk_at "s"
    refine ⟨d, 8, rfl, by decide, by decide, mv.dk, fun m H2 a0 a1 mv2 => ?_⟩
    have hm : m.toNat < ks.length := by omega
    refine v_ixL (SqL.of (mv2.at (mv.at hk0 nkd) nkd)) (ixI a0 (strV_at hm)) ?_
    refine ⟨mv.tr mv2, ss ++ [ks[m.toNat]], strV_app _ _, by simp [hl], fun s hs' => ?_⟩
    rcases List.mem_append.mp hs' with h | h
    · exact hs s h
    · rw [List.mem_singleton.mp h]; exact hk8 _ (List.getElem_mem hm)
  · rintro ys H' ⟨mv, ss, rfl, hl, hs⟩ sa hsa
    walk_at "s"
    intro hb hhb
    walk_at "s"
    have mvA : Mv d H (upd (upd H' sa (.lst (strV ss))) hb (.dK [])) := ((m0.tr mv).new hsa _).new hhb _
    have nsa : sa ≠ d := (m0.tr mv).dk.ne hsa
    have nsa0 : H sa = none := none_mv (m0.tr mv) dk hsa
    have nhb0 : H hb = none := none_mv ((m0.tr mv).new hsa _) dk hhb
    have hA1 : (upd (upd H' sa (.lst (strV ss))) hb (.dK [])) sa = some (.lst (strV ss)) := by rw [upd_ne (ne_free upd_same hhb)]; exact upd_same
    have hA2 : (upd (upd H' sa (.lst (strV ss))) hb (.dK [])) hb = some (.dK []) := upd_same
    generalize (upd (upd H' sa (.lst (strV ss))) hb (.dK [])) = HA at *
    let Pv2 : Nat → St → Hp → Prop := fun i σ H' => ∃ (ss : List Str) (kvs : List (Key × V)) (a5 a6 : Option V), σ = [some (.ref d), some (.int n), some (.ref kd), some (.ref sa), some (.ref hb), a5, a6] ∧ Mv d H H' ∧ H' sa = some (.lst (strV ss)) ∧ ss.length = n ∧ (∀ s ∈ ss, s.length ≤ 8 ∧ s ≠ ("" : Str)) ∧ H' hb = some (.dK kvs) ∧ HS n ss i kvs ∧ kvs.length ≤ i
    refine rng1_for (by omega) (by omega) Pv2 ⟨ss, [], _, _, rfl, mvA, hA1, by omega, hs, hA2, ⟨(fun _ h => by cases h), List.nodup_nil⟩, by simp⟩ ?_ ?_
    · rintro i σ H' hi ⟨ss, kvs, a5, a6, rfl, mv, b1, b2, b3, b4, b5, b6⟩
      walk_at "s"
      refine sort_tail (by omega) h2 mv.dk b1 b2 b3 nsa b4 b5 b6 fun H2 ss kvs a6 bt dk2 c1 c2 c3 c4 c5 c6 => ?_
      refine ⟨ss, kvs, _, _, rfl, ⟨fun c o e nc => ?_, dk2⟩, c1, c2, c3, c4, c5, c6⟩
      refine bt c o (mv.but c o e nc) ?_
      simp at nc ⊢
      exact ⟨nc, ne_free e nsa0, ne_free e nhb0⟩
    · rintro σ H' ⟨ss, kvs, a5, a6, rfl, mv, b1, b2, b3, b4, b5, b6⟩
      walk_at "s"
      refine ⟨sl64 (by walk_at "z"), fun r hr => ?_⟩
      exact q r sa hb ss kvs _ (mv.new hr _) upd_same (by rw [upd_ne (ne_free b1 hr)]; exact b1) nsa b2 b3 (by rw [upd_ne (ne_free b4 hr)]; exact b4) (by rw [show ((n : Int)).toNat = n by omega] at b5; exact b5)
@[reducible] def T__law_some_0 (K : PySem.W.Frag) : TS :=
 (tIfS (tTest (tOp (rEqA K) (tCall (sp__law_draw K) [] E0 (tCons (tVar 0) (tCons (tC (.int 4)) tNil))) (tC (.int 1))))
 (tDrop (tBM K "list" rAppend (tVar 2) (tCons (tVar 3) tNil))) tNext)
@[reducible] def T__law_some_1 (K : PySem.W.Frag) : TS :=
 (tSeq (tFor (iAny K (tVar 1)) (gName 3)
 (T__law_some_0 K))
 (tRet (tCB (rTupleA K) (tCons (tCB (rSortedS K) (tCons (tVar 2) tNil)) tNil))))
def sp__law_some (K : PySem.W.Frag) : Sp := fun vs H Q _ => ∃ (d a : Addr) (xs : List Str), vs = [.ref d, .ref a] ∧ Dk H d ∧ H a = some (.lst (strV xs)) ∧ a ≠ d ∧ xs.length ≤ 40 ∧ ∀ (t : Addr) (ys : List Str) (H' : Hp), Mv d H H' → H' t = some (.tup (strV ys)) → (∀ y ∈ ys, y ∈ xs) → ys.length ≤ xs.length → Q (.ref t) H'
theorem len__law_some (K : PySem.W.Frag) : ∀ vs H Q E, sp__law_some K vs H Q E → vs.length = ["_law_deck", "_law_names"].length := by rintro vs H Q E ⟨d, a, xs, rfl, _⟩; rfl
def R__law_some (K : PySem.W.Frag) : TS :=
 (tSeq (tAsg (tLst tNil) (gName 2))
 (T__law_some_1 K))
theorem rd__law_some (h : sp__law_some K vs H Q E) : R__law_some K { nx := fun _ H' => Q .non H', rt := Q } (start ["_law_deck", "_law_names", "_law_some_here", "_law_name_here"] vs) H := by
  obtain ⟨d, a, xs, rfl, dk, ha, na, hx, q⟩ := h
  show R__law_some K _ [some (.ref d), some (.ref a), none, none] H
  unfold R__law_some
  walk_at "s"
  refine ⟨sl64 (by walk_at "z"), fun p hp => ?_⟩
  walk_at "s"
  have np : p ≠ d := dk.ne hp
  have npa : a ≠ p := ne_free ha hp
  refine any_forL (xs := strV xs) (SqL.of (by rw [upd_ne npa]; exact ha)) (fun i σ H' => ∃ (w : Option V) (ys : List Str), σ = [some (.ref d), some (.ref a), some (.ref p), w] ∧ Mv d H H' ∧ H' p = some (.lst (strV ys)) ∧ (∀ y ∈ ys, y ∈ xs) ∧ ys.length ≤ i) ⟨_, [], rfl, Mv.new (Mv.refl dk) hp _, upd_same, by simp, by simp⟩ ?_ ?_ ?_
  · rintro i σ H' hi ⟨w, ys, rfl, mv, _⟩
    exact SqL.of (mv.at ha na)
  · rintro i x σ H' hx' ⟨w, ys, rfl, mv, h1, h2, h3⟩
    obtain ⟨y, hy, rfl⟩ := strV_get hx'
    have hi : i < xs.length := (List.getElem?_eq_some_iff.mp hy).1
    walk_at "s"
    refine ⟨d, 4, rfl, by decide, by decide, mv.dk, fun m H2 a0 a1 mv2 => ?_⟩
    walk_at "s"
    have mv3 := mv.tr mv2
    have h4 := mv2.at h1 np
    by_cases e : m = 1
    · rw [decide_eq_true e]; refine iteT ?_
      walk_at "s"
      refine ⟨.inl ⟨rfl, _, SqL.of h4⟩, ?_⟩
      walk_at "s"
      refine v_append h4 (by rw [strV_len, sizeLine_eq]; omega) ?_
      refine ⟨_, ys ++ [y], rfl, mv3.put dk hp _, by rw [upd_same, strV_app], fun z hz => ?_, by simp; omega⟩
      rcases List.mem_append.mp hz with h | h
      · exact h2 z h
      · rw [List.mem_singleton.mp h]; exact List.mem_of_getElem? hy
    · rw [decide_eq_false e]; refine iteF ?_
      exact ⟨_, ys, rfl, mv3, h4, h2, by omega⟩
  · rintro σ H' ⟨w, ys, rfl, mv, h1, h2, h3⟩
    rw [strV_len] at h3
    walk_at "s"
    refine ⟨p, ys, rfl, SqL.of h1, by omega, fun l ys' hperm _ hl => ?_⟩
    walk_at "s"
    refine ⟨l, _, rfl, .inl ⟨SqL.of upd_same, fun t ht => ?_⟩⟩
    exact q t ys' _ ((mv.new hl _).new ht _) upd_same (fun y hy => h2 y (hperm.mem_iff.mp hy)) (by rw [hperm.length_eq]; exact h3)
end My
namespace My
open PySem L2
variable {K : PySem.W.Frag} {vs : List V} {H : Hp} {Q : VK} {E : XK}
@[reducible] def T__law_book_0 (K : PySem.W.Frag) : TS :=
 (tDrop (tBM K "list" rInsert (tVar 9) (tCons (tCall (sp__law_draw K) [] E0 (tCons (tVar 0) (tCons (tOp (rAddA K) (tCB (rLenA K) (tCons (tVar 9) tNil)) (tC (.int 1))) tNil))) (tCons (tVar 13) tNil))))
def bookA (K : PySem.W.Frag) : TS :=
 (tSeq (tAsg (tTup (tCons (tOp (rIxA K) (tVar 6) (tVar 10)) (tCons (tOp (rIxA K) (tVar 4) (tVar 10)) (tCons (tVar 12) (tCons (tVar 11) (tCons (tCall (sp__law_some K) [] E0 (tCons (tVar 0) (tCons (tComp [some 6, none] (iAny K (tVar 7)) (gName 1) tTT (tOp (rIxA K) (tVar 0) (tVar 1))) tNil))) tNil)))))) (gName 13))
 (T__law_book_0 K))
@[reducible] def T__law_book_2 (K : PySem.W.Frag) : TS :=
 (tSeq (tIfS (tTest (tOp (rInB K false) (tVar 10) (tVar 5)))
 (tAsg (tOp (rIxA K) (tVar 6) (tDGet (tVar 5) (tVar 10))) (gName 12)) tNext)
 (bookA K))
def bookB (K : PySem.W.Frag) : TS :=
 (tSeq (tAsg (tC (.str ("" : Str))) (gName 12))
 (T__law_book_2 K))
noncomputable def hF (c : Int) (kvs : List (Key × V)) (k : Nat) : Str := match valV kvs (.inl (k : Int)) with | some (.int j) => nameF c j | _ => ("" : Str)
def Rwk (c : Int) (ss : List Str) (kvs : List (Key × V)) (i : Nat) (rs : List Row) : Prop := ∃ ks : List Nat, ks.Nodup ∧ (∀ k ∈ ks, k < i) ∧ rs.map (·.name) = ks.map (fun k : Nat => nameF c (k : Int)) ∧ rs.map (·.sort) = ks.map (fun k => ss.getD k ("" : Str)) ∧ rs.map (·.host) = ks.map (hF c kvs)
theorem Rwk.ins {c : Int} {ss : List Str} {kvs : List (Key × V)} {k : Nat} {rs : List Row} (h : Rwk c ss kvs k rs) {r : Row} (x : Nat) (hn : r.name = nameF c (k : Int)) (hs : r.sort = ss.getD k ("" : Str)) (hh : r.host = hF c kvs k) : Rwk c ss kvs (k + 1) (insAt rs x r) := by
  obtain ⟨ks, h1, h2, h3, h4, h5⟩ := h
  have hp : (insAt ks x k).Perm (k :: ks) := by
    unfold insAt
    have := (List.perm_middle (a := k) (l₁ := ks.take x) (l₂ := ks.drop x))
    rwa [List.take_append_drop] at this
  refine ⟨insAt ks x k, ?_, fun y hy => ?_, ?_, ?_, ?_⟩
  · rw [hp.nodup_iff, List.nodup_cons]
    exact ⟨fun z => by have := h2 k z; omega, h1⟩
  · rcases insAt_mem hy with rfl | h
    · omega
    · have := h2 y h; omega
  · rw [insAt_map, insAt_map, h3, hn]
  · rw [insAt_map, insAt_map, h4, hs]
  · rw [insAt_map, insAt_map, h5, hh]
theorem HS.val {n i : Nat} {ss : List Str} {kvs : List (Key × V)} (h : HS n ss i kvs) {k : Nat} {v : V} (e : valV kvs (.inl (k : Int)) = some v) : ∃ j : Int, v = .int j ∧ 0 ≤ j ∧ j < n ∧ ss[k]? = some ("frame" : Str) ∧ ((.inl (k : Int), .int j) : Key × V) ∈ kvs := by
  unfold valV at e
  obtain ⟨kv, hf, rfl⟩ := Option.map_eq_some_iff.mp e
  have hm := List.mem_of_find?_eq_some hf
  obtain ⟨k', j, rfl, h0, h1, h2, h3⟩ := h.1 kv hm
  have := List.find?_some hf
  have : k' = k := by simp at this; omega
  subst this
  exact ⟨j, rfl, h0, h1, h3, hm⟩
theorem nodup_snd {kvs : List (Key × V)} (h : (kvs.map (·.2)).Nodup) {a b : Key × V} (ha : a ∈ kvs) (hb : b ∈ kvs) (e : a.2 = b.2) : a = b := by
  induction kvs with
  | nil => cases ha
  | cons x l ih =>
    rw [List.map_cons, List.nodup_cons] at h
    rcases List.mem_cons.mp ha with rfl | ha' <;> rcases List.mem_cons.mp hb with rfl | hb'
    · rfl
    · exact absurd (e ▸ List.mem_map_of_mem hb') h.1
    · exact absurd (e ▸ List.mem_map_of_mem ha') h.1
    · exact ih h.2 ha' hb'
theorem hF_inj {c : Int} {n i : Nat} {ss : List Str} {kvs : List (Key × V)} (h : HS n ss i kvs) (n8 : n ≤ 8) {a b : Nat} (e : hF c kvs a = hF c kvs b) (hne : hF c kvs a ≠ ("" : Str)) : a = b := by
  have key : ∀ k, hF c kvs k ≠ ("" : Str) → ∃ j : Int, hF c kvs k = nameF c j ∧ 0 ≤ j ∧ j < n ∧ ((.inl (k : Int), .int j) : Key × V) ∈ kvs := by
    intro k hk
    unfold hF at hk ⊢
    cases ev : valV kvs (.inl (k : Int)) with
    | none => rw [ev] at hk; exact absurd rfl hk
    | some v =>
      obtain ⟨j, rfl, h0, h1, _, hm⟩ := h.val ev
      exact ⟨j, rfl, h0, h1, hm⟩
  obtain ⟨j1, e1, a0, a1, m1⟩ := key a hne
  obtain ⟨j2, e2, b0, b1, m2⟩ := key b (e ▸ hne)
  have : j1 = j2 := nameF_inj a0 (by omega) b0 (by omega) (by rw [← e1, ← e2]; exact e)
  subst this
  have := nodup_snd h.2 m1 m2 rfl
  injection this with h1 _
  have := Sum.inl.inj h1
  omega
theorem filt_one {α : Type} [DecidableEq α] (f : Nat → α) (x : α) : ∀ ks : List Nat, ks.Nodup → (∀ a ∈ ks, ∀ b ∈ ks, f a = x → f b = x → a = b) → ((ks.map f).filter fun y => decide (y = x)).length ≤ 1
  | [], _, _ => by simp
  | k :: ks, h, hi => by
    rw [List.nodup_cons] at h
    rw [List.map_cons, List.filter_cons]
    by_cases e : f k = x
    · rw [if_pos (decide_eq_true e), List.length_cons]
      have : ((ks.map f).filter fun y => decide (y = x)) = [] := by
        rw [List.filter_eq_nil_iff]
        intro y hy
        obtain ⟨k', hk', rfl⟩ := List.mem_map.mp hy
        intro z
        have z := of_decide_eq_true z
        exact h.1 (hi k (by simp) k' (by simp [hk']) e z ▸ hk')
      rw [this]; simp
    · rw [if_neg (by simpa using e)]
      exact filt_one f x ks h.2 fun a ha b hb => hi a (by simp [ha]) b (by simp [hb])
theorem Rwk.bks {c : Int} {n : Nat} {ss : List Str} {kvs : List (Key × V)} {rs : List Row} (h : Rwk c ss kvs n rs) (hs : HS n ss n kvs) (hss : ∀ s ∈ ss, s.length ≤ 8 ∧ s ≠ ("" : Str)) (hl : ss.length = n) (n8 : n ≤ 8) : BkS rs := by
  obtain ⟨ks, h1, h2, h3, h4, h5⟩ := h
  have at' : ∀ r ∈ rs, ∃ k, k < n ∧ r.name = nameF c (k : Int) ∧ r.sort = ss.getD k ("" : Str) ∧ r.host = hF c kvs k := by
    intro r hr
    obtain ⟨i, hi⟩ := List.mem_iff_getElem?.mp hr
    have a1 := congrArg (fun l => l[i]?) h3
    have a2 := congrArg (fun l => l[i]?) h4
    have a3 := congrArg (fun l => l[i]?) h5
    simp only [List.getElem?_map, hi, Option.map_some] at a1 a2 a3
    cases ek : ks[i]? with
    | none => rw [ek] at a1; cases a1
    | some k =>
      rw [ek] at a1 a2 a3
      exact ⟨k, h2 k (List.mem_of_getElem? ek), Option.some.inj a1, Option.some.inj a2, Option.some.inj a3⟩
  refine ⟨fun r hr => ?_, fun r hr => ?_, fun r hr hf => ?_, fun x hx => ?_⟩
  · obtain ⟨k, _, e, _⟩ := at' r hr
    rw [e]; exact nameF_ne c _
  · obtain ⟨k, hk, _, e, _⟩ := at' r hr
    rw [e]
    have : ss.getD k ("" : Str) = ss[k] := by rw [List.getD_eq_getElem?_getD, List.getElem?_eq_getElem (by omega)]; rfl
    rw [this]; exact (hss _ (List.getElem_mem _)).2
  · obtain ⟨k, hk, _, e, e2⟩ := at' r hr
    rw [e2]
    unfold hF
    cases ev : valV kvs (.inl (k : Int)) with
    | none => rfl
    | some v =>
      obtain ⟨j, rfl, _, _, h7, _⟩ := hs.val ev
      exfalso
      apply hf
      rw [e, List.getD_eq_getElem?_getD, h7]; rfl
  · have e : (rs.filter fun r => decide (r.host = x)).length = ((rs.map (·.host)).filter fun y => decide (y = x)).length := by
      rw [List.filter_map, List.length_map]; rfl
    rw [e, h5]
    exact filt_one (hF c kvs) x ks h1 fun a _ b _ ea eb => hF_inj hs n8 (ea.trans eb.symm) (by rw [ea]; exact hx)
section
variable {D : Ends} {d sa hb nm sf my bk : Addr} {c m : Int} {n k : Nat} {ss names may : List Str} {soft : List Int} {kvs : List (Key × V)} {us : List V} {rs : List Row} {a11 a12 a13 : Option V}
structure BkA (c : Int) (H : Hp) (d sa hb nm sf my bk : Addr) (n : Nat) (ss names may : List Str) (soft : List Int) (kvs : List (Key × V)) : Prop where
  n16 : n ≤ 16
  hsa : H sa = some (.lst (strV ss))
  lsa : ss.length = n
  hhb : H hb = some (.dK kvs)
  hst : HS n ss n kvs
  hnm : H nm = some (.lst (strV names))
  lnm : names.length = n
  nle : names = (List.range n).map (fun k : Nat => nameF c (k : Int))
  hsf : H sf = some (.lst (intV soft))
  sfl : soft.length ≤ n
  sfr : ∀ x ∈ soft, 0 ≤ x ∧ x < n
  hmy : H my = some (.lst (strV may))
  mle : may.length ≤ n
  n1 : sa ∉ [d, bk]
  n2 : hb ∉ [d, bk]
  n3 : nm ∉ [d, bk]
  n4 : sf ∉ [d, bk]
  n5 : my ∉ [d, bk]
theorem BkA.but {H' : Hp} (B : BkA c H d sa hb nm sf my bk n ss names may soft kvs) (t : But [d, bk] H H') : BkA c H' d sa hb nm sf my bk n ss names may soft kvs :=
  { B with hsa := t _ _ B.hsa B.n1, hhb := t _ _ B.hhb B.n2, hnm := t _ _ B.hnm B.n3, hsf := t _ _ B.hsf B.n4, hmy := t _ _ B.hmy B.n5 }
theorem nm_at (B : BkA c H d sa hb nm sf my bk n ss names may soft kvs) (hk : k < n) {h : k < names.length} : names[k] = nameF c (k : Int) := by
  have := B.nle
  subst this
  simp
theorem st_at (B : BkA c H d sa hb nm sf my bk n ss names may soft kvs) (hk : k < n) {h : k < ss.length} : ss[k] = ss.getD k ("" : Str) := by
  rw [List.getD_eq_getElem?_getD, List.getElem?_eq_getElem h]; rfl
theorem book_A {sv : V} {host : Str} {sh : List Str} (B : BkA c H d sa hb nm sf my bk n ss names may soft kvs) (hk : k < n) (dk : Dk H d) (nbk : bk ≠ d) (hbk : H bk = some (.lst us)) (dvs : Dvs K H (rs.map Row.da) us) (hrl : rs.length = k) (hro : Rwk c ss kvs k rs) (hho : host = hF c kvs k) (hsv : Dv K H (.tuple (sDa sh)) sv)
    (q : ∀ (H' : Hp) (us : List V) (rs : List Row) (a13 : Option V), But [d, bk] H H' → Dk H' d → H' bk = some (.lst us) → Dvs K H' (rs.map Row.da) us → rs.length = k + 1 → Rwk c ss kvs (k + 1) rs → D.nx [some (.ref d), some (.int c), some (.int m), some (.int n), some (.ref sa), some (.ref hb), some (.ref nm), some (.ref sf), some (.ref my), some (.ref bk), some (.int k), some sv, some (.str host), a13] H') :
    bookA K D [some (.ref d), some (.int c), some (.int m), some (.int n), some (.ref sa), some (.ref hb), some (.ref nm), some (.ref sf), some (.ref my), some (.ref bk), some (.int k), some sv, some (.str host), a13] H := by
  have n16 := B.n16
  have lnm := B.lnm
  have lsa := B.lsa
  have hul : us.length = k := by have := dvs.length; rw [List.length_map] at this; omega
  unfold bookA
  walk_at "s"
  refine v_ixL (SqL.of B.hnm) (atI_nat (strV_at (by omega))) ?_
  walk_at "s"
  refine v_ixL (SqL.of B.hsa) (atI_nat (strV_at (by omega))) ?_
  walk_at "s"
  let Pv0 : Nat → List V → Hp → Prop := fun i ys H' => H' = H ∧ ∃ zs : List Str, ys = strV zs ∧ zs.length = i
  refine any_compL (xs := intV soft) (SqL.of B.hsf) Pv0 ⟨rfl, [], rfl, rfl⟩ ?_ ?_ ?_ ?_
  · rintro i ys H' hi ⟨rfl, zs, rfl, hz⟩
    rw [intV_len] at hi
    have := B.sfl
    rw [strV_len]; exact sl64 (by omega)
  · rintro i ys H' hi ⟨rfl, _⟩
    exact SqL.of B.hsf
  · rintro i x ys H' hx ⟨rfl, zs, rfl, hz⟩
    unfold intV at hx
    rw [List.getElem?_map] at hx
    obtain ⟨j, hj, rfl⟩ := Option.map_eq_some_iff.mp hx
    obtain ⟨j0, j1⟩ := B.sfr j (List.mem_of_getElem? hj)
    walk_at "s"
    refine v_ixL (SqL.of B.hnm) (ixI j0 (strV_at (by omega))) ?_
    exact ⟨rfl, zs ++ [_], strV_app _ _, by simp [hz]⟩
  · rintro ys H' ⟨rfl, zs, rfl, hz⟩ p hp
    rw [intV_len] at hz
    walk_at "s"
    have s1 : Same H' (upd H' p (.lst (strV zs))) := Same.new hp _
    have hsfl := B.sfl
    refine ⟨d, p, zs, rfl, dk.same s1, upd_same, dk.ne hp, by omega, fun t ys H2 mv ht hmem hle => ?_⟩
    walk_at "s"
    have bt2 : But [d, bk] H' H2 := But.tr (Same.two d bk s1) (Mv.two bk mv)
    have hbk2 : H2 bk = some (.lst us) := mv.at (s1 _ _ hbk) nbk
    obtain ⟨dl, hdl⟩ := dk.lst
    have tk2 : TupK H' H2 := But.two bt2 hdl hbk
    have hsv2 := Dv.tupK tk2 _ _ (by rw [L2.fix]; exact fixs_map (f := PyData.str) (fun x => by rw [L2.fix]) sh) hsv
    have dvs2 := Dvs.tupK tk2 _ _ (fixs_map Row.fix rs) dvs
    refine ⟨sl64 (by walk_at "z"), fun r hr => ?_⟩
    walk_at "s"
    have s3 : Same H2 (upd H2 r (.tup [.str names[k], .str ss[k], .str host, sv, .ref t])) := Same.new hr _
    have hbk3 := s3 _ _ hbk2
    have dk3 := mv.dk.same s3
    have bt3 : But [d, bk] H' (upd H2 r (.tup [.str names[k], .str ss[k], .str host, sv, .ref t])) := But.tr bt2 (Same.two d bk s3)
    have drow : Dv K (upd H2 r (.tup [.str names[k], .str ss[k], .str host, sv, .ref t])) (Row.da ⟨names[k], ss[k], host, sh, ys⟩) (.ref r) := by
      unfold Row.da
      refine dv_tuple.mpr ⟨r, _, rfl, SqT.of upd_same, dvs_cons (dv_str.mpr rfl) (dvs_cons (dv_str.mpr rfl) (dvs_cons (dv_str.mpr rfl) (dvs_cons (Dv.same s3 _ _ hsv2) (dvs_cons ?_ dvs_nil))))⟩
      exact dv_tuple.mpr ⟨t, _, rfl, SqT.of (s3 _ _ ht), dvs_sDa.mpr rfl⟩
    have dvs3 := Dvs.same s3 _ _ dvs2
    generalize (upd H2 r (.tup [.str names[k], .str ss[k], .str host, sv, .ref t])) = H3 at *
    refine ⟨.inl ⟨rfl, _, SqL.of hbk3⟩, ?_⟩
    walk_at "s"
    refine v_lenQ (.inl (SqL.of hbk3)) ?_
    walk_at "s"
    refine ⟨d, (us.length : Int) + 1, rfl, by omega, by omega, dk3, fun x H4 x0 x1 mv4 => ?_⟩
    walk_at "s"
    have hbk4 := mv4.at hbk3 nbk
    obtain ⟨dl3, hdl3⟩ := dk3.lst
    have tk4 : TupK H3 H4 := mv4.tupK dk3
    refine v_insert hbk4 x0 (by omega) (by rw [sizeLine_eq]; omega) ?_
    have hx : x.toNat ≤ us.length := by omega
    refine q _ _ (insAt rs x.toNat ⟨names[k], ss[k], host, sh, ys⟩) _ (But.tr (But.tr bt3 (Mv.two bk mv4)) (But.upd (by simp) _)) (mv4.dk.put nbk _) upd_same ?_ (by rw [insAt_len _ _ _ (by omega)]; omega) (hro.ins _ (nm_at B hk) (st_at B hk) hho)
    · rw [insAt_map]
      have tk5 : TupK H4 (upd H4 bk (.lst (insAt us x.toNat (.ref r)))) := tupK_lst hbk4
      refine ins_dvs (Dvs.tupK (tk4.trans tk5) _ _ (fixs_map Row.fix rs) dvs3) (Dv.tupK (tk4.trans tk5) _ _ (Row.fix _) drow) hx
theorem book_B {sv : V} {sh : List Str} (B : BkA c H d sa hb nm sf my bk n ss names may soft kvs) (hk : k < n) (dk : Dk H d) (nbk : bk ≠ d) (hbk : H bk = some (.lst us)) (dvs : Dvs K H (rs.map Row.da) us) (hrl : rs.length = k) (hro : Rwk c ss kvs k rs) (hsv : Dv K H (.tuple (sDa sh)) sv)
    (q : ∀ (H' : Hp) (us : List V) (rs : List Row) (a12 a13 : Option V), But [d, bk] H H' → Dk H' d → H' bk = some (.lst us) → Dvs K H' (rs.map Row.da) us → rs.length = k + 1 → Rwk c ss kvs (k + 1) rs → D.nx [some (.ref d), some (.int c), some (.int m), some (.int n), some (.ref sa), some (.ref hb), some (.ref nm), some (.ref sf), some (.ref my), some (.ref bk), some (.int k), some sv, a12, a13] H') :
    bookB K D [some (.ref d), some (.int c), some (.int m), some (.int n), some (.ref sa), some (.ref hb), some (.ref nm), some (.ref sf), some (.ref my), some (.ref bk), some (.int k), some sv, a12, a13] H := by
  have lnm := B.lnm
  unfold bookB
  walk_at "s"
  refine .inr ⟨hb, _, rfl, DGet.k (k := .inl (k : Int)) B.hhb, ?_⟩
  walk_at "s"
  cases e : valV kvs (.inl (k : Int)) with
  | none =>
    refine iteF ?_
    walk_at "s"
    exact book_A B hk dk nbk hbk dvs hrl hro (by unfold hF; rw [e]) hsv fun H' us rs a13 h1 h2 h3 h4 h5 h6 => q H' us rs _ a13 h1 h2 h3 h4 h5 h6
  | some v =>
    obtain ⟨j, rfl, j0, j1⟩ := hst_val B.hst.hst e
    refine iteT ?_
    walk_at "s"
    refine ⟨hb, _, rfl, by have := DGet.k (k := .inl (k : Int)) B.hhb; rw [e] at this; exact this, ?_⟩
    refine v_ixL (SqL.of B.hnm) (ixI j0 (strV_at (by omega))) ?_
    walk_at "s"
    exact book_A B hk dk nbk hbk dvs hrl hro (by unfold hF; rw [e, nm_at B (k := j.toNat) (by omega)]; show nameF c _ = nameF c j; rw [show ((j.toNat : Nat) : Int) = j by omega]) hsv fun H' us rs a13 h1 h2 h3 h4 h5 h6 => q H' us rs _ a13 h1 h2 h3 h4 h5 h6
end
@[reducible] def T__law_book_3 (K : PySem.W.Frag) : TS :=
 (tSeq (tIfS (tTest (tInV true (tVar 10) (tVar 5)))
 (tAsg (tCall (sp__law_some K) [] E0 (tCons (tVar 0) (tCons (tVar 8) tNil))) (gName 11)) tNext)
 (bookB K))
@[reducible] def T__law_book_4 (K : PySem.W.Frag) : TS :=
 (tSeq (tFor (iRng1 (tCons (tVar 3) tNil)) (gName 10)
 (tSeq (tAsg (tTup tNil) (gName 11))
 (T__law_book_3 K)))
 (tRet (tCB (rTupleA K) (tCons (tVar 9) tNil))))
@[reducible] def T__law_book_5 (K : PySem.W.Frag) : TS :=
 (tSeq (tAsg (tComp [some 6, some 5, none] (iAny K (tVar 7)) (gName 2) (tTest (tInV true (tVar 2) (tVar 1))) (tOp (rIxA K) (tVar 0) (tVar 2))) (gName 8))
 (tSeq (tAsg (tLst tNil) (gName 9))
 (T__law_book_4 K)))
@[reducible] def T__law_book_6 (K : PySem.W.Frag) : TS :=
 (tSeq (tAsg (tComp [some 4, none] (iRng1 (tCons (tVar 3) tNil)) (gName 1) (tTest (tOp (rInB K false) (tOp (rIxA K) (tVar 0) (tVar 1)) (tTup (tCons (tC (.str ("plain" : Str))) (tCons (tC (.str ("anew" : Str))) tNil))))) (tVar 1)) (gName 7))
 (T__law_book_5 K))
@[reducible] def T__law_book_7 (K : PySem.W.Frag) : TS :=
 (tSeq (tAsg (tComp [some 1, none] (iRng1 (tCons (tVar 3) tNil)) (gName 1) tTT (tCall (sp__law_name K) [] E0 (tCons (tVar 0) (tCons (tVar 1) tNil)))) (gName 6))
 (T__law_book_6 K))
@[reducible] def T__law_book_8 (K : PySem.W.Frag) : TS :=
 (tSeq (tAsg (tCall (sp__law_sorts K) [] E0 (tCons (tVar 0) (tCons (tVar 3) tNil))) (gTup K 2 (gCons (gName 4) (gCons (gName 5) gNil))))
 (T__law_book_7 K))
def sp__law_book (K : PySem.W.Frag) : Sp := fun vs H Q _ => ∃ (d : Addr) (c m : Int), vs = [.ref d, .int c, .int m] ∧ 0 < m ∧ m ≤ 8 ∧ Dk H d ∧ ∀ (t : Addr) (us : List V) (rs : List Row) (H' : Hp), Mv d H H' → H' t = some (.tup us) → Dvs K H' (rs.map Row.da) us → 1 ≤ rs.length → rs.length ≤ 8 → BkS rs → Q (.ref t) H'
theorem len__law_book (K : PySem.W.Frag) : ∀ vs H Q E, sp__law_book K vs H Q E → vs.length = ["_law_deck", "_law_code", "_law_most"].length := by rintro vs H Q E ⟨d, c, m, rfl, _⟩; rfl
def R__law_book (K : PySem.W.Frag) : TS :=
 (tSeq (tAsg (tOp (rAddA K) (tC (.int 1)) (tCall (sp__law_draw K) [] E0 (tCons (tVar 0) (tCons (tVar 2) tNil)))) (gName 3))
 (T__law_book_8 K))
theorem rd__law_book (h : sp__law_book K vs H Q E) : R__law_book K { nx := fun _ H' => Q .non H', rt := Q } (start ["_law_deck", "_law_code", "_law_most", "_law_count", "_law_sorts_here", "_law_hosts", "_law_names", "_law_soft", "_law_may_shut", "_law_book_here", "_law_k", "_law_shuts", "_law_host", "_law_row_here"] vs) H := by
  obtain ⟨d, c, m, rfl, h0, h1, dk, q⟩ := h
  show R__law_book K _ [some (.ref d), some (.int c), some (.int m), none, none, none, none, none, none, none, none, none, none, none] H
  unfold R__law_book
  walk_at "s"
  refine ⟨d, m, rfl, h0, by omega, dk, fun x H1 x0 x1 mv1 => ?_⟩
  walk_at "s"
  obtain ⟨n, hn, n1, n12⟩ : ∃ n : Nat, (1 : Int) + x = n ∧ 1 ≤ n ∧ n ≤ 8 := ⟨(1 + x).toNat, by omega, by omega, by omega⟩
  rw [hn]
  refine ⟨d, n, rfl, n1, by omega, mv1.dk, fun r sa hb ss kvs H2 mv2 hr hsa nsa lsa hss hhb hst => ?_⟩
  refine ⟨r, _, rfl, SqT.of hr, rfl, ?_⟩
  refine ⟨_, _, rfl, ?_⟩
  walk_at "s"
  refine ⟨_, _, rfl, ?_⟩
  walk_at "s"
  refine ⟨rfl, ?_⟩
  have mvA := mv1.tr mv2
  have nhb : hb ≠ d := fun e => by obtain ⟨ns, h, _⟩ := mv2.dk; rw [← e, hhb] at h; cases h
  walk_at "s"
  let Pv1 : Nat → List V → Hp → Prop := fun i ys H' => H' = H2 ∧ ∃ zs : List Str, ys = strV zs ∧ zs.length = i ∧ zs = (List.range i).map (fun k : Nat => nameF c (k : Int))
  refine rng1_comp (by omega) (by omega) Pv1 ⟨rfl, [], rfl, rfl, rfl⟩ ?_ ?_ ?_
  · rintro i ys H' hi ⟨rfl, zs, rfl, hz, _⟩
    rw [strV_len]; exact sl64 (by omega)
  · rintro i ys H' hi ⟨rfl, zs, rfl, hz, h8⟩
    walk_at "s"
    refine ⟨c, i, rfl, ?_⟩
    exact ⟨rfl, zs ++ [nameF c (i : Int)], strV_app _ _, by simp [hz], by rw [h8, List.range_succ, List.map_append]; rfl⟩
  rintro ys H' ⟨rfl, names, rfl, lnm, nle⟩ nm hnm
  walk_at "s"
  have s3 : Same H' (upd H' nm (.lst (strV names))) := Same.new hnm _
  have hnm3 : (upd H' nm (.lst (strV names))) nm = some (.lst (strV names)) := upd_same
  have nnm : nm ≠ d := mv2.dk.ne hnm
  have hsa3 := s3 _ _ hsa
  have hhb3 := s3 _ _ hhb
  have mv3 := mvA.new hnm (.lst (strV names))
  generalize (upd H' nm (.lst (strV names))) = H3 at *
  let Pv2 : Nat → List V → Hp → Prop := fun i ys H' => Same H3 H' ∧ ∃ zs : List Int, ys = intV zs ∧ zs.length ≤ i ∧ ∀ z ∈ zs, 0 ≤ z ∧ z < n
  refine rng1_comp (by omega) (by omega) Pv2 ⟨fun _ _ e => e, [], rfl, by simp, by simp⟩ ?_ ?_ ?_
  · rintro i ys H' hi ⟨_, zs, rfl, hz, _⟩
    rw [intV_len]; exact sl64 (by omega)
  · rintro i ys H' hi ⟨s4, zs, rfl, hz, hr⟩
    walk_at "s"
    refine v_ixL (SqL.of (s4 _ _ hsa3)) (atI_nat (strV_at (by omega))) ?_
    walk_at "s"
    refine ⟨sl64 (by walk_at "z"), fun t ht => ?_⟩
    refine .inl (v_in (xs := strV [("plain" : Str), ("anew" : Str)]) (.inr (SqT.of upd_same)) rfl (flat_strV _) ?_)
    rw [inV_strV]
    walk_at "s"
    have s5 := Same.tr s4 (Same.new ht (.tup (strV [("plain" : Str), ("anew" : Str)])))
    by_cases hin : ss[i] ∈ [("plain" : Str), ("anew" : Str)]
    · rw [decide_eq_true hin]; refine iteT ?_
      walk_at "s"
      refine ⟨s5, zs ++ [(i : Int)], intV_app _ _, by simp; omega, fun z hz' => ?_⟩
      rcases List.mem_append.mp hz' with h | h
      · exact hr z h
      · rw [List.mem_singleton.mp h]; omega
    · rw [decide_eq_false hin]; refine iteF ?_
      exact ⟨s5, zs, rfl, by omega, hr⟩
  rintro ys H' ⟨s4, soft, rfl, sfl, sfr⟩ sf hsf
  walk_at "s"
  have sfl : soft.length ≤ n := by omega
  have nsf : sf ≠ d := (mv3.dk.same s4).ne hsf
  have s5 : Same H3 (upd H' sf (.lst (intV soft))) := Same.tr s4 (Same.new hsf _)
  have hsf5 : (upd H' sf (.lst (intV soft))) sf = some (.lst (intV soft)) := upd_same
  generalize (upd H' sf (.lst (intV soft))) = H5 at *
  let Pv3 : Nat → List V → Hp → Prop := fun i ys H' => Same H5 H' ∧ ∃ zs : List Str, ys = strV zs ∧ zs.length ≤ i
  refine any_compL (xs := intV soft) (SqL.of hsf5) Pv3 ⟨fun _ _ e => e, [], rfl, by simp⟩ ?_ ?_ ?_ ?_
  · rintro i ys H' hi ⟨_, zs, rfl, hz⟩
    rw [intV_len] at hi
    rw [strV_len]; exact sl64 (by omega)
  · rintro i ys H' hi ⟨s6, _⟩
    exact SqL.of (s6 _ _ hsf5)
  · rintro i x ys H' hx ⟨s6, zs, rfl, hz⟩
    unfold intV at hx
    rw [List.getElem?_map] at hx
    obtain ⟨j, hj, rfl⟩ := Option.map_eq_some_iff.mp hx
    obtain ⟨j0, j1⟩ := sfr j (List.mem_of_getElem? hj)
    walk_at "s"
    obtain ⟨js, ej⟩ := hst_ints hst.hst
    refine ⟨_, hb, kvs, js, rfl, rfl, s6 _ _ (s5 _ _ hhb3), ej, ?_⟩
    generalize (if true = true then !decide (j ∈ js) else decide (j ∈ js)) = cc
    walk_at "s"
    cases cc with
    | true =>
      refine iteT ?_
      walk_at "s"
      refine v_ixL (SqL.of (s6 _ _ (s5 _ _ hnm3))) (ixI j0 (strV_at (by omega))) ?_
      exact ⟨s6, zs ++ [_], strV_app _ _, by simp; omega⟩
    | false =>
      refine iteF ?_
      exact ⟨s6, zs, rfl, by omega⟩
  rintro ys H' ⟨s6, may, rfl, mle⟩ my hmy
  rw [intV_len] at mle
  walk_at "s"
  have dk6 : Dk H' d := (mv3.dk.same s5).same s6
  have nmy : my ≠ d := dk6.ne hmy
  have s7 : Same H5 (upd H' my (.lst (strV may))) := Same.tr s6 (Same.new hmy _)
  have hmy7 : (upd H' my (.lst (strV may))) my = some (.lst (strV may)) := upd_same
  have dk7 : Dk (upd H' my (.lst (strV may))) d := dk6.same (Same.new hmy _)
  generalize (upd H' my (.lst (strV may))) = H7 at *
  refine ⟨sl64 (by walk_at "z"), fun bk hbk => ?_⟩
  walk_at "s"
  have s8 : Same H5 (upd H7 bk (.lst [])) := Same.tr s7 (Same.new hbk _)
  have s38 := Same.tr s5 s8
  have nbk : bk ≠ d := dk7.ne hbk
  have hmy8 : (upd H7 bk (.lst [])) my = some (.lst (strV may)) := Same.new hbk _ _ _ hmy7
  have B : BkA c (upd H7 bk (.lst [])) d sa hb nm sf my bk n ss names may soft kvs :=
    { n16 := by omega, hsa := s38 _ _ hsa3, lsa := lsa, hhb := s38 _ _ hhb3, hst := hst, hnm := s38 _ _ hnm3, lnm := by omega, nle := (by rw [show ((n : Int)).toNat = n by omega] at nle; exact nle), hsf := s8 _ _ hsf5, sfl := sfl, sfr := sfr, hmy := hmy8, mle := by omega,
      n1 := by simp; exact ⟨nsa, ne_free (s7 _ _ (s5 _ _ hsa3)) hbk⟩, n2 := by simp; exact ⟨nhb, ne_free (s7 _ _ (s5 _ _ hhb3)) hbk⟩, n3 := by simp; exact ⟨nnm, ne_free (s7 _ _ (s5 _ _ hnm3)) hbk⟩, n4 := by simp; exact ⟨nsf, ne_free (s7 _ _ hsf5) hbk⟩, n5 := by simp; exact ⟨nmy, ne_free hmy7 hbk⟩ }
  have hbk8 : (upd H7 bk (.lst [])) bk = some (.lst []) := upd_same
  have mv8 : Mv d H (upd H7 bk (.lst [])) := (mv3.same s5).same s8
  have bk0 : H bk = none := none_mv ((mv3.same s5).same s7) dk hbk
  have dk8 := mv8.dk
  generalize (upd H7 bk (.lst [])) = H8 at *
  let Pv4 : Nat → St → Hp → Prop := fun i σ H' => ∃ (us : List V) (rs : List Row) (a10 a11 a12 a13 : Option V), σ = [some (.ref d), some (.int c), some (.int m), some (.int n), some (.ref sa), some (.ref hb), some (.ref nm), some (.ref sf), some (.ref my), some (.ref bk), a10, a11, a12, a13] ∧ But [d, bk] H8 H' ∧ Dk H' d ∧ H' bk = some (.lst us) ∧ Dvs K H' (rs.map Row.da) us ∧ rs.length = i ∧ Rwk c ss kvs i rs
  refine rng1_for (by omega) (by omega) Pv4 ⟨[], [], _, _, _, _, rfl, But.refl _ _, dk8, hbk8, dvs_nil, rfl, [], List.nodup_nil, by simp, rfl, rfl, rfl⟩ ?_ ?_
  · rintro i σ H' hi ⟨us, rs, a10, a11, a12, a13, rfl, bt, dk', hbk', dv', hl, ho⟩
    have B' := B.but bt
    walk_at "s"
    refine ⟨sl64 (by walk_at "z"), fun e he => ?_⟩
    walk_at "s"
    have se : Same H' (upd H' e (.tup [])) := Same.new he _
    have B2 := B'.but (Same.two d bk se)
    have hbk2 := se _ _ hbk'
    have dv2 := Dvs.same se _ _ dv'
    have dk2 := dk'.same se
    have bt2 := But.tr bt (Same.two d bk se)
    have hem : Dv K (upd H' e (.tup [])) (.tuple (sDa [])) (.ref e) := dv_tuple.mpr ⟨e, [], rfl, SqT.of upd_same, dvs_nil⟩
    generalize (upd H' e (.tup [])) = H2' at *
    obtain ⟨js, ej⟩ := hst_ints hst.hst
    refine ⟨_, hb, kvs, js, rfl, rfl, B2.hhb, ej, ?_⟩
    generalize (if true = true then !decide ((i : Int) ∈ js) else decide ((i : Int) ∈ js)) = cc
    walk_at "s"
    cases cc with
    | false =>
      refine iteF ?_
      refine book_B B2 (by omega) dk2 nbk hbk2 dv2 hl ho hem fun H'' us rs a12 a13 e1 e2 e3 e4 e5 e6 => ?_
      exact ⟨us, rs, _, _, _, _, rfl, But.tr bt2 e1, e2, e3, e4, e5, e6⟩
    | true =>
      refine iteT ?_
      walk_at "s"
      have := B2.mle
      have nmy' : my ≠ d := nmy
      refine ⟨d, my, may, rfl, dk2, B2.hmy, nmy, by omega, fun t ys H4 mv4 ht _ _ => ?_⟩
      walk_at "s"
      have b4 : But [d, bk] H2' H4 := mv4.two bk
      refine book_B (B2.but b4) (by omega) mv4.dk nbk (mv4.at hbk2 nbk) (Dvs.tupK (mv4.tupK dk2) _ _ (fixs_map Row.fix rs) dv2) hl ho (dv_tuple.mpr ⟨t, _, rfl, SqT.of ht, dvs_sDa.mpr rfl⟩) fun H'' us rs a12 a13 e1 e2 e3 e4 e5 e6 => ?_
      exact ⟨us, rs, _, _, _, _, rfl, But.tr (But.tr bt2 b4) e1, e2, e3, e4, e5, e6⟩
  · rintro σ H' ⟨us, rs, a10, a11, a12, a13, rfl, bt, dk', hbk', dv', hl, ho⟩
    walk_at "s"
    refine ⟨bk, us, rfl, .inl ⟨SqL.of hbk', fun t ht => ?_⟩⟩
    have st : Same H' (upd H' t (.tup us)) := Same.new ht _
    refine q t us rs _ ⟨fun b o e nb => ?_, dk'.same st⟩ upd_same (Dvs.same st _ _ dv') (by omega) (by omega) ((by rw [show ((n : Int)).toNat = n by omega] at ho; exact ho : Rwk c ss kvs n rs).bks hst hss lsa n12)
    refine st _ _ (bt b o (mv8.but b o e nb) ?_)
    simp at nb ⊢
    exact ⟨nb, ne_free e bk0⟩
end My
namespace My
open PySem L2
variable {K : PySem.W.Frag} {vs : List V} {H : Hp} {Q : VK} {E : XK}
def textT (K : PySem.W.Frag) : TS :=
 (tRet (tBM K "str" (rJoin K) (tC (.str ("" : Str))) (tCons (tComp [some 1, some 0, none] (iRng1 (tCons (tOp (rAddA K) (tC (.int 1)) (tCall (sp__law_draw K) [] E0 (tCons (tVar 0) (tCons (tC (.int 9)) tNil)))) tNil)) (gName 2) tTT (tOp (rIxA K) (tVar 0) (tCall (sp__law_draw K) [] E0 (tCons (tVar 1) (tCons (tCB (rLenA K) (tCons (tVar 0) tNil)) tNil))))) tNil)))
theorem join_len (cs : List Nat) : (PySem.Txt.join ("" : Str) (cs.map ch)).length = cs.length := by
  show (PySem.Txt.join ("" : Str) (cs.map ch)).cps.size = _
  rw [← Array.length_toList, join_ch]
theorem sum_ch (cs : List Nat) : ((cs.map ch).map (·.length)).sum = cs.length := by
  induction cs with
  | nil => rfl
  | cons c r ih => rw [List.map_cons, List.map_cons, List.sum_cons, ih, List.length_cons]; show 1 + _ = _; omega
theorem text_tail {D : Ends} {d : Addr} {S : Str} (dk : Dk H d) (h1 : 1 ≤ S.length) (h2 : S.length ≤ 1000) (q : ∀ (x : Str) (H' : Hp), Mv d H H' → 1 ≤ x.length → x.length ≤ 9 → D.rt (.str x) H') : textT K D [some (.ref d), some (.str S)] H := by
  unfold textT
  walk_at "s"
  refine ⟨rfl, ?_⟩
  walk_at "s"
  refine ⟨d, 9, rfl, by decide, by decide, dk, fun m H1 m0 m1 mv1 => ?_⟩
  walk_at "s"
  let Pv0 : Nat → List V → Hp → Prop := fun i ys H' => Mv d H1 H' ∧ ∃ cs : List Nat, ys = strV (cs.map ch) ∧ cs.length = i
  refine rng1_comp (by omega) (by omega) Pv0 ⟨Mv.refl mv1.dk, [], rfl, rfl⟩ ?_ ?_ ?_
  · rintro i ys H' hi ⟨_, cs, rfl, hl⟩
    rw [strV_len, List.length_map]; exact sl64 (by omega)
  · rintro i ys H' hi ⟨mv, cs, rfl, hl⟩
    walk_at "s"
    refine v_lenS (sl64 (by omega)) ?_
    walk_at "s"
    refine ⟨d, (S.length : Int), rfl, by omega, by omega, mv.dk, fun x H2 x0 x1 mv2 => ?_⟩
    have hx : x.toNat < S.cps.toList.length := by rw [Array.length_toList]; show x.toNat < S.length; omega
    refine v_ixS (sl64 (by omega)) (ixI x0 (List.getElem?_eq_getElem hx)) ?_
    exact ⟨mv.tr mv2, cs ++ [S.cps.toList[x.toNat]], by simp [strV, ch], by simp [hl]⟩
  · rintro ys H' ⟨mv, cs, rfl, hl⟩ p hp
    walk_at "s"
    refine ⟨"", p, cs.map ch, rfl, rfl, .inl (SqL.of upd_same), ?_, ?_⟩
    · rw [sum_ch, show ("" : Str).length = 0 from rfl]; omega
    · exact q _ _ ((mv1.tr mv).new hp _) (by rw [join_len]; omega) (by rw [join_len]; omega)
@[reducible] def T__law_text_0 (K : PySem.W.Frag) : TS :=
 (tSeq (tAsg (tC (.str (" !\"#$&'()*+,-./0123456789:;<=>?@ABCDEFGHIJKLMNOPQRSTUVWXYZ[\\]^_`" : Str))) (gName 1))
 (tAsg (tOp (rAddA K) (tVar 1) (tC (.str ("abcdefghijklmnopqrstuvwxyz{|}~\n" : Str)))) (gName 1)))
@[reducible] def T__law_text_2 (K : PySem.W.Frag) : TS :=
 (tSeq (tIfS (tTest (tOp (rEqA K) (tCall (sp__law_draw K) [] E0 (tCons (tVar 0) (tCons (tC (.int 2)) tNil))) (tC (.int 1))))
 (T__law_text_0 K) tNext)
 (textT K))
def sp__law_text (K : PySem.W.Frag) : Sp := fun vs H Q _ => ∃ (d : Addr), vs = [.ref d] ∧ Dk H d ∧ ∀ (x : Str) (H' : Hp), Mv d H H' → 1 ≤ x.length → x.length ≤ 9 → Q (.str x) H'
theorem len__law_text (K : PySem.W.Frag) : ∀ vs H Q E, sp__law_text K vs H Q E → vs.length = ["_law_deck"].length := by rintro vs H Q E ⟨d, rfl, _⟩; rfl
def R__law_text (K : PySem.W.Frag) : TS :=
 (tSeq (tAsg (tC (.str ("ab <&>;l/\nZ~ 7" : Str))) (gName 1))
 (T__law_text_2 K))
theorem rd__law_text (h : sp__law_text K vs H Q E) : R__law_text K { nx := fun _ H' => Q .non H', rt := Q } (start ["_law_deck", "_law_signs"] vs) H := by
  obtain ⟨d, rfl, dk, q⟩ := h
  show R__law_text K _ [some (.ref d), none] H
  unfold R__law_text
  walk_at "s"
  refine ⟨d, 2, rfl, by decide, by decide, dk, fun m H1 m0 m1 mv1 => ?_⟩
  walk_at "s"
  have qq : ∀ (x : Str) (H' : Hp), Mv d H1 H' → 1 ≤ x.length → x.length ≤ 9 → Q (.str x) H' := fun x H' mv a b => q x H' (mv1.tr mv) a b
  by_cases e : m = 1
  · rw [decide_eq_true e]; refine iteT ?_
    walk_at "s"
    refine v_addS (sl64 (by decide +kernel)) ?_
    walk_at "s"
    exact text_tail mv1.dk (by rw [app_len]; decide +kernel) (by rw [app_len]; decide +kernel) qq
  · rw [decide_eq_false e]; refine iteF ?_
    exact text_tail mv1.dk (by decide +kernel) (by decide +kernel) qq
end My
namespace My
open PySem L2
variable {K : PySem.W.Frag} {vs : List V} {H : Hp} {Q : VK} {E : XK}
theorem putP_wt : ∀ (pl : List Int) (t u : Tr) (ws ps : List Tr), way t pl = some (ws ++ [u]) → u.isTx = false → wt (putP t pl ps) + wts u.kids = wt t + wts ps
  | [], t, u, ws, ps, h, hu => by
    rw [way] at h
    have : t = u := by simpa using congrArg List.getLast? (Option.some.inj h)
    subst this
    cases t with
    | tx s => cases hu
    | nd n qs => rw [putP, wt, wt]; show 1 + wts ps + wts qs = 1 + wts qs + wts ps; omega
  | k :: pl, t, u, ws, ps, h, hu => by
    obtain ⟨h0, w, ws', h1, h2, h3⟩ := way_cons h
    cases t with
    | tx s => cases h1
    | nd n qs =>
      have h1 : qs[k.toNat]? = some w := h1
      obtain ⟨hl, e⟩ := List.getElem?_eq_some_iff.mp h1
      obtain ⟨l, hl2⟩ : ∃ l, ws' = l ++ [u] := by
        cases ws with
        | nil => injection h3 with _ h3; subst h3; have := way_len h2; simp at this
        | cons a l => injection h3 with _ h3; exact ⟨l, h3.symm⟩
      rw [hl2] at h2
      have ih := putP_wt pl w u l ps h2 hu
      rw [putP, h1, wt, wt, wts_app, wts_app, wts, wts]
      have e2 : qs = qs.take k.toNat ++ w :: qs.drop (k.toNat + 1) := by
        conv => lhs; rw [← List.take_append_drop k.toNat qs]
        rw [List.drop_eq_getElem_cons hl, e]
      have e3 : wts qs = wts (qs.take k.toNat) + (wt w + wts (qs.drop (k.toNat + 1))) := by
        conv => lhs; rw [e2]
        rw [wts_app, wts]
      show 1 + (wts (qs.take k.toNat) + (wt (putP w pl ps) + 0) + wts (qs.drop (k.toNat + 1))) + wts u.kids = 1 + wts qs + wts ps
      omega
theorem way_hgt : ∀ {pl : List Int} {t u : Tr} {ws : List Tr}, way t pl = some (ws ++ [u]) → pl.length + hgt u ≤ hgt t
  | [], t, u, ws, h => by
    rw [way] at h
    have : t = u := by simpa using congrArg List.getLast? (Option.some.inj h)
    subst this; simp
  | k :: pl, t, u, ws, h => by
    obtain ⟨h0, w, ws', h1, h2, h3⟩ := way_cons h
    obtain ⟨l, hl2⟩ : ∃ l, ws' = l ++ [u] := by
      cases ws with
      | nil => injection h3 with _ h3; subst h3; have := way_len h2; simp at this
      | cons a l => injection h3 with _ h3; exact ⟨l, h3.symm⟩
    rw [hl2] at h2
    have ih := way_hgt h2
    cases t with
    | tx s => cases h1
    | nd n qs =>
      have h1 : qs[k.toNat]? = some w := h1
      have : ∀ {l : List Tr} {i : Nat}, l[i]? = some w → hgt w ≤ hgts l := by
        intro l
        induction l with
        | nil => intro i h; simp at h
        | cons a l ih =>
          intro i h
          rw [hgts]
          cases i with
          | zero => cases h; omega
          | succ i => have := ih (i := i) (by simpa using h); omega
      have := this h1
      rw [hgt, List.length_cons]; omega
theorem hgts_take (k : Nat) (ts : List Tr) : hgts (ts.take k) ≤ hgts ts := by
  have := hgts_app (ts.take k) (ts.drop k)
  rw [List.take_append_drop] at this; omega
theorem hgts_drop (k : Nat) (ts : List Tr) : hgts (ts.drop k) ≤ hgts ts := by
  have := hgts_app (ts.take k) (ts.drop k)
  rw [List.take_append_drop] at this; omega
theorem wts_cut (k : Nat) (ts : List Tr) : wts (ts.take k) + wts (ts.drop k) = wts ts := by
  have := wts_app (ts.take k) (ts.drop k)
  rw [List.take_append_drop] at this; omega
theorem putP_hgt : ∀ (pl : List Int) (t u : Tr) (ws ps : List Tr), way t pl = some (ws ++ [u]) → u.isTx = false → hgt (putP t pl ps) ≤ max (hgt t) (pl.length + 1 + hgts ps)
  | [], t, u, ws, ps, h, hu => by
    rw [way] at h
    have : t = u := by simpa using congrArg List.getLast? (Option.some.inj h)
    subst this
    cases t with
    | tx s => cases hu
    | nd n qs => rw [putP, hgt, List.length_nil]; omega
  | k :: pl, t, u, ws, ps, h, hu => by
    obtain ⟨h0, w, ws', h1, h2, h3⟩ := way_cons h
    cases t with
    | tx s => cases h1
    | nd n qs =>
      have h1 : qs[k.toNat]? = some w := h1
      obtain ⟨l, hl2⟩ : ∃ l, ws' = l ++ [u] := by
        cases ws with
        | nil => injection h3 with _ h3; subst h3; have := way_len h2; simp at this
        | cons a l => injection h3 with _ h3; exact ⟨l, h3.symm⟩
      rw [hl2] at h2
      have ih := putP_hgt pl w u l ps h2 hu
      have hw : hgt w ≤ hgts qs := by
        have e := hgts_app (qs.take k.toNat) (qs.drop k.toNat)
        rw [List.take_append_drop] at e
        obtain ⟨hl, e1⟩ := List.getElem?_eq_some_iff.mp h1
        rw [List.drop_eq_getElem_cons hl, hgts, e1] at e
        omega
      have a1 := hgts_take k.toNat qs
      have a2 := hgts_drop (k.toNat + 1) qs
      rw [putP, h1, hgt, hgt, hgts_app, hgts_app, hgts, hgts, List.length_cons]
      show 1 + max (max (hgts (qs.take k.toNat)) (max (hgt (putP w pl ps)) 0)) (hgts (qs.drop (k.toNat + 1))) ≤ _
      omega
theorem putP_nd {t u : Tr} {pl : List Int} {ws ps : List Tr} (h : way t pl = some (ws ++ [u])) (ht : t.isTx = false) : (putP t pl ps).isTx = false := by
  cases t with
  | tx s => cases ht
  | nd n qs => cases pl with | nil => rfl | cons k pl => rfl
theorem cut_one {xs : List V} {m : Int} (h : 0 ≤ m) : cutV xs (some m) (some (m + 1)) = (xs.drop m.toNat).take 1 := by
  unfold cutV
  have e1 : HT.sIx xs.length 0 (some m) = min m.toNat xs.length := by
    show (if m < 0 then _ else min m.toNat xs.length) = _
    rw [if_neg (by omega)]
  have e2 : HT.sIx xs.length xs.length (some (m + 1)) = min (m.toNat + 1) xs.length := by
    show (if m + 1 < 0 then _ else min (m + 1).toNat xs.length) = _
    rw [if_neg (by omega), show (m + 1).toNat = m.toNat + 1 by omega]
  show (xs.drop (HT.sIx xs.length 0 (some m))).take (HT.sIx xs.length xs.length (some (m + 1)) - HT.sIx xs.length 0 (some m)) = _
  rw [e1, e2]
  by_cases hl : m.toNat < xs.length
  · rw [Nat.min_eq_left (by omega), Nat.min_eq_left (by omega), show m.toNat + 1 - m.toNat = 1 by omega]
  · rw [Nat.min_eq_right (by omega), Nat.min_eq_right (by omega), List.drop_length, List.drop_eq_nil_of_le (by omega), List.take_nil, List.take_nil]
def bent5 (K : PySem.W.Frag) : TS :=
 (tRet (tCall (sp__law_put_parts K) [] E0 (tCons (tVar 2) (tCons (tVar 4) (tCons (tOp (rAddB K) (tSl (rSlB K) (tVar 7) (tPart (tVar 8)) tNoPart) (tSl (rSlB K) (tVar 7) tNoPart (tPart (tVar 8)))) tNil)))))
@[reducible] def T__law_bent_4 (K : PySem.W.Frag) : TS :=
 (tRet (tCall (sp__law_put_parts K) [] E0 (tCons (tVar 2) (tCons (tVar 4) (tCons (tOp (rAddB K) (tOp (rAddB K) (tSl (rSlB K) (tVar 7) tNoPart (tPart (tVar 8))) (tTup (tCons (tTup (tCons (tCall (sp__law_name K) [] E0 (tCons (tVar 1) (tCons (tCall (sp__law_draw K) [] E0 (tCons (tVar 0) (tCons (tC (.int 10)) tNil))) tNil))) (tCons (tTup tNil) tNil))) tNil))) (tSl (rSlB K) (tVar 7) (tPart (tVar 8)) tNoPart)) tNil)))))
def bent4 (K : PySem.W.Frag) : TS :=
 (tSeq (tIfS (tTest (tOp (rEqA K) (tVar 9) (tC (.int 4))))
 (T__law_bent_4 K) tNext)
 (bent5 K))
@[reducible] def T__law_bent_3 (K : PySem.W.Frag) : TS :=
 (tRet (tCall (sp__law_put_parts K) [] E0 (tCons (tVar 2) (tCons (tVar 4) (tCons (tOp (rAddB K) (tTup (tCons (tTup (tCons (tCall (sp__law_name K) [] E0 (tCons (tVar 1) (tCons (tCall (sp__law_draw K) [] E0 (tCons (tVar 0) (tCons (tC (.int 10)) tNil))) tNil))) (tCons (tSl (rSlB K) (tVar 7) tNoPart (tPart (tVar 8))) tNil))) tNil)) (tSl (rSlB K) (tVar 7) (tPart (tVar 8)) tNoPart)) tNil)))))
def bent3 (K : PySem.W.Frag) : TS :=
 (tSeq (tIfS (tTest (tOp (rEqA K) (tVar 9) (tC (.int 3))))
 (T__law_bent_3 K) tNext)
 (bent4 K))
@[reducible] def T__law_bent_2 (K : PySem.W.Frag) : TS :=
 (tRet (tCall (sp__law_put_parts K) [] E0 (tCons (tVar 2) (tCons (tVar 4) (tCons (tOp (rAddB K) (tOp (rAddB K) (tSl (rSlB K) (tVar 7) tNoPart (tPart (tVar 8))) (tSl (rSlB K) (tVar 7) (tPart (tVar 8)) (tPart (tOp (rAddB K) (tVar 8) (tC (.int 1)))))) (tSl (rSlB K) (tVar 7) (tPart (tVar 8)) tNoPart)) tNil)))))
def bent2 (K : PySem.W.Frag) : TS :=
 (tSeq (tIfS (tTest (tOp (rEqA K) (tVar 9) (tC (.int 2))))
 (T__law_bent_2 K) tNext)
 (bent3 K))
@[reducible] def T__law_bent_1 (K : PySem.W.Frag) : TS :=
 (tRet (tCall (sp__law_put_parts K) [] E0 (tCons (tVar 2) (tCons (tVar 4) (tCons (tOp (rAddB K) (tOp (rAddB K) (tSl (rSlB K) (tVar 7) tNoPart (tPart (tVar 8))) (tTup (tCons (tCall (sp__law_text K) [] E0 (tCons (tVar 0) tNil)) tNil))) (tSl (rSlB K) (tVar 7) (tPart (tVar 8)) tNoPart)) tNil)))))
def bent1 (K : PySem.W.Frag) : TS :=
 (tSeq (tIfS (tTest (tOp (rEqA K) (tVar 9) (tC (.int 1))))
 (T__law_bent_1 K) tNext)
 (bent2 K))
@[reducible] def T__law_bent_0 (K : PySem.W.Frag) : TS :=
 (tRet (tCall (sp__law_put_parts K) [] E0 (tCons (tVar 2) (tCons (tVar 4) (tCons (tOp (rAddB K) (tOp (rAddB K) (tSl (rSlB K) (tVar 7) tNoPart (tPart (tVar 8))) (tTup (tCons (tC (.str ("" : Str))) tNil))) (tSl (rSlB K) (tVar 7) (tPart (tVar 8)) tNoPart)) tNil)))))
def bent0 (K : PySem.W.Frag) : TS :=
 (tSeq (tIfS (tTest (tOp (rEqA K) (tVar 9) (tC (.int 0))))
 (T__law_bent_0 K) tNext)
 (bent1 K))
section
variable {D : Ends} {d pa pb na : Addr} {c : Int} {k : Int} {t u : Tr} {tv pv : V} {pl : List Int} {ws ps : List Tr} {us : List V} {a3 a5 a6 : Option V}
structure Bnt (K : PySem.W.Frag) (H : Hp) (d pa pb : Addr) (t u : Tr) (tv : V) (pl : List Int) (ws ps : List Tr) (us : List V) (k : Int) : Prop where
  dk : Dk H d
  htv : Dv K H t.da tv
  hpa : SqT K H pa (intV pl)
  hpb : SqT K H pb us
  dps : Dvs K H (Tr.das ps) us
  hw : way t pl = some (ws ++ [u])
  hu : u.isTx = false
  hk : u.kids = ps
  hwt : wt t ≤ 10000
  hgt : hgt t ≤ 11
  k0 : 0 ≤ k
  ht : t.isTx = false
theorem Bnt.mv {H' : Hp} (B : Bnt K H d pa pb t u tv pl ws ps us k) (m : Mv d H H') : Bnt K H' d pa pb t u tv pl ws ps us k :=
  have tk := m.tupK B.dk
  { B with dk := m.dk, htv := Dv.tupK tk _ _ (da_fix t) B.htv, hpa := tk.sqT B.hpa, hpb := tk.sqT B.hpb, dps := Dvs.tupK tk _ _ (das_fix ps) B.dps }
theorem Bnt.same {H' : Hp} (B : Bnt K H d pa pb t u tv pl ws ps us k) (m : Same H H') : Bnt K H' d pa pb t u tv pl ws ps us k := B.mv (Mv.same (Mv.refl B.dk) m)
theorem Bnt.psl (B : Bnt K H d pa pb t u tv pl ws ps us k) : us.length ≤ 10000 ∧ wts ps ≤ wt t := by
  have h1 := das_len B.dps
  have h2 := wts_len ps
  have h3 := putP_wt pl t u ws [] B.hw B.hu
  rw [B.hk, wts] at h3
  have := B.hwt
  omega
theorem Bnt.put {Q : VK} {qa : Addr} {qs : List V} {ps' : List Tr} (B : Bnt K H d pa pb t u tv pl ws ps us k) (hq : SqT K H qa qs) (dq : Dvs K H (Tr.das ps') qs) (hw : wts ps' ≤ 2 * wts ps + 12) (hh : hgts ps' ≤ 1 + hgts ps)
    (q : ∀ (t' : Tr) (x : V) (H' : Hp), Mv d H H' → Dv K H' t'.da x → t'.isTx = false → wt t' ≤ 2 * wt t + 20 → My.hgt t' ≤ My.hgt t + 1 → Q x H') : sp__law_put_parts K ([tv, .ref pa, .ref qa] ++ []) H Q E0 := by
  have h1 := putP_wt pl t u ws ps' B.hw B.hu
  have h2 := putP_hgt pl t u ws ps' B.hw B.hu
  have h3 := way_hgt B.hw
  have h4 := B.psl
  have h5 := B.hgt
  have h6 := B.hwt
  rw [B.hk] at h1
  have h7 : My.hgt u = 1 + hgts ps := by
    have := B.hu
    cases u with
    | tx s => cases this
    | nd n qs => rw [My.hgt, ← B.hk]; rfl
  refine ⟨tv, pa, qa, t, u, pl, ws, ps', qs, rfl, B.htv, B.hpa, B.hw, B.hu, by omega, hq, dq, by omega, fun x H' s dx => q _ x H' (Mv.same (Mv.refl B.dk) s) dx (putP_nd B.hw B.ht) (by omega) (by omega)⟩
theorem bent_5 {w : Int} (B : Bnt K H d pa pb t u tv pl ws ps us k) (q : ∀ (t' : Tr) (x : V) (H' : Hp), Mv d H H' → Dv K H' t'.da x → t'.isTx = false → wt t' ≤ 2 * wt t + 20 → My.hgt t' ≤ My.hgt t + 1 → D.rt x H') :
    bent5 K D [some (.ref d), some (.int c), some tv, a3, some (.ref pa), a5, a6, some (.ref pb), some (.int k), some (.int w)] H := by
  obtain ⟨h1, h2⟩ := B.psl
  unfold bent5
  walk_at "s"
  refine v_slT B.hpb fun c1 H1 s1 hc1 => ?_
  rw [cut_drop B.k0] at hc1
  walk_at "s"
  refine v_slT (s1.sqT B.hpb) fun c2 H2 s2 hc2 => ?_
  rw [cut_take B.k0] at hc2
  refine v_catT (s2.sqT hc1) hc2 (sl64 (by rw [List.length_drop, List.length_take]; omega)) fun c3 H3 s3 hc3 => ?_
  have s13 := Same.tr s1 (Same.tr s2 s3)
  have B3 := B.same s13
  walk_at "s"
  have a1 := wts_cut k.toNat ps
  have a2 := hgts_take k.toNat ps
  have a3 := hgts_drop k.toNat ps
  refine B3.put (ps' := ps.drop k.toNat ++ ps.take k.toNat) hc3 ?_ (by rw [wts_app]; omega) (by rw [hgts_app]; omega) fun t' x H' m => q t' x H' (Mv.tr (Mv.same (Mv.refl B.dk) s13) m)
  rw [das_app2, das_take, das_drop]
  exact Dvs.append (dvs_drop _ B3.dps) (dvs_take _ B3.dps)
theorem Bnt.mid {Q : VK} {qa : Addr} {xs : List V} {y : Tr} (B : Bnt K H d pa pb t u tv pl ws ps us k) (hq : SqT K H qa (us.take k.toNat ++ xs ++ us.drop k.toNat)) (dx : Dvs K H (Tr.das [y]) xs) (hw : wt y ≤ 12) (hh : My.hgt y ≤ 1)
    (q : ∀ (t' : Tr) (x : V) (H' : Hp), Mv d H H' → Dv K H' t'.da x → t'.isTx = false → wt t' ≤ 2 * wt t + 20 → My.hgt t' ≤ My.hgt t + 1 → Q x H') : sp__law_put_parts K ([tv, .ref pa, .ref qa] ++ []) H Q E0 := by
  have a1 := wts_cut k.toNat ps
  have a2 := hgts_take k.toNat ps
  have a3 := hgts_drop k.toNat ps
  refine B.put (ps' := ps.take k.toNat ++ [y] ++ ps.drop k.toNat) hq ?_ (by rw [wts_app, wts_app, wts, wts]; omega) (by rw [hgts_app, hgts_app, hgts, hgts]; omega) q
  rw [das_app2, das_app2, das_take, das_drop]
  exact Dvs.append (Dvs.append (dvs_take _ B.dps) dx) (dvs_drop _ B.dps)
theorem bent_4 {w : Int} (B : Bnt K H d pa pb t u tv pl ws ps us k) (q : ∀ (t' : Tr) (x : V) (H' : Hp), Mv d H H' → Dv K H' t'.da x → t'.isTx = false → wt t' ≤ 2 * wt t + 20 → My.hgt t' ≤ My.hgt t + 1 → D.rt x H') :
    bent4 K D [some (.ref d), some (.int c), some tv, a3, some (.ref pa), a5, a6, some (.ref pb), some (.int k), some (.int w)] H := by
  obtain ⟨h1, h2⟩ := B.psl
  unfold bent4
  walk_at "s"
  by_cases e : w = 4
  · rw [decide_eq_true e]; refine iteT ?_
    walk_at "s"
    refine v_slT B.hpb fun c1 H1 s1 hc1 => ?_
    rw [cut_take B.k0] at hc1
    have B1 := B.same s1
    walk_at "s"
    refine ⟨d, 10, rfl, by decide, by decide, B1.dk, fun m H2 m0 m1 mv2 => ?_⟩
    have B2 := B1.mv mv2
    have hc1 := (mv2.tupK B1.dk).sqT hc1
    walk_at "s"
    refine ⟨c, m, rfl, ?_⟩
    walk_at "s"
    refine ⟨sl64 (by walk_at "z"), fun e1 he1 => ?_⟩
    walk_at "s"
    refine ⟨sl64 (by walk_at "z"), fun e2 he2 => ?_⟩
    walk_at "s"
    refine ⟨sl64 (by walk_at "z"), fun e3 he3 => ?_⟩
    have t1 := Same.new he1 (.tup [])
    have t2 := Same.new he2 (.tup [.str (nameF c m), .ref e1])
    have t3 := Same.new he3 (.tup [.ref e2])
    have dn : Dv K (upd (upd (upd H2 e1 (.tup [])) e2 (.tup [.str (nameF c m), .ref e1])) e3 (.tup [.ref e2])) (Tr.nd (nameF c m) []).da (.ref e2) := da_nd (SqT.of (t3 _ _ upd_same)) (SqT.of (t3 _ _ (t2 _ _ upd_same))) (by rw [Tr.das]; exact dvs_nil)
    have h3 : (upd (upd (upd H2 e1 (.tup [])) e2 (.tup [.str (nameF c m), .ref e1])) e3 (.tup [.ref e2])) e3 = some (.tup [.ref e2]) := upd_same
    have t13 := Same.tr t1 (Same.tr t2 t3)
    generalize (upd (upd (upd H2 e1 (.tup [])) e2 (.tup [.str (nameF c m), .ref e1])) e3 (.tup [.ref e2])) = H3 at *
    refine v_catT (t13.sqT hc1) (SqT.of h3) (sl64 (by rw [List.length_take]; show _ + 1 ≤ _; omega)) fun c3 H4 s4 hc3 => ?_
    have B4 := (B2.same t13).same s4
    walk_at "s"
    refine v_slT B4.hpb fun c4 H5 s5 hc4 => ?_
    rw [cut_drop B.k0] at hc4
    refine v_catT (s5.sqT hc3) hc4 (sl64 (by rw [List.length_append, List.length_take, List.length_drop]; show _ + 1 + _ ≤ _; omega)) fun c5 H6 s6 hc5 => ?_
    have B6 := (B4.same s5).same s6
    walk_at "s"
    refine B6.mid (y := .nd (nameF c m) []) hc5 ?_ (by rw [wt, wts]; omega) (by rw [My.hgt, hgts]; omega) fun t' x H' mm => q t' x H' (Mv.tr (Mv.same (Mv.refl B.dk) s1) (Mv.tr mv2 (Mv.tr (Mv.same (Mv.refl B2.dk) (Same.tr t13 (Same.tr s4 (Same.tr s5 s6)))) mm)))
    rw [Tr.das, Tr.das]
    exact Dvs.one (Dv.same (Same.tr s4 (Same.tr s5 s6)) _ _ dn)
  · rw [decide_eq_false e]; refine iteF ?_
    walk_at "s"
    exact bent_5 B q
theorem bent_3 {w : Int} (B : Bnt K H d pa pb t u tv pl ws ps us k) (q : ∀ (t' : Tr) (x : V) (H' : Hp), Mv d H H' → Dv K H' t'.da x → t'.isTx = false → wt t' ≤ 2 * wt t + 20 → My.hgt t' ≤ My.hgt t + 1 → D.rt x H') :
    bent3 K D [some (.ref d), some (.int c), some tv, a3, some (.ref pa), a5, a6, some (.ref pb), some (.int k), some (.int w)] H := by
  obtain ⟨h1, h2⟩ := B.psl
  unfold bent3
  walk_at "s"
  by_cases e : w = 3
  · rw [decide_eq_true e]; refine iteT ?_
    walk_at "s"
    refine ⟨d, 10, rfl, by decide, by decide, B.dk, fun m H2 m0 m1 mv2 => ?_⟩
    have B2 := B.mv mv2
    walk_at "s"
    refine ⟨c, m, rfl, ?_⟩
    walk_at "s"
    refine v_slT B2.hpb fun c1 H3 s3 hc1 => ?_
    rw [cut_take B.k0] at hc1
    have B3 := B2.same s3
    walk_at "s"
    refine ⟨sl64 (by walk_at "z"), fun e2 he2 => ?_⟩
    walk_at "s"
    refine ⟨sl64 (by walk_at "z"), fun e3 he3 => ?_⟩
    have t2 := Same.new he2 (.tup [.str (nameF c m), .ref c1])
    have t3 := Same.new he3 (.tup [.ref e2])
    have t23 := Same.tr t2 t3
    have dn : Dv K (upd (upd H3 e2 (.tup [.str (nameF c m), .ref c1])) e3 (.tup [.ref e2])) (Tr.nd (nameF c m) (ps.take k.toNat)).da (.ref e2) := da_nd (SqT.of (t3 _ _ upd_same)) (t23.sqT hc1) (by rw [das_take]; exact dvs_take _ (Dvs.same t23 _ _ B3.dps))
    have h3 : (upd (upd H3 e2 (.tup [.str (nameF c m), .ref c1])) e3 (.tup [.ref e2])) e3 = some (.tup [.ref e2]) := upd_same
    generalize (upd (upd H3 e2 (.tup [.str (nameF c m), .ref c1])) e3 (.tup [.ref e2])) = H4 at *
    have B4 := B3.same t23
    walk_at "s"
    refine v_slT B4.hpb fun c4 H5 s5 hc4 => ?_
    rw [cut_drop B.k0] at hc4
    refine v_catT (s5.sqT (SqT.of h3)) hc4 (sl64 (by rw [List.length_drop]; show 1 + _ ≤ _; omega)) fun c5 H6 s6 hc5 => ?_
    have B6 := (B4.same s5).same s6
    walk_at "s"
    have a1 := wts_cut k.toNat ps
    have a2 := hgts_take k.toNat ps
    have a3 := hgts_drop k.toNat ps
    refine B6.put (ps' := [.nd (nameF c m) (ps.take k.toNat)] ++ ps.drop k.toNat) hc5 ?_ (by rw [wts_app, wts, wts, wt]; omega) (by rw [hgts_app, hgts, hgts, My.hgt]; omega) fun t' x H' mm => q t' x H' (Mv.tr mv2 (Mv.tr (Mv.same (Mv.refl B2.dk) (Same.tr s3 (Same.tr t23 (Same.tr s5 s6)))) mm))
    rw [das_app2, das_drop]
    refine Dvs.append ?_ (dvs_drop _ B6.dps)
    rw [Tr.das, Tr.das]
    exact Dvs.one (Dv.same (Same.tr s5 s6) _ _ dn)
  · rw [decide_eq_false e]; refine iteF ?_
    walk_at "s"
    exact bent_4 B q
theorem bent_2 {w : Int} (B : Bnt K H d pa pb t u tv pl ws ps us k) (q : ∀ (t' : Tr) (x : V) (H' : Hp), Mv d H H' → Dv K H' t'.da x → t'.isTx = false → wt t' ≤ 2 * wt t + 20 → My.hgt t' ≤ My.hgt t + 1 → D.rt x H') :
    bent2 K D [some (.ref d), some (.int c), some tv, a3, some (.ref pa), a5, a6, some (.ref pb), some (.int k), some (.int w)] H := by
  obtain ⟨h1, h2⟩ := B.psl
  unfold bent2
  walk_at "s"
  by_cases e : w = 2
  · rw [decide_eq_true e]; refine iteT ?_
    walk_at "s"
    refine v_slT B.hpb fun c1 H1 s1 hc1 => ?_
    rw [cut_take B.k0] at hc1
    walk_at "s"
    refine .inl (v_addI ?_)
    walk_at "s"
    refine v_slT (s1.sqT B.hpb) fun c2 H2 s2 hc2 => ?_
    rw [cut_one B.k0] at hc2
    refine v_catT (s2.sqT hc1) hc2 (sl64 (by rw [List.length_take, List.length_take, List.length_drop]; omega)) fun c3 H3 s3 hc3 => ?_
    have s13 := Same.tr s1 (Same.tr s2 s3)
    walk_at "s"
    refine v_slT (s13.sqT B.hpb) fun c4 H4 s4 hc4 => ?_
    rw [cut_drop B.k0] at hc4
    refine v_catT (s4.sqT hc3) hc4 (sl64 (by rw [List.length_append, List.length_take, List.length_take, List.length_drop]; omega)) fun c5 H5 s5 hc5 => ?_
    have s15 := Same.tr s13 (Same.tr s4 s5)
    have B5 := B.same s15
    walk_at "s"
    have a1 := wts_cut k.toNat ps
    have a2 := hgts_take k.toNat ps
    have a3 := hgts_drop k.toNat ps
    have a4 := wts_cut 1 (ps.drop k.toNat)
    have a5 := hgts_take 1 (ps.drop k.toNat)
    refine B5.put (ps' := ps.take k.toNat ++ (ps.drop k.toNat).take 1 ++ ps.drop k.toNat) hc5 ?_ (by rw [wts_app, wts_app]; omega) (by rw [hgts_app, hgts_app]; omega) fun t' x H' m => q t' x H' (Mv.tr (Mv.same (Mv.refl B.dk) s15) m)
    rw [das_app2, das_app2, das_take, das_take, das_drop]
    exact Dvs.append (Dvs.append (dvs_take _ B5.dps) (dvs_take _ (dvs_drop _ B5.dps))) (dvs_drop _ B5.dps)
  · rw [decide_eq_false e]; refine iteF ?_
    walk_at "s"
    exact bent_3 B q
theorem bent_1 {w : Int} (B : Bnt K H d pa pb t u tv pl ws ps us k) (q : ∀ (t' : Tr) (x : V) (H' : Hp), Mv d H H' → Dv K H' t'.da x → t'.isTx = false → wt t' ≤ 2 * wt t + 20 → My.hgt t' ≤ My.hgt t + 1 → D.rt x H') :
    bent1 K D [some (.ref d), some (.int c), some tv, a3, some (.ref pa), a5, a6, some (.ref pb), some (.int k), some (.int w)] H := by
  obtain ⟨h1, h2⟩ := B.psl
  unfold bent1
  walk_at "s"
  by_cases e : w = 1
  · rw [decide_eq_true e]; refine iteT ?_
    walk_at "s"
    refine v_slT B.hpb fun c1 H1 s1 hc1 => ?_
    rw [cut_take B.k0] at hc1
    have B1 := B.same s1
    walk_at "s"
    refine ⟨d, rfl, B1.dk, fun z H2 mv2 z1 z9 => ?_⟩
    have B2 := B1.mv mv2
    have hc1 := (mv2.tupK B1.dk).sqT hc1
    walk_at "s"
    refine ⟨sl64 (by walk_at "z"), fun e3 he3 => ?_⟩
    have t3 := Same.new he3 (.tup [.str z])
    refine v_catT (t3.sqT hc1) (SqT.of upd_same) (sl64 (by rw [List.length_take]; show _ + 1 ≤ _; omega)) fun c3 H4 s4 hc3 => ?_
    have B4 := (B2.same t3).same s4
    walk_at "s"
    refine v_slT B4.hpb fun c4 H5 s5 hc4 => ?_
    rw [cut_drop B.k0] at hc4
    refine v_catT (s5.sqT hc3) hc4 (sl64 (by rw [List.length_append, List.length_take, List.length_drop]; show _ + 1 + _ ≤ _; omega)) fun c5 H6 s6 hc5 => ?_
    have B6 := (B4.same s5).same s6
    walk_at "s"
    refine B6.mid (y := .tx z) hc5 ?_ (by rw [wt]; omega) (by rw [My.hgt]; omega) fun t' x H' mm => q t' x H' (Mv.tr (Mv.same (Mv.refl B.dk) s1) (Mv.tr mv2 (Mv.tr (Mv.same (Mv.refl B2.dk) (Same.tr t3 (Same.tr s4 (Same.tr s5 s6)))) mm)))
    rw [Tr.das, Tr.das]
    exact Dvs.one (da_tx _)
  · rw [decide_eq_false e]; refine iteF ?_
    walk_at "s"
    exact bent_2 B q
theorem bent_0 {w : Int} (B : Bnt K H d pa pb t u tv pl ws ps us k) (q : ∀ (t' : Tr) (x : V) (H' : Hp), Mv d H H' → Dv K H' t'.da x → t'.isTx = false → wt t' ≤ 2 * wt t + 20 → My.hgt t' ≤ My.hgt t + 1 → D.rt x H') :
    bent0 K D [some (.ref d), some (.int c), some tv, a3, some (.ref pa), a5, a6, some (.ref pb), some (.int k), some (.int w)] H := by
  obtain ⟨h1, h2⟩ := B.psl
  unfold bent0
  walk_at "s"
  by_cases e : w = 0
  · rw [decide_eq_true e]; refine iteT ?_
    walk_at "s"
    refine v_slT B.hpb fun c1 H1 s1 hc1 => ?_
    rw [cut_take B.k0] at hc1
    have B2 := B.same s1
    walk_at "s"
    refine ⟨sl64 (by walk_at "z"), fun e3 he3 => ?_⟩
    have t3 := Same.new he3 (.tup [.str ("" : Str)])
    refine v_catT (t3.sqT hc1) (SqT.of upd_same) (sl64 (by rw [List.length_take]; show _ + 1 ≤ _; omega)) fun c3 H4 s4 hc3 => ?_
    have B4 := (B2.same t3).same s4
    walk_at "s"
    refine v_slT B4.hpb fun c4 H5 s5 hc4 => ?_
    rw [cut_drop B.k0] at hc4
    refine v_catT (s5.sqT hc3) hc4 (sl64 (by rw [List.length_append, List.length_take, List.length_drop]; show _ + 1 + _ ≤ _; omega)) fun c5 H6 s6 hc5 => ?_
    have B6 := (B4.same s5).same s6
    walk_at "s"
    refine B6.mid (y := .tx ("" : Str)) hc5 ?_ (by rw [wt]; decide) (by rw [My.hgt]; omega) fun t' x H' mm => q t' x H' (Mv.tr (Mv.same (Mv.refl B.dk) (Same.tr s1 (Same.tr t3 (Same.tr s4 (Same.tr s5 s6))))) mm)
    rw [Tr.das, Tr.das]
    exact Dvs.one (da_tx _)
  · rw [decide_eq_false e]; refine iteF ?_
    walk_at "s"
    exact bent_1 B q
end
@[reducible] def T__law_bent_11 (K : PySem.W.Frag) : TS :=
 (tSeq (tAsg (tCall (sp__law_draw K) [] E0 (tCons (tVar 0) (tCons (tC (.int 6)) tNil))) (gName 9))
 (bent0 K))
@[reducible] def T__law_bent_12 (K : PySem.W.Frag) : TS :=
 (tSeq (tAsg (tCall (sp__law_draw K) [] E0 (tCons (tVar 0) (tCons (tOp (rAddB K) (tCB (rLenA K) (tCons (tVar 7) tNil)) (tC (.int 1))) tNil))) (gName 8))
 (T__law_bent_11 K))
@[reducible] def T__law_bent_13 (K : PySem.W.Frag) : TS :=
 (tSeq (tAsg (tOp (rIxA K) (tVar 3) (tCall (sp__law_draw K) [] E0 (tCons (tVar 0) (tCons (tCB (rLenA K) (tCons (tVar 3) tNil)) tNil)))) (gTup K 3 (gCons (gName 4) (gCons (gName 5) (gCons (gName 6) gNil)))))
 (tSeq (tAsg (tOp (rIxA K) (tVar 6) (tC (.int 1))) (gName 7))
 (T__law_bent_12 K)))
def sp__law_bent (K : PySem.W.Frag) : Sp := fun vs H Q _ => ∃ (d : Addr) (c : Int) (tv : V) (t : Tr), vs = [.ref d, .int c, tv] ∧ Dk H d ∧ Dv K H t.da tv ∧ t.isTx = false ∧ wt t ≤ 10000 ∧ hgt t ≤ 11 ∧ ∀ (t' : Tr) (x : V) (H' : Hp), Mv d H H' → Dv K H' t'.da x → t'.isTx = false → wt t' ≤ 2 * wt t + 20 → hgt t' ≤ hgt t + 1 → Q x H'
theorem len__law_bent (K : PySem.W.Frag) : ∀ vs H Q E, sp__law_bent K vs H Q E → vs.length = ["_law_deck", "_law_code", "_law_tree"].length := by rintro vs H Q E ⟨d, c, tv, t, rfl, _⟩; rfl
def R__law_bent (K : PySem.W.Frag) : TS :=
 (tSeq (tAsg (tComp [none] (iAny K (tCall (sp__law_walk K) [] E0 (tCons (tVar 2) tNil))) (gName 0) (tNot (tB (tCB (rIsi K) (tCons (tOp (rIxA K) (tVar 0) (tC (.int 2))) (tCons (tC (.ty "str")) tNil))))) (tVar 0)) (gName 3))
 (T__law_bent_13 K))
theorem rd__law_bent (h : sp__law_bent K vs H Q E) : R__law_bent K { nx := fun _ H' => Q .non H', rt := Q } (start ["_law_deck", "_law_code", "_law_tree", "_law_walked", "_law_place", "_law_names", "_law_part", "_law_parts", "_law_k", "_law_way"] vs) H := by
  obtain ⟨d, c, tv, t, rfl, dk, htv, ht, hz, hh, q⟩ := h
  show R__law_bent K _ [some (.ref d), some (.int c), some tv, none, none, none, none, none, none, none] H
  unfold R__law_bent
  have hwk : wk ([], [], t) = ([], [], t) :: (wbK [] [] t).map (·.1) := wbK_wk [] [] [] t
  have hwl : (wk ([], [], t)).length ≤ wt t := wkT_wt _ _ _ t
  walk_at "s"
  refine ⟨t, tv, rfl, htv, by omega, fun p us H1 s1 np hp w3 => ?_⟩
  have hul := w3.length
  let Pv0 : Nat → List V → Hp → Prop := fun i ys H' => H' = H1 ∧ ∃ xs : List T3, W3s K H1 xs ys ∧ (∀ x ∈ xs, x ∈ wk ([], [], t) ∧ x.2.2.isTx = false) ∧ xs.length ≤ i ∧ (1 ≤ i → 1 ≤ xs.length)
  refine any_compL (xs := us) (SqL.of hp) Pv0 ⟨rfl, [], rfl, by simp, by simp, by simp⟩ ?_ ?_ ?_ ?_
  · rintro i ys H' hi ⟨rfl, xs, w, _, h1, _⟩
    rw [w.length]; exact sl64 (by omega)
  · rintro i ys H' hi ⟨rfl, _⟩
    exact SqL.of hp
  · rintro i x ys H' hx ⟨rfl, xs, w, hm, h1, h2⟩
    obtain ⟨y, hy, wy⟩ := w3.get hx
    have wy0 := wy
    obtain ⟨xa, pa, na, pv, rfl, k1, k2, k3, k4⟩ := wy
    walk_at "s"
    refine v_ixT (SqT.of k1) (v := pv) (atI_nat (j := 2) rfl) ?_
    walk_at "s"
    refine isi_tr k4 ?_
    walk_at "s"
    cases htx : y.2.2.isTx with
    | false =>
      refine iteT ?_
      walk_at "s"
      refine ⟨rfl, xs ++ [y], W3s.app w (W3s.one wy0), fun z hz => ?_, by simp; omega, fun _ => by simp⟩
      rcases List.mem_append.mp hz with hz | hz
      · exact hm z hz
      · rw [List.mem_singleton.mp hz]; exact ⟨List.mem_of_getElem? hy, htx⟩
    | true =>
      refine iteF ?_
      refine ⟨rfl, xs, w, hm, by omega, fun _ => ?_⟩
      cases i with
      | zero =>
        rw [hwk] at hy
        cases hy
        rw [ht] at htx; cases htx
      | succ i => exact h2 (by omega)
  · rintro ys H' ⟨rfl, xs, w, hm, h1, h2⟩ wd hwd
    have h2 : 1 ≤ xs.length := h2 (by rw [hul, hwk]; simp)
    have hyl := w.length
    have s2 := Same.new hwd (.lst ys)
    have e2 : (upd H' wd (.lst ys)) wd = some (.lst ys) := upd_same
    have w := w.tupK s2.tupK
    have s12 := Same.tr s1 s2
    generalize upd H' wd (.lst ys) = H2 at *
    have dk2 := dk.same s12
    walk_at "s"
    refine v_lenQ (.inl (SqL.of e2)) ?_
    walk_at "s"
    refine ⟨d, (ys.length : Int), rfl, by omega, by omega, dk2, fun m H3 m0 m1 mv3 => ?_⟩
    walk_at "s"
    have nwd : wd ≠ d := (dk.same s1).ne hwd
    have hml : m.toNat < ys.length := by omega
    refine v_ixL (SqL.of (mv3.at e2 nwd)) (ixI m0 (List.getElem?_eq_getElem hml)) ?_
    obtain ⟨y, hy, wy⟩ := (w.tupK (mv3.tupK dk2)).get (List.getElem?_eq_getElem hml)
    obtain ⟨xa, pa, na, pv, ev, k1, k2, k3, k4⟩ := wy
    obtain ⟨hym, hyt⟩ := hm y (List.mem_of_getElem? hy)
    rw [ev]
    refine ⟨xa, _, rfl, SqT.of k1, rfl, _, _, rfl, st_name ⟨_, _, rfl, st_name ⟨_, _, rfl, st_name ⟨rfl, ?_⟩⟩⟩⟩
    have hway : ∃ ws, way t y.1 = some (ws ++ [y.2.2]) := by
      rw [hwk, List.mem_cons] at hym
      rcases hym with rfl | hym
      · exact ⟨[], by rw [way]; rfl⟩
      · obtain ⟨z, hz, rfl⟩ := List.mem_map.mp hym
        exact wbK_way t [] [] [] t (by rw [way]; rfl) z hz
    obtain ⟨ws, hway⟩ := hway
    obtain ⟨pl, ns, u⟩ := y
    cases u with
    | tx s => cases hyt
    | nd n ps =>
      obtain ⟨ta, pb, us2, rfl, hta, htb, hd2⟩ := tr_parts k4
      walk_at "s"
      refine v_ixT hta (v := .ref pb) (atI_nat (j := 1) rfl) ?_
      walk_at "s"
      refine v_lenQ (.inr htb) ?_
      refine .inl (v_addI ?_)
      walk_at "s"
      have hul2 := das_len hd2
      refine ⟨d, (us2.length : Int) + 1, rfl, by omega, ?_, mv3.dk, fun k H4 k0 k1' mv4 => ?_⟩
      · have := putP_wt pl t (.nd n ps) ws [] hway rfl
        have h9 : wts (Tr.nd n ps).kids = wts ps := rfl
        rw [h9, wts] at this
        have := wts_len ps
        omega
      walk_at "s"
      refine ⟨d, 6, rfl, by decide, by decide, mv4.dk, fun w H5 w0 w1 mv5 => ?_⟩
      walk_at "s"
      have B : Bnt K H3 d pa pb t (.nd n ps) tv pl ws ps us2 k := ⟨mv3.dk, Dv.tupK (mv3.tupK dk2) _ _ (da_fix t) (Dv.same s12 _ _ htv), SqT.of k2, htb, hd2, hway, rfl, rfl, hz, hh, k0, ht⟩
      have B5 := (B.mv mv4).mv mv5
      exact bent_0 B5 fun t' x H' m => q t' x H' (Mv.tr (Mv.same (Mv.refl dk) s12) (Mv.tr mv3 (Mv.tr mv4 (Mv.tr mv5 m))))
end My
namespace My
open PySem L2
variable {K : PySem.W.Frag} {vs : List V} {H : Hp} {Q : VK} {E : XK}
def gr3 (K : PySem.W.Frag) : TS :=
 (tIfS (tTest (tOp rIsA (tCall (sp__law_fault K) [] E0 (tCons (tVar 1) (tCons (tVar 2) (tCons (tVar 8) (tCons (tOp (rIxA K) (tOp (rAddB K) (tVar 4) (tLst (tCons (tC .non) tNil))) (tOp (rI0 fun i j => .int (i - j)) (tCB (rLenA K) (tCons (tVar 4) tNil)) (tC (.int 1)))) tNil))))) (tC .non)))
 (tDrop (tBM K "list" rAppend (tVar 4) (tCons (tVar 8) tNil))) tNext)
theorem ffs_snoc (rs : List Row) (pl : List Int) (ns : List Str) (u : Tr) : ∀ (ts : List Tr) (k : Nat) (bs : Bool), ffs rs pl ns k bs (ts ++ [u]) = ffs rs pl ns k bs ts ++ ((pl ++ [((k + ts.length : Nat) : Int)], faultF rs ns u (match ts.getLast? with | some w => w.isTx | none => bs)) :: ffk rs (pl ++ [((k + ts.length : Nat) : Int)]) (ns ++ [nmOf u]) u)
  | [], k, bs => by rw [List.nil_append, ffs, ffs, ffs, List.append_nil]; rfl
  | t :: ts, k, bs => by
    rw [List.cons_append, ffs, ffs_snoc rs pl ns u ts (k + 1) t.isTx, ffs, List.cons_append, List.append_assoc, List.length_cons, show k + 1 + ts.length = k + (ts.length + 1) by omega]
    cases ts with
    | nil => rfl
    | cons w l => rw [List.getLast?_cons_cons]; cases h : (w :: l).getLast? with | none => simp at h | some z => rfl
noncomputable def BB : Nat → Nat
  | 0 => 10
  | n + 1 => 1 + 3 * BB n
theorem BB_ge : ∀ n, 10 ≤ BB n
  | 0 => Nat.le_refl _
  | n + 1 => by have := BB_ge n; rw [BB]; omega
section
variable {spr : Sp} {D : Ends} {d bk na p4 : Addr} {m : Nat} {us vs : List V} {rs : List Row} {ns : List Str} {fv : V} {k : Int} {ts : List Tr} {u : Tr} {pv : V} {a7 a8 a9 : Option V}
structure Grw (K : PySem.W.Frag) (H : Hp) (d bk na : Addr) (m : Nat) (us : List V) (rs : List Row) (ns : List Str) : Prop where
  dk : Dk H d
  hbk : SqT K H bk us
  dvs : Dvs K H (rs.map Row.da) us
  r1 : 1 ≤ rs.length
  r8 : rs.length ≤ 8
  B : BkS rs
  hna : SqT K H na (strV ns)
  nl : ns.length + m ≤ 50
theorem Grw.mv {H' : Hp} (G : Grw K H d bk na m us rs ns) (mv : Mv d H H') : Grw K H' d bk na m us rs ns :=
  have tk := mv.tupK G.dk
  { G with dk := mv.dk, hbk := tk.sqT G.hbk, dvs := Dvs.tupK tk _ _ (fixs_map Row.fix rs) G.dvs, hna := tk.sqT G.hna }
theorem Grw.same {H' : Hp} (G : Grw K H d bk na m us rs ns) (s : Same H H') : Grw K H' d bk na m us rs ns := G.mv (Mv.same (Mv.refl G.dk) s)
theorem Grw.rws (G : Grw K H d bk na m us rs ns) : Rws K H (.ref bk) rs := ⟨bk, us, rfl, .inr G.hbk, G.dvs⟩
structure Prt (K : PySem.W.Frag) (H : Hp) (p4 : Addr) (m : Nat) (rs : List Row) (ns : List Str) (vs : List V) (ts : List Tr) : Prop where
  h4 : H p4 = some (.lst vs)
  dt : Dvs K H (Tr.das ts) vs
  wt : wts ts ≤ ts.length * BB m
  hg : hgts ts ≤ m + 1
  ff : ∀ pl, ∀ y ∈ ffs rs pl ns 0 false ts, y.2 = none
theorem Prt.same {H' : Hp} (P : Prt K H p4 m rs ns vs ts) (s : Same H H') : Prt K H' p4 m rs ns vs ts := { P with h4 := s _ _ P.h4, dt := Dvs.same s _ _ P.dt }
theorem Prt.mv {H' : Hp} (P : Prt K H p4 m rs ns vs ts) (dk : Dk H d) (n : p4 ≠ d) (s : Mv d H H') : Prt K H' p4 m rs ns vs ts := { P with h4 := s.at P.h4 n, dt := Dvs.tupK (s.tupK dk) _ _ (das_fix ts) P.dt }
theorem gr_3 (G : Grw K H d bk na m us rs ns) (P : Prt K H p4 m rs ns vs ts) (n4 : p4 ≠ d) (hl : ts.length ≤ 10) (hpv : Dv K H u.da pv) (hw : My.wt u ≤ BB m) (hh : hgt u ≤ m + 1) (hf : ∀ pl, ∀ y ∈ ffk rs pl (ns ++ [nmOf u]) u, y.2 = none)
    (q : ∀ (H' : Hp) (vs : List V) (ts' : List Tr), Grw K H' d bk na m us rs ns → Prt K H' p4 m rs ns vs ts' → ts'.length ≤ ts.length + 1 → But [d, p4] H H' → D.nx [some (.ref d), some (.ref bk), some (.ref na), some (.int ((m : Int) + 1)), some (.ref p4), some fv, some (.int k), a7, some pv, a9] H') :
    gr3 K D [some (.ref d), some (.ref bk), some (.ref na), some (.int ((m : Int) + 1)), some (.ref p4), some fv, some (.int k), a7, some pv, a9] H := by
  have hvl := das_len P.dt
  unfold gr3
  walk_at "s"
  refine ⟨sl64 (by walk_at "z"), fun e he => ?_⟩
  have s1 := Same.new he (.lst [.non])
  have P1 := P.same s1
  refine .inl (v_cat P1.h4 upd_same (by rw [hvl]; exact sl64 (by show _ + 1 ≤ _; omega)) fun l hl2 => ?_)
  have s2 := Same.new hl2 (.lst (vs ++ [.non]))
  have hl3 : (upd (upd H e (.lst [.non])) l (.lst (vs ++ [.non]))) l = some (.lst (vs ++ [.non])) := upd_same
  have s12 := Same.tr s1 s2
  generalize (upd (upd H e (.lst [.non])) l (.lst (vs ++ [.non]))) = H2 at *
  have G2 := G.same s12
  have P2 := P.same s12
  walk_at "s"
  refine v_lenQ (.inl (SqL.of P2.h4)) ?_
  walk_at "s"
  have hah : ∃ av, atI (vs ++ [V.non]) ((vs.length : Int) - 1) = some av ∧ Ahd K H2 av (match ts.getLast? with | some w => w.isTx | none => false) := by
    cases ts with
    | nil =>
      have : vs = [] := List.length_eq_zero_iff.mp hvl
      subst this
      exact ⟨.non, rfl, .inl ⟨rfl, rfl⟩⟩
    | cons t0 tr =>
      have hne : (t0 :: tr) ≠ [] := by simp
      have hlt : (t0 :: tr).length - 1 < (t0 :: tr).length := by simp
      obtain ⟨w, hw1, hw2⟩ := das_get P2.dt (List.getElem?_eq_getElem hlt)
      refine ⟨w, ?_, .inr ⟨_, hw2, ?_⟩⟩
      · have e : ((vs.length : Int) - 1) = (((t0 :: tr).length - 1 : Nat) : Int) := by rw [hvl, List.length_cons]; omega
        rw [e]
        refine atI_nat ?_
        rw [List.getElem?_append_left (by rw [hvl]; exact hlt)]
        exact hw1
      · rw [List.getLast?_eq_getElem?, List.getElem?_eq_getElem hlt]
  obtain ⟨av, hav1, hav2⟩ := hah
  refine v_ixL (SqL.of hl3) hav1 ?_
  walk_at "s"
  have h50 := G.nl
  have hr8 := G.r8
  refine ⟨.ref bk, na, pv, av, rs, ns, u, _, rfl, G.B, G2.rws, by omega, G2.hna, by omega, Dv.same s12 _ _ hpv, hav2, fun H3 s3 => ?_⟩
  have s13 := Same.tr s12 s3
  have G3 := G.same s13
  have P3 := P.same s13
  walk_at "s"
  rw [oV_non]
  cases ef : faultF rs ns u (match ts.getLast? with | some w => w.isTx | none => false) with
  | none =>
    refine iteT ?_
    walk_at "s"
    refine ⟨.inl ⟨rfl, _, SqL.of P3.h4⟩, ?_⟩
    walk_at "s"
    refine v_append P3.h4 (by rw [hvl, sizeLine_eq]; omega) ?_
    have tk := tupK_lst (ys := vs ++ [pv]) P3.h4
    refine q _ _ (ts ++ [u]) ⟨G3.dk.put n4 _, tk.sqT G3.hbk, Dvs.tupK tk _ _ (fixs_map Row.fix rs) G3.dvs, G.r1, G.r8, G.B, tk.sqT G3.hna, G.nl⟩ ⟨upd_same, ?_, ?_, ?_, ?_⟩ (by simp) (But.tr (Same.two d p4 s13) (But.upd (by simp) _))
    · rw [das_app2]
      refine Dvs.append (Dvs.tupK tk _ _ (das_fix ts) P3.dt) ?_
      rw [Tr.das, Tr.das]
      exact Dvs.one (Dv.tupK tk _ _ (da_fix u) (Dv.same s13 _ _ hpv))
    · have := P.wt
      rw [wts_app, wts, wts, List.length_append, List.length_singleton, Nat.add_mul]; omega
    · have := P.hg
      rw [hgts_app, hgts, hgts]; omega
    · intro pl y hy
      rw [ffs_snoc] at hy
      rcases List.mem_append.mp hy with hy | hy
      · exact P.ff pl y hy
      · rcases List.mem_cons.mp hy with rfl | hy
        · exact ef
        · exact hf _ y hy
  | some r =>
    refine iteF ?_
    walk_at "s"
    exact q _ _ ts G3 P3 (by omega) (Same.two d p4 s13)
end
def grP (K : PySem.W.Frag) : TS :=
 (tAsg (tTup (tCons (tOp (rIxA K) (tVar 7) (tC (.int 0))) (tCons (tVar 9) tNil))) (gName 8))
@[reducible] def T__law_grown_2 (K : PySem.W.Frag) (spr : Sp) : TS :=
 (tAsg (tCall spr [] E0 (tCons (tVar 0) (tCons (tVar 1) (tCons (tOp (rAddB K) (tVar 2) (tTup (tCons (tOp (rIxA K) (tVar 7) (tC (.int 0))) tNil))) (tCons (tOp (rI0 fun i j => .int (i - j)) (tVar 3) (tC (.int 1))) tNil))))) (gName 9))
@[reducible] def T__law_grown_3 (K : PySem.W.Frag) (spr : Sp) : TS :=
 (tSeq (tIfS (tAnd (tTest (tOp (rNeA K) (tOp (rIxA K) (tVar 7) (tC (.int 1))) (tC (.str ("bare" : Str))))) (tTest (tOp rGtA (tVar 3) (tC (.int 1)))))
 (T__law_grown_2 K spr) tNext)
 (grP K))
def grE (K : PySem.W.Frag) (spr : Sp) : TS :=
 (tSeq (tAsg (tTup tNil) (gName 9))
 (T__law_grown_3 K spr))
def gr2 (K : PySem.W.Frag) (spr : Sp) : TS :=
 (tSeq (tIfS (tAnd (tTest (tOp (rNeA K) (tOp (rIxA K) (tVar 5) (tC (.int 1))) (tC (.str ("frame" : Str))))) (tTest (tOp (rEqA K) (tCall (sp__law_draw K) [] E0 (tCons (tVar 0) (tCons (tC (.int 3)) tNil))) (tC (.int 0)))))
 (tAsg (tCall (sp__law_text K) [] E0 (tCons (tVar 0) tNil)) (gName 8)) (grE K spr))
 (gr3 K))
@[reducible] def T__law_grown_1 (K : PySem.W.Frag) : TS :=
 (tAsg (tCall (sp__law_row K) [] E0 (tCons (tVar 1) (tCons (tOp (rIxA K) (tVar 5) (tC (.int 2))) tNil))) (gName 7))
@[reducible] def T__law_grown_6 (K : PySem.W.Frag) (spr : Sp) : TS :=
 (tSeq (tIfS (tTest (tOp (rEqA K) (tOp (rIxA K) (tVar 5) (tC (.int 1))) (tC (.str ("frame" : Str)))))
 (T__law_grown_1 K) tNext)
 (gr2 K spr))
@[reducible] def T__law_grown_7 (K : PySem.W.Frag) (spr : Sp) : TS :=
 (tSeq (tAsg (tOp (rIxA K) (tVar 1) (tCall (sp__law_draw K) [] E0 (tCons (tVar 0) (tCons (tCB (rLenA K) (tCons (tVar 1) tNil)) tNil)))) (gName 7))
 (T__law_grown_6 K spr))
def growT (K : PySem.W.Frag) (spr : Sp) : TS :=
 (tSeq (tFor (iRng1 (tCons (tOp (rAddB K) (tCall (sp__law_draw K) [] E0 (tCons (tVar 0) (tCons (tC (.int 4)) tNil))) (tCB rIntA (tCons (tOp (rEqA K) (tVar 2) (tTup tNil)) tNil))) tNil)) (gName 6)
 (T__law_grown_7 K spr))
 (tRet (tCB (rTupleA K) (tCons (tVar 4) tNil))))
section
variable {spr : Sp} {D : Ends} {d bk na p4 : Addr} {m : Nat} {us vs : List V} {rs : List Row} {ns : List Str} {fv rv : V} {k : Int} {ts : List Tr} {fr r : Row} {a8 a9 : Option V}
def Less (K : PySem.W.Frag) (spr : Sp) (d bk : Addr) (m : Nat) (us : List V) (rs : List Row) (ns : List Str) : Prop := ∀ (H1 : Hp) (na2 : Addr) (m' : Nat) (x : Str) (Q : VK), m = m' + 1 → Grw K H1 d bk na2 m' us rs (ns ++ [x]) → (∀ (t : Addr) (vs : List V) (ps : List Tr) (H' : Hp), Mv d H1 H' → H' t = some (.tup vs) → Dvs K H' (Tr.das ps) vs → (∀ pl, ∀ y ∈ ffs rs pl (ns ++ [x]) 0 false ps, y.2 = none) → wts ps ≤ 3 * BB m' → hgts ps ≤ m' + 1 → Q (.ref t) H') → spr [.ref d, .ref bk, .ref na2, .int ((m' : Int) + 1)] H1 Q E0
theorem gr_E (G : Grw K H d bk na m us rs ns) (hrv : Dv K H r.da rv) (hs : Less K spr d bk m us rs ns) (q : ∀ (H' : Hp) (pv : V) (u : Tr) (a9 : Option V), Mv d H H' → Dv K H' u.da pv → My.wt u ≤ BB m → hgt u ≤ m + 1 → (∀ pl, ∀ y ∈ ffk rs pl (ns ++ [nmOf u]) u, y.2 = none) → D.nx [some (.ref d), some (.ref bk), some (.ref na), some (.int ((m : Int) + 1)), some (.ref p4), some fv, some (.int k), some rv, some pv, a9] H') :
    grE K spr D [some (.ref d), some (.ref bk), some (.ref na), some (.int ((m : Int) + 1)), some (.ref p4), some fv, some (.int k), some rv, a8, a9] H := by
  obtain ⟨rb, sv, bv, rfl, hrb, _, _⟩ := row_parts hrv
  have hB := BB_ge m
  unfold grE
  walk_at "s"
  refine ⟨sl64 (by walk_at "z"), fun e he => ?_⟩
  have s1 := Same.new he (.tup [])
  have e1 : (upd H e (.tup [])) e = some (.tup []) := upd_same
  generalize upd H e (.tup []) = H1 at *
  have G1 := G.same s1
  have hrb1 := s1.sqT hrb
  have fin : ∀ (D : Ends) (H2 : Hp) (ia : Addr) (is : List V) (ps : List Tr), Mv d H H2 → SqT K H2 rb [.str r.name, .str r.sort, .str r.host, sv, bv] → SqT K H2 ia is → Dvs K H2 (Tr.das ps) is → (∀ pl, ∀ y ∈ ffs rs pl (ns ++ [r.name]) 0 false ps, y.2 = none) → 1 + wts ps ≤ BB m → hgts ps ≤ m → (∀ (H' : Hp) (pv : V) (u : Tr) (a9 : Option V), Mv d H H' → Dv K H' u.da pv → My.wt u ≤ BB m → hgt u ≤ m + 1 → (∀ pl, ∀ y ∈ ffk rs pl (ns ++ [nmOf u]) u, y.2 = none) → D.nx [some (.ref d), some (.ref bk), some (.ref na), some (.int ((m : Int) + 1)), some (.ref p4), some fv, some (.int k), some (.ref rb), some pv, a9] H') → grP K D [some (.ref d), some (.ref bk), some (.ref na), some (.int ((m : Int) + 1)), some (.ref p4), some fv, some (.int k), some (.ref rb), a8, some (.ref ia)] H2 := by
    intro D H2 ia is ps mv2 hr2 hi2 di hff hw hh qq
    unfold grP
    walk_at "s"
    refine v_ixT hr2 (v := .str r.name) (atI_nat (j := 0) rfl) ?_
    walk_at "s"
    refine ⟨sl64 (by walk_at "z"), fun p hp => ?_⟩
    have s3 := Same.new hp (.tup [.str r.name, .ref ia])
    walk_at "s"
    refine qq _ _ (.nd r.name ps) _ (mv2.same s3) (da_nd (SqT.of upd_same) (s3.sqT hi2) (Dvs.same s3 _ _ di)) (by rw [My.wt]; exact hw) (by rw [hgt]; omega) fun pl y hy => ?_
    rw [ffk] at hy
    exact hff pl y hy
  have nil : grP K D [some (.ref d), some (.ref bk), some (.ref na), some (.int ((m : Int) + 1)), some (.ref p4), some fv, some (.int k), some (.ref rb), a8, some (.ref e)] H1 := fin D H1 e [] [] (Mv.same (Mv.refl G.dk) s1) hrb1 (SqT.of e1) (by rw [Tr.das]; exact dvs_nil) (fun pl y hy => by rw [ffs] at hy; cases hy) (by rw [wts]; omega) (by rw [hgts]; omega) q
  walk_at "s"
  refine v_ixT hrb1 (v := .str r.sort) (atI_nat (j := 1) rfl) ?_
  walk_at "s"
  by_cases hb : r.sort = ("bare" : Str)
  · rw [decide_eq_true hb]; refine iteF ?_
    refine iteF ?_
    walk_at "s"
    exact nil
  · rw [decide_eq_false hb]; refine iteT ?_
    walk_at "s"
    cases m with
    | zero =>
      refine iteF ?_
      walk_at "s"
      exact nil
    | succ m' =>
      rw [decide_eq_true (by omega)]; refine iteT ?_
      walk_at "s"
      refine v_ixT hrb1 (v := .str r.name) (atI_nat (j := 0) rfl) ?_
      walk_at "s"
      refine ⟨sl64 (by walk_at "z"), fun c hc => ?_⟩
      have s2 := Same.new hc (.tup [.str r.name])
      have h50 := G.nl
      refine v_catT (s2.sqT G1.hna) (SqT.of upd_same) (by rw [strV_len]; exact sl64 (by show _ + 1 ≤ _; omega)) fun na2 H3 s3 hna2 => ?_
      have s23 := Same.tr s2 s3
      walk_at "s"
      rw [show ((m' + 1 : Nat) : Int) + 1 - 1 = (m' : Int) + 1 by omega]
      have G3 := G1.same s23
      refine hs H3 na2 m' r.name _ rfl ⟨G3.dk, G3.hbk, G3.dvs, G.r1, G.r8, G.B, (by rw [← strV_app]; exact hna2), by rw [List.length_append, List.length_singleton]; omega⟩ fun t vs ps H4 mv4 ht dv hff hw hh => ?_
      have s13 := Same.tr s1 s23
      walk_at "s"
      exact fin D H4 t vs ps (Mv.tr (Mv.same (Mv.refl G.dk) s13) mv4) ((mv4.tupK G3.dk).sqT (s23.sqT hrb1)) (SqT.of ht) dv hff (by rw [BB]; omega) (by omega) q
theorem gr_2 (G : Grw K H d bk na m us rs ns) (P : Prt K H p4 m rs ns vs ts) (n4 : p4 ≠ d) (hl : ts.length ≤ 10) (hfv : Dv K H fr.da fv) (hrv : Dv K H r.da rv) (hs : Less K spr d bk m us rs ns)
    (q : ∀ (H' : Hp) (vs : List V) (ts' : List Tr) (a8 a9 : Option V), Grw K H' d bk na m us rs ns → Prt K H' p4 m rs ns vs ts' → ts'.length ≤ ts.length + 1 → But [d, p4] H H' → D.nx [some (.ref d), some (.ref bk), some (.ref na), some (.int ((m : Int) + 1)), some (.ref p4), some fv, some (.int k), some rv, a8, a9] H') :
    gr2 K spr D [some (.ref d), some (.ref bk), some (.ref na), some (.int ((m : Int) + 1)), some (.ref p4), some fv, some (.int k), some rv, a8, a9] H := by
  obtain ⟨fb, fsv, fbv, rfl, hfb, _, _⟩ := row_parts hfv
  have hB := BB_ge m
  have els : ∀ H1, Mv d H H1 → grE K spr { D with nx := gr3 K D } [some (.ref d), some (.ref bk), some (.ref na), some (.int ((m : Int) + 1)), some (.ref p4), some (.ref fb), some (.int k), some rv, a8, a9] H1 := by
    intro H1 mv1
    refine gr_E (G.mv mv1) (Dv.tupK (mv1.tupK G.dk) _ _ (Row.fix r) hrv) hs fun H2 pv u a9 mv2 hpv hw hh hf => ?_
    have mv12 := Mv.tr mv1 mv2
    exact gr_3 (G.mv mv12) (P.mv G.dk n4 mv12) n4 hl hpv hw hh hf fun H' vs ts' g p l bt => q H' vs ts' _ _ g p l (But.tr (mv12.two p4) bt)
  unfold gr2
  walk_at "s"
  refine v_ixT hfb (v := .str fr.sort) (atI_nat (j := 1) rfl) ?_
  walk_at "s"
  by_cases hf : fr.sort = ("frame" : Str)
  · rw [decide_eq_true hf]; refine iteF ?_
    refine iteF ?_
    exact els H (Mv.refl G.dk)
  · rw [decide_eq_false hf]; refine iteT ?_
    walk_at "s"
    refine ⟨d, 3, rfl, by decide, by decide, G.dk, fun x H1 x0 x1 mv1 => ?_⟩
    walk_at "s"
    by_cases hx : x = 0
    · rw [decide_eq_true hx]; refine iteT ?_
      walk_at "s"
      refine ⟨d, rfl, mv1.dk, fun z H2 mv2 z1 z9 => ?_⟩
      walk_at "s"
      have mv12 := Mv.tr mv1 mv2
      exact gr_3 (u := .tx z) (G.mv mv12) (P.mv G.dk n4 mv12) n4 hl (da_tx _) (by rw [My.wt]; omega) (by rw [hgt]; omega) (fun pl y hy => by rw [ffk] at hy; cases hy) fun H' vs ts' g p l bt => q H' vs ts' _ _ g p l (But.tr (mv12.two p4) bt)
    · rw [decide_eq_false hx]; refine iteF ?_
      exact els H1 mv1
theorem grow_T {a6 a7 : Option V} (G : Grw K H d bk na m us rs ns) (h4 : H p4 = some (.lst [])) (n4 : p4 ≠ d) (hfv : Dv K H fr.da fv) (hs : Less K spr d bk m us rs ns)
    (q : ∀ (t : Addr) (vs : List V) (ps : List Tr) (H' : Hp), But [d, p4] H H' → Dk H' d → H' t = some (.tup vs) → Dvs K H' (Tr.das ps) vs → (∀ pl, ∀ y ∈ ffs rs pl ns 0 false ps, y.2 = none) → wts ps ≤ ps.length * BB m → ps.length ≤ 3 + (if ns = [] then 1 else 0) → hgts ps ≤ m + 1 → D.rt (.ref t) H') :
    growT K spr D [some (.ref d), some (.ref bk), some (.ref na), some (.int ((m : Int) + 1)), some (.ref p4), some fv, a6, a7, a8, a9] H := by
  have hd4 : ∃ xs, H d = some (.lst xs) := G.dk.lst
  unfold growT
  walk_at "s"
  refine ⟨d, 4, rfl, by decide, by decide, G.dk, fun x H1 x0 x1 mv1 => ?_⟩
  walk_at "s"
  refine ⟨sl64 (by walk_at "z"), fun e he => ?_⟩
  have G1 := G.mv mv1
  have s2 := Same.new he (.tup [])
  refine v_eqM (d := .tuple (sDa ns)) (e := .tuple []) (dv_tuple.mpr ⟨na, _, rfl, s2.sqT G1.hna, dvs_sDa.mpr rfl⟩) (dv_tuple.mpr ⟨e, [], rfl, SqT.of upd_same, dvs_nil⟩) (Nat.le_trans (Nat.min_le_right _ _) (by decide)) ?_
  rw [eqv_strsT]
  have mv2 : Mv d H (upd H1 e (.tup [])) := mv1.same s2
  generalize upd H1 e (.tup []) = H2 at *
  have G2 := G1.same s2
  walk_at "s"
  refine .inr ⟨ns.isEmpty, rfl, ?_⟩
  refine .inl (v_addI ?_)
  walk_at "s"
  obtain ⟨z, ez, hz⟩ : ∃ z : Nat, x + (if ns.isEmpty = true then 1 else 0) = (z : Int) ∧ z ≤ 3 + (if ns = [] then 1 else 0) := by
    cases ns with
    | nil => exact ⟨(x + 1).toNat, by simp; omega, by simp; omega⟩
    | cons _ _ => exact ⟨x.toNat, by simp; omega, by simp; omega⟩
  have hz4 : z ≤ 4 := by split at hz <;> omega
  rw [ez]
  let Pv0 : Nat → St → Hp → Prop := fun i σ H' => ∃ (vs : List V) (ts : List Tr) (a6 a7 a8 a9 : Option V), σ = [some (.ref d), some (.ref bk), some (.ref na), some (.int ((m : Int) + 1)), some (.ref p4), some fv, a6, a7, a8, a9] ∧ Grw K H' d bk na m us rs ns ∧ Prt K H' p4 m rs ns vs ts ∧ ts.length ≤ i ∧ But [d, p4] H H'
  refine rng1_for (by omega) (by omega) Pv0 ⟨[], [], _, _, _, _, rfl, G2, ⟨mv2.at h4 n4, by rw [Tr.das]; exact dvs_nil, by rw [wts]; omega, by rw [hgts]; omega, fun pl y hy => by rw [ffs] at hy; cases hy⟩, by simp, mv2.two p4⟩ ?_ ?_
  · rintro i σ H' hi ⟨vs, ts, a6, a7, a8, a9, rfl, G', P', hl', bt⟩
    have hr1 := G.r1
    have hr8 := G.r8
    have hul : us.length = rs.length := by have := G'.dvs.length; rw [List.length_map] at this; exact this
    obtain ⟨xs, hd4⟩ := hd4
    have fv' := Dv.tupK (But.two bt hd4 h4) _ _ (Row.fix fr) hfv
    walk_at "s"
    refine v_lenQ (.inr G'.hbk) ?_
    walk_at "s"
    refine ⟨d, (us.length : Int), rfl, by omega, by omega, G'.dk, fun y H3 y0 y1 mv3 => ?_⟩
    have G3 := G'.mv mv3
    have P3 := P'.mv G'.dk n4 mv3
    have fv3 := Dv.tupK (mv3.tupK G'.dk) _ _ (Row.fix fr) fv'
    have hyl : y.toNat < us.length := by omega
    refine v_ixT G3.hbk (ixI y0 (List.getElem?_eq_getElem hyl)) ?_
    obtain ⟨dd, hd1, hd2⟩ := G3.dvs.get' (List.getElem?_eq_getElem hyl)
    rw [List.getElem?_map] at hd1
    obtain ⟨r, hr, rfl⟩ := Option.map_eq_some_iff.mp hd1
    obtain ⟨fb, fsv, fbv, efv, hfb, _, _⟩ := row_parts fv3
    subst efv
    walk_at "s"
    refine v_ixT hfb (v := .str fr.sort) (atI_nat (j := 1) rfl) ?_
    walk_at "s"
    by_cases hf : fr.sort = ("frame" : Str)
    · rw [decide_eq_true hf]; refine iteT ?_
      walk_at "s"
      refine v_ixT hfb (v := .str fr.host) (atI_nat (j := 2) rfl) ?_
      walk_at "s"
      refine ⟨.ref bk, fr.host, rs, rfl, G3.rws, fun rv H4 s4 drv => ?_⟩
      walk_at "s"
      exact gr_2 (G3.same s4) (P3.same s4) n4 (by omega) (Dv.same s4 _ _ fv3) drv hs fun H5 vs ts' a8 a9 g p l bt2 => ⟨vs, ts', _, _, _, _, rfl, g, p, by omega, But.tr bt (But.tr (mv3.two p4) (But.tr (Same.two d p4 s4) bt2))⟩
    · rw [decide_eq_false hf]; refine iteF ?_
      walk_at "s"
      exact gr_2 G3 P3 n4 (by omega) fv3 hd2 hs fun H5 vs ts' a8 a9 g p l bt2 => ⟨vs, ts', _, _, _, _, rfl, g, p, by omega, But.tr bt (But.tr (mv3.two p4) bt2)⟩
  · rintro σ H' ⟨vs, ts, a6, a7, a8, a9, rfl, G', P', hl', bt⟩
    walk_at "s"
    refine ⟨p4, vs, rfl, .inl ⟨SqL.of P'.h4, fun t ht => ?_⟩⟩
    have st := Same.new ht (.tup vs)
    exact q t vs ts _ (But.tr bt (Same.two d p4 st)) (G'.dk.same st) upd_same (Dvs.same st _ _ P'.dt) P'.ff P'.wt (by omega) P'.hg
end
@[reducible] def T__law_grown_0 (K : PySem.W.Frag) : TS :=
 (tAsg (tCall (sp__law_row K) [] E0 (tCons (tVar 1) (tCons (tOp (rIxA K) (tVar 2) (tUn (rU fun i => .int (-i)) (tC (.int 1)))) tNil))) (gName 5))
@[reducible] def T__law_grown_9 (K : PySem.W.Frag) (spr : Sp) : TS :=
 (tSeq (tIfS (tTest (tOp (rNeA K) (tVar 2) (tTup tNil)))
 (T__law_grown_0 K) tNext)
 (growT K spr))
@[reducible] def T__law_grown_10 (K : PySem.W.Frag) (spr : Sp) : TS :=
 (tSeq (tAsg (tTup (tCons (tC (.str ("" : Str))) (tCons (tC (.str ("" : Str))) (tCons (tC (.str ("" : Str))) (tCons (tTup tNil) (tCons (tTup tNil) tNil)))))) (gName 5))
 (T__law_grown_9 K spr))
def spn__law_grown (n : Nat) (K : PySem.W.Frag) : Sp := fun vs H Q _ => ∃ (d bk na : Addr) (m : Nat) (us : List V) (rs : List Row) (ns : List Str), vs = [.ref d, .ref bk, .ref na, .int ((m : Int) + 1)] ∧ Grw K H d bk na m us rs ns ∧ m ≤ n ∧ ∀ (t : Addr) (vs : List V) (ps : List Tr) (H' : Hp), Mv d H H' → H' t = some (.tup vs) → Dvs K H' (Tr.das ps) vs → (∀ pl, ∀ y ∈ ffs rs pl ns 0 false ps, y.2 = none) → wts ps ≤ ps.length * BB m → ps.length ≤ 3 + (if ns = [] then 1 else 0) → hgts ps ≤ m + 1 → Q (.ref t) H'
def sp__law_grown (K : PySem.W.Frag) : Sp := spn__law_grown 6 K
def prev__law_grown (K : PySem.W.Frag) : Nat → Sp
  | 0 => fun _ _ _ _ => False
  | n + 1 => spn__law_grown n K
theorem len__law_grown (K : PySem.W.Frag) (n : Nat) : ∀ vs H Q E, spn__law_grown n K vs H Q E → vs.length = ["_law_deck", "_law_book_here", "_law_names", "_law_deep"].length := by rintro vs H Q E ⟨d, bk, na, m, us, rs, ns, rfl, _⟩; rfl
def R__law_grown (K : PySem.W.Frag) (spr : Sp) : TS :=
 (tSeq (tAsg (tLst tNil) (gName 4))
 (T__law_grown_10 K spr))
theorem rd__law_grown (n : Nat) (h : spn__law_grown n K vs H Q E) : R__law_grown K (prev__law_grown K n) { nx := fun _ H' => Q .non H', rt := Q } (start ["_law_deck", "_law_book_here", "_law_names", "_law_deep", "_law_parts", "_law_frame", "_law_k", "_law_row_here", "_law_part", "_law_inner"] vs) H := by
  obtain ⟨d, bk, na, m, us, rs, ns, rfl, G, hm, q⟩ := h
  show R__law_grown K _ _ [some (.ref d), some (.ref bk), some (.ref na), some (.int ((m : Int) + 1)), none, none, none, none, none, none] H
  have hs : Less K (prev__law_grown K n) d bk m us rs ns := by
    intro H1 na2 m' x Q' em G1 qq
    cases n with
    | zero => omega
    | succ n =>
      refine ⟨d, bk, na2, m', us, rs, ns ++ [x], rfl, G1, by omega, fun t vs ps H' h1 h2 h3 h4 h5 h6 h7 => qq t vs ps H' h1 h2 h3 h4 ?_ h7⟩
      rw [if_neg (snoc_ne _ _)] at h6
      exact Nat.le_trans h5 (Nat.mul_le_mul_right _ h6)
  unfold R__law_grown
  walk_at "s"
  refine ⟨sl64 (by walk_at "z"), fun p4 hp4 => ?_⟩
  have s0 := Same.new hp4 (.lst [])
  have e0 : (upd H p4 (.lst [])) p4 = some (.lst []) := upd_same
  have n4 := G.dk.ne hp4
  generalize upd H p4 (.lst []) = H0 at *
  have fin : ∀ (t : Addr) (vs : List V) (ps : List Tr) (H1 H' : Hp), Same H H1 → But [d, p4] H1 H' → Dk H' d → H' t = some (.tup vs) → Dvs K H' (Tr.das ps) vs → (∀ pl, ∀ y ∈ ffs rs pl ns 0 false ps, y.2 = none) → wts ps ≤ ps.length * BB m → ps.length ≤ 3 + (if ns = [] then 1 else 0) → hgts ps ≤ m + 1 → Q (.ref t) H' := by
    intro t vs ps H1 H' s1 bt dk' h1 h2 h3 h4 h5 h6
    refine q t vs ps H' ⟨fun c o e nc => ?_, dk'⟩ h1 h2 h3 h4 h5 h6
    refine bt c o (s1 c o e) ?_
    simp at nc ⊢
    exact ⟨nc, ne_free e hp4⟩
  walk_at "s"
  refine ⟨sl64 (by walk_at "z"), fun u1 hu1 => ?_⟩
  have s1 := Same.new hu1 (.tup [])
  have e1 : (upd H0 u1 (.tup [])) u1 = some (.tup []) := upd_same
  generalize upd H0 u1 (.tup []) = H1 at *
  walk_at "s"
  refine ⟨sl64 (by walk_at "z"), fun u2 hu2 => ?_⟩
  have s2 := Same.new hu2 (.tup [])
  have e2 : (upd H1 u2 (.tup [])) u2 = some (.tup []) := upd_same
  generalize upd H1 u2 (.tup []) = H2 at *
  walk_at "s"
  refine ⟨sl64 (by walk_at "z"), fun u3 hu3 => ?_⟩
  have s3 := Same.new hu3 (.tup [.str ("" : Str), .str ("" : Str), .str ("" : Str), .ref u1, .ref u2])
  have d3 : Dv K (upd H2 u3 (.tup [.str ("" : Str), .str ("" : Str), .str ("" : Str), .ref u1, .ref u2])) row0.da (.ref u3) := row0_parts (SqT.of upd_same) (SqT.of (s3 _ _ (s2 _ _ e1))) (SqT.of (s3 _ _ e2))
  generalize (upd H2 u3 (.tup [.str ("" : Str), .str ("" : Str), .str ("" : Str), .ref u1, .ref u2])) = H3 at *
  walk_at "s"
  refine ⟨sl64 (by walk_at "z"), fun e he => ?_⟩
  have s4 := Same.new he (.tup [])
  have s04 := Same.tr s1 (Same.tr s2 (Same.tr s3 s4))
  have sH4 := Same.tr s0 s04
  have G4 := G.same sH4
  refine v_neM (d := .tuple (sDa ns)) (e := .tuple []) (dv_tuple.mpr ⟨na, _, rfl, G4.hna, dvs_sDa.mpr rfl⟩) (dv_tuple.mpr ⟨e, [], rfl, SqT.of upd_same, dvs_nil⟩) (Nat.le_trans (Nat.min_le_right _ _) (by decide)) ?_
  rw [eqv_strsT]
  have e4 := s04 _ _ e0
  have d4 := Dv.same s4 _ _ d3
  generalize upd H3 e (.tup []) = H4 at *
  walk_at "s"
  by_cases hn : ns = []
  · have e0 : (!ns.isEmpty) = false := by rw [hn]; rfl
    rw [e0]
    refine iteF ?_
    walk_at "s"
    exact grow_T G4 e4 n4 d4 hs fun t vs ps H' => fin t vs ps H4 H' sH4
  · have e0 : (!ns.isEmpty) = true := by cases ns with | nil => exact absurd rfl hn | cons _ _ => rfl
    rw [e0]
    refine iteT ?_
    walk_at "s"
    refine ⟨1, rfl, ?_⟩
    obtain ⟨xs, x, ex⟩ : ∃ xs x, ns = xs ++ [x] := ⟨ns.dropLast, ns.getLast hn, (List.dropLast_concat_getLast hn).symm⟩
    refine v_ixT G4.hna (v := .str x) (atI_last (n := xs.length) (by rw [strV_len, ex]; simp) (by rw [ex, strV_at (by simp)]; simp)) ?_
    walk_at "s"
    refine ⟨.ref bk, x, rs, rfl, G4.rws, fun fv H5 s5 dfv => ?_⟩
    walk_at "s"
    exact grow_T (G4.same s5) (s5 _ _ e4) n4 dfv hs fun t vs ps H' => fin t vs ps H5 H' (Same.tr sH4 s5)
end My
namespace My
open PySem L2
variable {K : PySem.W.Frag} {vs : List V} {H : Hp} {Q : VK} {E : XK}
@[reducible] def T_law_1 (K : PySem.W.Frag) : TS :=
 (tRet (tAndV (tOp (rEqA K) (tVar 7) (tVar 6)) (tOp (rInB K true) (tC (.bl false)) (tComp [none] (iAny K (tOp (rIxA K) (tVar 7) (tC (.int 1)))) (gName 0) tTT (tCall (sp__law_whole K) [] E0 (tCons (tVar 0) tNil))))))
@[reducible] def T_law_2 (K : PySem.W.Frag) : TS :=
 (tSeq (tIfS (tOr (tNot (tB (tCB (rIsi K) (tCons (tVar 7) (tCons (tC (.ty "tuple")) tNil))))) (tOr (tTest (tOp (rNeA K) (tCB (rLenA K) (tCons (tVar 7) tNil)) (tC (.int 2)))) (tOr (tNot (tB (tCB (rIsi K) (tCons (tOp (rIxA K) (tVar 7) (tC (.int 0))) (tCons (tC (.ty "str")) tNil))))) (tNot (tB (tCB (rIsi K) (tCons (tOp (rIxA K) (tVar 7) (tC (.int 1))) (tCons (tC (.ty "tuple")) tNil))))))))
 (tRet (tC (.bl false))) tNext)
 (T_law_1 K))
@[reducible] def T_law_3 (K : PySem.W.Frag) : TS :=
 (tSeq (tIfS (tTest (tOp rIsA (tVar 6) (tC .non)))
 (tRet (tOp rIsA (tVar 7) (tC .non))) tNext)
 (T_law_2 K))
@[reducible] def T_law_4 (K : PySem.W.Frag) : TS :=
 (tSeq (tAsg (tCall (sp_fault_of K) [] E0 (tCons (tVar 3) (tCons (tVar 4) tNil))) (gName 7))
 (T_law_3 K))
def lawE (K : PySem.W.Frag) : TS :=
 (tSeq (tAsg (tCall (sp__law_first K) [] E0 (tCons (tVar 3) (tCons (tVar 4) tNil))) (gName 6))
 (T_law_4 K))
theorem nds_intD : ∀ ns : List Int, nds (intD ns) = true
  | [] => by show nds [] = true; rw [nds]
  | x :: xs => by show nds (.int x :: intD xs) = true; rw [nds, nds_intD xs, nd]; rfl
theorem depth_intD : ∀ ns : List Int, PyData.depthAll (intD ns) ≤ 10
  | [] => by show PyData.depthAll [] ≤ 10; simp [PyData.depthAll]
  | x :: xs => by
    have := depth_intD xs
    show PyData.depthAll (.int x :: intD xs) ≤ 10
    simp [PyData.depthAll, PyData.depth] at this ⊢
    omega
theorem eqv_selfF (r : Str) (pl : List Int) : PyData.eqv (.tuple [.str r, .tuple (intD pl)]) (.tuple [.str r, .tuple (intD pl)]) = true :=
  eqv_self _ (by rw [nd, nds, nds, nds, nd, nd, nds_intD]; rfl)
theorem depth_F (r : Str) (pl : List Int) : (PyData.tuple [.str r, .tuple (intD pl)]).depth ≤ 64 := by
  have := depth_intD pl
  simp [PyData.depthAll, PyData.depth] at this ⊢
  omega
theorem flt_parts {r : Str} {pl : List Int} {v : V} (h : Dv K H (.tuple [.str r, .tuple (intD pl)]) v) : ∃ a b, v = .ref a ∧ SqT K H a [.str r, .ref b] ∧ SqT K H b (intV pl) := by
  obtain ⟨a, xs, rfl, ha, h⟩ := dv_tuple.mp h
  rw [Dvs] at h; obtain ⟨v1, r1, rfl, e1, h⟩ := h
  rw [Dvs] at h; obtain ⟨v2, r2, rfl, e2, h⟩ := h
  rw [Dvs] at h; subst h
  rw [dv_str.mp e1] at ha
  obtain ⟨b, ys, rfl, hb, h⟩ := dv_tuple.mp e2
  rw [dvs_intD] at h; subst h
  exact ⟨a, b, rfl, ha, hb⟩
theorem inV_tt : ∀ n : Nat, inV (.bl false) (List.replicate n (V.bl true)) = false
  | 0 => rfl
  | n + 1 => by
    have ih := inV_tt n
    rw [List.replicate_succ]
    unfold inV at ih ⊢
    rw [List.any_cons, ih]; rfl
theorem flat_tt : ∀ n : Nat, (List.replicate n (V.bl true)).all flatV = true
  | 0 => rfl
  | n + 1 => by rw [List.replicate_succ, List.all_cons, flat_tt n]; rfl
theorem firstF_mem2 {l : List (List Int × Option Str)} {r : Str} {pl : List Int} (h : firstF l = some (r, pl)) : (pl, some r) ∈ l := by
  unfold firstF at h
  obtain ⟨x, hx, e⟩ := List.exists_of_findSome?_eq_some h
  obtain ⟨a, b⟩ := x
  cases b with
  | none => cases e
  | some s => cases e; exact hx
theorem law_E {D : Ends} {sc d bk : Addr} {c : Int} {us : List V} {rs : List Row} {t : Tr} {tv : V} {a5 a6 a7 : Option V} (hbk : SqT K H bk us) (dvs : Dvs K H (rs.map Row.da) us) (hrl : rs.length ≤ 8) (B : BkS rs) (htv : Dv K H t.da tv) (hw : wt t ≤ 10000) (hh : hgt t ≤ 20) (q : ∀ H', D.rt (.bl true) H') :
    lawE K D [some (.ref sc), some (.ref d), some (.int c), some (.ref bk), some tv, a5, a6, a7] H := by
  have hR : Rws K H (.ref bk) rs := ⟨bk, us, rfl, .inr hbk, dvs⟩
  unfold lawE
  walk_at "s"
  refine ⟨.ref bk, tv, rs, t, rfl, B, hR, by omega, htv, by omega, by omega, fun due H1 s1 hdue => ?_⟩
  walk_at "s"
  have hpl : ∀ p ∈ pre [] t, p.1.length ≤ 800 := fun p hp => by have := pre_h [] t p hp; simp at this; omega
  refine ⟨t, .ref bk, tv, rs, rfl, hR.same s1, Dv.same s1 _ _ htv, by omega, hpl, fun told H3 s3 htold => ?_⟩
  have hd0 : fltV K H3 (firstF (ffk rs [] [] t)) due := by
    cases e : firstF (ffk rs [] [] t) with
    | none => rw [e] at hdue; exact hdue
    | some x => obtain ⟨r, pl⟩ := x; rw [e] at hdue; exact Dv.same s3 _ _ hdue
  walk_at "s"
  cases e : firstF (ffk rs [] [] t) with
  | none =>
    rw [e] at hd0 htold
    have hd0 : due = .non := hd0
    have htold : told = .non := htold
    subst hd0 htold
    rw [decide_eq_true rfl]; refine iteT ?_
    walk_at "s"
    rw [decide_eq_true rfl]
    exact q _
  | some x =>
    obtain ⟨r, pl⟩ := x
    rw [e] at hd0 htold
    have hd0 : Dv K H3 (.tuple [.str r, .tuple (intD pl)]) due := hd0
    have htold : Dv K H3 (.tuple [.str r, .tuple (intD pl)]) told := htold
    obtain ⟨da, db, rfl, hda, hdb⟩ := flt_parts hd0
    obtain ⟨ta, tb2, rfl, hta, htb2⟩ := flt_parts htold
    rw [decide_eq_false (by intro z; cases z)]; refine iteF ?_
    walk_at "s"
    refine v_isiT hta (b := true) rfl ?_
    walk_at "s"
    refine iteF ?_
    walk_at "s"
    refine v_lenQ (.inr hta) ?_
    walk_at "s"
    rw [show decide ((([V.str r, V.ref tb2].length : Nat) : Int) = 2) = true from rfl]
    refine iteF ?_
    walk_at "s"
    refine v_ixT hta (v := .str r) (atI_nat (j := 0) rfl) ?_
    walk_at "s"
    refine v_isi (.str _) (b := true) rfl ?_
    walk_at "s"
    refine iteF ?_
    walk_at "s"
    refine v_ixT hta (v := .ref tb2) (atI_nat (j := 1) rfl) ?_
    walk_at "s"
    refine v_isiT htb2 (b := true) rfl ?_
    walk_at "s"
    refine iteF ?_
    walk_at "s"
    refine v_eqD htold hd0 (depth_F r pl) ?_
    rw [eqv_selfF]
    walk_at "s"
    refine v_ixT hta (v := .ref tb2) (atI_nat (j := 1) rfl) ?_
    have hpll : pl.length ≤ 800 := by
      have hm := firstF_mem2 e
      have : pl ∈ (pre [] t).map (·.1) := by rw [ffk_pre rs [] []]; exact List.mem_cons_of_mem _ (List.mem_map_of_mem hm)
      obtain ⟨p, hp, rfl⟩ := List.mem_map.mp this
      exact hpl p hp
    refine any_compS (H0 := H3) (xs := intV pl) (.inr htb2) (fun _ _ e => e) (fun i ys H' => H' = H3 ∧ ys = List.replicate i (V.bl true)) ⟨rfl, rfl⟩ ?_ (fun i ys H' p => p.1 ▸ fun _ _ e => e) ?_ ?_
    · rintro i ys H' hi ⟨rfl, rfl⟩
      rw [intV_len] at hi
      rw [List.length_replicate]; exact sl64 (by omega)
    · rintro i x ys H' hx ⟨rfl, rfl⟩
      unfold intV at hx
      rw [List.getElem?_map] at hx
      obtain ⟨j, hj, rfl⟩ := Option.map_eq_some_iff.mp hx
      walk_at "s"
      refine ⟨j, rfl, rfl, ?_⟩
      rw [List.replicate_succ']
    · rintro ys H' ⟨rfl, rfl⟩ p hp
      refine .inl (v_notin (.inl (SqL.of upd_same)) rfl (flat_tt _) ?_)
      rw [inV_tt]
      exact q _
@[reducible] def T_law_0 (K : PySem.W.Frag) : TS :=
 (tAsg (tCall (sp__law_bent K) [] E0 (tCons (tVar 1) (tCons (tVar 2) (tCons (tVar 4) tNil)))) (gName 4))
@[reducible] def T_law_6 (K : PySem.W.Frag) : TS :=
 (tSeq (tFor (iRng1 (tCons (tCall (sp__law_draw K) [] E0 (tCons (tVar 1) (tCons (tC (.int 4)) tNil))) tNil)) (gName 5)
 (T_law_0 K))
 (lawE K))
@[reducible] def T_law_7 (K : PySem.W.Frag) : TS :=
 (tSeq (tIfS (tTest (tOp rIsNotA (tCall (sp_fault_of K) [] E0 (tCons (tVar 3) (tCons (tVar 4) tNil))) (tC .non)))
 (tRet (tC (.bl false))) tNext)
 (T_law_6 K))
@[reducible] def T_law_8 (K : PySem.W.Frag) : TS :=
 (tSeq (tAsg (tTup (tCons (tC (.str ("" : Str))) (tCons (tCall (sp__law_grown K) [] E0 (tCons (tVar 1) (tCons (tVar 3) (tCons (tTup tNil) (tCons (tC (.int 4)) tNil))))) tNil))) (gName 4))
 (T_law_7 K))
@[reducible] def T_law_9 (K : PySem.W.Frag) : TS :=
 (tSeq (tAsg (tCall (sp__law_book K) [] E0 (tCons (tVar 1) (tCons (tVar 2) (tCons (tC (.int 8)) tNil)))) (gName 3))
 (T_law_8 K))
@[reducible] def T_law_10 (K : PySem.W.Frag) : TS :=
 (tSeq (tAsg (tCall (sp__law_draw K) [] E0 (tCons (tVar 1) (tCons (tOp (rI CPow fun i j => .int (i ^ j.toNat)) (tC (.int 10)) (tC (.int 6))) tNil))) (gName 2))
 (T_law_9 K))
def sp_law (K : PySem.W.Frag) : Sp := fun vs H Q _ => ∃ (a : Addr) (ns : List Int), vs = [.ref a] ∧ SqL K H a (ns.map V.int) ∧ ns.length ≤ 63 ∧ ∀ H', Q (.bl true) H'
theorem len_law (K : PySem.W.Frag) : ∀ vs H Q E, sp_law K vs H Q E → vs.length = ["_law_script"].length := by rintro vs H Q E ⟨a, b, rfl, _⟩; rfl
def R_law (K : PySem.W.Frag) : TS :=
 (tSeq (tAsg (tCall (sp__law_numbers K) [] E0 (tCons (tVar 0) (tCons (tC (.int 700)) tNil))) (gName 1))
 (T_law_10 K))
theorem rd_law (h : sp_law K vs H Q E) : R_law K { nx := fun _ H' => Q .non H', rt := Q } (start ["_law_script", "_law_deck", "_law_code", "_law_book_here", "_law_tree", "_law_k", "_law_due", "_law_told"] vs) H := by
  obtain ⟨sc, ns, rfl, hS, hn, q⟩ := h
  show R_law K _ [some (.ref sc), none, none, none, none, none, none, none] H
  unfold R_law
  walk_at "s"
  refine ⟨sc, ns, 700, rfl, hS, by decide, fun d H1 s1 _ dk1 => ?_⟩
  walk_at "s"
  refine ⟨10, 6, rfl, rfl, ⟨by decide, by decide, by decide⟩, ?_⟩
  walk_at "s"
  refine ⟨d, _, rfl, by decide, by decide, dk1, fun c H2 c0 c1 mv2 => ?_⟩
  walk_at "s"
  refine ⟨d, c, 8, rfl, by decide, by decide, mv2.dk, fun bk us rs H3 mv3 hbk dvs r1 r8 BS => ?_⟩
  walk_at "s"
  refine ⟨sl64 (by walk_at "z"), fun e he => ?_⟩
  have s4 := Same.new he (.tup [])
  have G : Grw K (upd H3 e (.tup [])) d bk e 3 us rs [] := ⟨mv3.dk.same s4, s4.sqT (SqT.of hbk), Dvs.same s4 _ _ dvs, r1, r8, BS, SqT.of upd_same, by decide⟩
  generalize upd H3 e (.tup []) = H4 at *
  walk_at "s"
  refine ⟨d, bk, e, 3, us, rs, [], rfl, G, by decide, fun t vs ps H5 mv5 ht dv hff hw hl hh => ?_⟩
  have G5 := G.mv mv5
  walk_at "s"
  refine ⟨sl64 (by walk_at "z"), fun p hp => ?_⟩
  have s6 := Same.new hp (.tup [.str ("" : Str), .ref t])
  have dt : Dv K (upd H5 p (.tup [.str ("" : Str), .ref t])) (Tr.nd ("" : Str) ps).da (.ref p) := da_nd (SqT.of upd_same) (SqT.of (s6 _ _ ht)) (Dvs.same s6 _ _ dv)
  generalize upd H5 p (.tup [.str ("" : Str), .ref t]) = H6 at *
  have G6 := G5.same s6
  have hB : BB 3 = 283 := by decide
  have hl : ps.length ≤ 4 := hl
  have hwt : wt (Tr.nd ("" : Str) ps) ≤ 1133 := by
    rw [hB] at hw
    have := Nat.mul_le_mul_right 283 hl
    rw [wt]; omega
  have hht : hgt (Tr.nd ("" : Str) ps) ≤ 5 := by rw [hgt]; omega
  walk_at "s"
  have hpl : ∀ p ∈ pre [] (Tr.nd ("" : Str) ps), p.1.length ≤ 800 := fun p hp => by have := pre_h [] _ p hp; simp at this; omega
  refine ⟨_, .ref bk, _, rs, rfl, G6.rws, dt, by omega, hpl, fun x H7 s7 hx => ?_⟩
  rw [firstF_all (by rw [ffk]; exact hff [])] at hx
  have hx : x = .non := hx
  subst hx
  walk_at "s"
  rw [decide_eq_true rfl]; refine iteF ?_
  walk_at "s"
  have G7 := G6.same s7
  have dt7 := Dv.same s7 _ _ dt
  refine ⟨d, 4, rfl, by decide, by decide, G7.dk, fun n H8 n0 n1 mv8 => ?_⟩
  walk_at "s"
  have G8 := G7.mv mv8
  have dt8 := Dv.tupK (mv8.tupK G7.dk) _ _ (da_fix _) dt7
  let Pv0 : Nat → St → Hp → Prop := fun i σ H' => ∃ (t : Tr) (tv : V) (a5 : Option V), σ = [some (.ref sc), some (.ref d), some (.int c), some (.ref bk), some tv, a5, none, none] ∧ Grw K H' d bk e 3 us rs [] ∧ Dv K H' t.da tv ∧ t.isTx = false ∧ wt t + 20 ≤ 2 ^ i * 1153 ∧ hgt t ≤ 5 + i
  refine rng1_for (by omega) (by omega) Pv0 ⟨_, _, _, rfl, G8, dt8, rfl, by simp; omega, by omega⟩ ?_ ?_
  · rintro i σ H' hi ⟨t, tv, a5, rfl, G', dt', ht', hw', hh'⟩
    have hi : i < 3 := by omega
    have h2 : 2 ^ i ≤ 4 := by
      have : i = 0 ∨ i = 1 ∨ i = 2 := by omega
      rcases this with rfl | rfl | rfl <;> decide
    have h3 := Nat.mul_le_mul_right 1153 h2
    walk_at "s"
    refine ⟨d, c, tv, t, rfl, G'.dk, dt', ht', by omega, by omega, fun t' x H9 mv9 dx htx hwx hhx => ?_⟩
    walk_at "s"
    refine ⟨t', x, _, rfl, G'.mv mv9, dx, htx, ?_, by omega⟩
    rw [Nat.pow_succ, show 2 ^ i * 2 * 1153 = 2 * (2 ^ i * 1153) by rw [Nat.mul_comm (2 ^ i) 2, Nat.mul_assoc]]
    omega
  · rintro σ H' ⟨t, tv, a5, rfl, G', dt', ht', hw', hh'⟩
    have hi : n.toNat ≤ 3 := by omega
    have h2 : 2 ^ n.toNat ≤ 8 := by
      have : n.toNat = 0 ∨ n.toNat = 1 ∨ n.toNat = 2 ∨ n.toNat = 3 := by omega
      rcases this with h | h | h | h <;> rw [h] <;> decide
    have h3 := Nat.mul_le_mul_right 1153 h2
    walk_at "s"
    exact law_E G'.hbk G'.dvs r8 BS dt' (by omega) (by omega) q
end My
namespace My
open PySem L2 PyProof.Rows
set_option maxHeartbeats 0
noncomputable def top (i : Nat) : Stmt := PySem.Challenge.pw_tagmend_k25_the_first_fault.main.body.getD i (.Pass ⟨0, 0, 0, 0⟩)
noncomputable abbrev s_row_of : Stmt := top 7
noncomputable abbrev s_sort_of : Stmt := top 8
noncomputable abbrev s_is_wall : Stmt := top 9
noncomputable abbrev s_host_of : Stmt := top 10
noncomputable abbrev s_frame_of : Stmt := top 11
noncomputable abbrev s_is_text : Stmt := top 17
noncomputable abbrev s_name_of : Stmt := top 18
noncomputable abbrev s_parts_of : Stmt := top 19
noncomputable abbrev s_part_at : Stmt := top 20
noncomputable abbrev s_names_above : Stmt := top 21
noncomputable abbrev s_way_to : Stmt := top 22
noncomputable abbrev s_places_in : Stmt := top 23
noncomputable abbrev s_placed_parts : Stmt := top 24
noncomputable abbrev s_steps_below : Stmt := top 25
noncomputable abbrev s_straight_above : Stmt := top 26
noncomputable abbrev s_near_of : Stmt := top 27
noncomputable abbrev s_fault_of : Stmt := top 30
noncomputable abbrev s_fault_at : Stmt := top 31
noncomputable abbrev s_follows_text : Stmt := top 32
noncomputable abbrev s_text_fault : Stmt := top 33
noncomputable abbrev s_tree_fault : Stmt := top 34
noncomputable abbrev s_frame_fault : Stmt := top 35
noncomputable abbrev s_near_fault : Stmt := top 36
noncomputable abbrev s_share_a_name : Stmt := top 37
noncomputable abbrev s__law_numbers : Stmt := top 39
noncomputable abbrev s__law_draw : Stmt := top 40
noncomputable abbrev s__law_name : Stmt := top 41
noncomputable abbrev s__law_sorts : Stmt := top 42
noncomputable abbrev s__law_some : Stmt := top 43
noncomputable abbrev s__law_book : Stmt := top 44
noncomputable abbrev s__law_text : Stmt := top 45
noncomputable abbrev s__law_walk : Stmt := top 46
noncomputable abbrev s__law_row : Stmt := top 47
noncomputable abbrev s__law_near : Stmt := top 48
noncomputable abbrev s__law_fault : Stmt := top 49
noncomputable abbrev s__law_faults : Stmt := top 50
noncomputable abbrev s__law_grown : Stmt := top 51
noncomputable abbrev s__law_put_parts : Stmt := top 52
noncomputable abbrev s__law_first : Stmt := top 53
noncomputable abbrev s__law_whole : Stmt := top 54
noncomputable abbrev s__law_bent : Stmt := top 55
noncomputable abbrev s_law : Stmt := top 56
set_option genInjectivity false in
structure Fa where
  a : Addr
  d : FuncData
structure Fok (K : PySem.W.Frag) (mg : Str → Option Value) (x : Str) (st : Stmt) (ps : List Str) (f : Fa) : Prop where
  F : Fun K x x st f.a f.d
  b : Binds K f.d ps []
  m : mg x = some (.ref f.a)
set_option genInjectivity false in
structure Adr where
  f_row_of : Fa
  f_sort_of : Fa
  f_is_wall : Fa
  f_host_of : Fa
  f_frame_of : Fa
  f_is_text : Fa
  f_name_of : Fa
  f_parts_of : Fa
  f_part_at : Fa
  f_names_above : Fa
  f_way_to : Fa
  f_places_in : Fa
  f_placed_parts : Fa
  f_steps_below : Fa
  f_straight_above : Fa
  f_near_of : Fa
  f_fault_of : Fa
  f_fault_at : Fa
  f_follows_text : Fa
  f_text_fault : Fa
  f_tree_fault : Fa
  f_frame_fault : Fa
  f_near_fault : Fa
  f_share_a_name : Fa
  f__law_numbers : Fa
  f__law_draw : Fa
  f__law_name : Fa
  f__law_sorts : Fa
  f__law_some : Fa
  f__law_book : Fa
  f__law_text : Fa
  f__law_walk : Fa
  f__law_row : Fa
  f__law_near : Fa
  f__law_fault : Fa
  f__law_faults : Fa
  f__law_grown : Fa
  f__law_put_parts : Fa
  f__law_first : Fa
  f__law_whole : Fa
  f__law_bent : Fa
  f_law : Fa
  c_WALL_SORTS : Addr
  v_NAME : Value
  v_SORT : Value
  v_HOST : Value
  v_SHUTS : Value
  v_BARS : Value
  v_ROOT_NAME : Value
  v_MOST_ABOVE : Value
structure Txt (K : PySem.W.Frag) (mg : Str → Option Value) (t : Adr) : Prop where
  f_row_of : Fok K mg "row_of" s_row_of ["rows", "name"] t.f_row_of
  f_sort_of : Fok K mg "sort_of" s_sort_of ["book", "name"] t.f_sort_of
  f_is_wall : Fok K mg "is_wall" s_is_wall ["book", "name"] t.f_is_wall
  f_host_of : Fok K mg "host_of" s_host_of ["book", "name"] t.f_host_of
  f_frame_of : Fok K mg "frame_of" s_frame_of ["book", "name"] t.f_frame_of
  f_is_text : Fok K mg "is_text" s_is_text ["part"] t.f_is_text
  f_name_of : Fok K mg "name_of" s_name_of ["tree"] t.f_name_of
  f_parts_of : Fok K mg "parts_of" s_parts_of ["part"] t.f_parts_of
  f_part_at : Fok K mg "part_at" s_part_at ["tree", "place"] t.f_part_at
  f_names_above : Fok K mg "names_above" s_names_above ["tree", "place"] t.f_names_above
  f_way_to : Fok K mg "way_to" s_way_to ["tree", "place"] t.f_way_to
  f_places_in : Fok K mg "places_in" s_places_in ["tree"] t.f_places_in
  f_placed_parts : Fok K mg "placed_parts" s_placed_parts ["tree"] t.f_placed_parts
  f_steps_below : Fok K mg "steps_below" s_steps_below ["place", "part"] t.f_steps_below
  f_straight_above : Fok K mg "straight_above" s_straight_above ["names"] t.f_straight_above
  f_near_of : Fok K mg "near_of" s_near_of ["book", "names"] t.f_near_of
  f_fault_of : Fok K mg "fault_of" s_fault_of ["book", "tree"] t.f_fault_of
  f_fault_at : Fok K mg "fault_at" s_fault_at ["book", "tree", "place"] t.f_fault_at
  f_follows_text : Fok K mg "follows_text" s_follows_text ["tree", "place"] t.f_follows_text
  f_text_fault : Fok K mg "text_fault" s_text_fault ["book", "names", "text", "beside"] t.f_text_fault
  f_tree_fault : Fok K mg "tree_fault" s_tree_fault ["book", "names", "tree"] t.f_tree_fault
  f_frame_fault : Fok K mg "frame_fault" s_frame_fault ["book", "names", "name"] t.f_frame_fault
  f_near_fault : Fok K mg "near_fault" s_near_fault ["book", "names", "name"] t.f_near_fault
  f_share_a_name : Fok K mg "share_a_name" s_share_a_name ["names", "others"] t.f_share_a_name
  f__law_numbers : Fok K mg "_law_numbers" s__law_numbers ["_law_script", "_law_most"] t.f__law_numbers
  f__law_draw : Fok K mg "_law_draw" s__law_draw ["_law_deck", "_law_most"] t.f__law_draw
  f__law_name : Fok K mg "_law_name" s__law_name ["_law_code", "_law_k"] t.f__law_name
  f__law_sorts : Fok K mg "_law_sorts" s__law_sorts ["_law_deck", "_law_count"] t.f__law_sorts
  f__law_some : Fok K mg "_law_some" s__law_some ["_law_deck", "_law_names"] t.f__law_some
  f__law_book : Fok K mg "_law_book" s__law_book ["_law_deck", "_law_code", "_law_most"] t.f__law_book
  f__law_text : Fok K mg "_law_text" s__law_text ["_law_deck"] t.f__law_text
  f__law_walk : Fok K mg "_law_walk" s__law_walk ["_law_tree"] t.f__law_walk
  f__law_row : Fok K mg "_law_row" s__law_row ["_law_book_here", "_law_name_here"] t.f__law_row
  f__law_near : Fok K mg "_law_near" s__law_near ["_law_book_here", "_law_names"] t.f__law_near
  f__law_fault : Fok K mg "_law_fault" s__law_fault ["_law_book_here", "_law_names", "_law_part", "_law_ahead"] t.f__law_fault
  f__law_faults : Fok K mg "_law_faults" s__law_faults ["_law_book_here", "_law_tree"] t.f__law_faults
  f__law_grown : Fok K mg "_law_grown" s__law_grown ["_law_deck", "_law_book_here", "_law_names", "_law_deep"] t.f__law_grown
  f__law_put_parts : Fok K mg "_law_put_parts" s__law_put_parts ["_law_tree", "_law_place", "_law_parts"] t.f__law_put_parts
  f__law_first : Fok K mg "_law_first" s__law_first ["_law_book_here", "_law_tree"] t.f__law_first
  f__law_whole : Fok K mg "_law_whole" s__law_whole ["_law_found"] t.f__law_whole
  f__law_bent : Fok K mg "_law_bent" s__law_bent ["_law_deck", "_law_code", "_law_tree"] t.f__law_bent
  f_law : Fok K mg "law" s_law ["_law_script"] t.f_law
  g_WALL_SORTS : mg "WALL_SORTS" = some (.ref t.c_WALL_SORTS)
  q_WALL_SORTS : ∀ H : Hp, SqT K H t.c_WALL_SORTS [.str ("room" : Str), .str ("frame" : Str)]
  g_NAME : mg "NAME" = some t.v_NAME ∧ RelV (.int 0) t.v_NAME
  g_SORT : mg "SORT" = some t.v_SORT ∧ RelV (.int 1) t.v_SORT
  g_HOST : mg "HOST" = some t.v_HOST ∧ RelV (.int 2) t.v_HOST
  g_SHUTS : mg "SHUTS" = some t.v_SHUTS ∧ RelV (.int 3) t.v_SHUTS
  g_BARS : mg "BARS" = some t.v_BARS ∧ RelV (.int 4) t.v_BARS
  g_ROOT_NAME : mg "ROOT_NAME" = some t.v_ROOT_NAME ∧ RelV (.str ("" : Str)) t.v_ROOT_NAME
  g_MOST_ABOVE : mg "MOST_ABOVE" = some t.v_MOST_ABOVE ∧ RelV (.int 19) t.v_MOST_ABOVE
  z_any : mg "any" = none
  z_bool : mg "bool" = none
  z_enumerate : mg "enumerate" = none
  z_int : mg "int" = none
  z_isinstance : mg "isinstance" = none
  z_len : mg "len" = none
  z_list : mg "list" = none
  z_range : mg "range" = none
  z_sorted : mg "sorted" = none
  z_str : mg "str" = none
  z_sum : mg "sum" = none
  z_tuple : mg "tuple" = none
section
variable {P : Program} {w : World} {K : PySem.W.Frag} {mg : Str → Option Value} {base : Heap} {t : Adr}
theorem sc_row_of : FnScope ["rows", "name", "row"] ["rows", "name"] (defScope s_row_of) := ⟨rfl, rfl, rfl, by decide +kernel, rfl, by decide +kernel, by decide +kernel⟩
theorem sc_sort_of : FnScope ["book", "name", "row"] ["book", "name"] (defScope s_sort_of) := ⟨rfl, rfl, rfl, by decide +kernel, rfl, by decide +kernel, by decide +kernel⟩
theorem sc_is_wall : FnScope ["book", "name"] ["book", "name"] (defScope s_is_wall) := ⟨rfl, rfl, rfl, by decide +kernel, rfl, by decide +kernel, by decide +kernel⟩
theorem sc_host_of : FnScope ["book", "name", "row"] ["book", "name"] (defScope s_host_of) := ⟨rfl, rfl, rfl, by decide +kernel, rfl, by decide +kernel, by decide +kernel⟩
theorem sc_frame_of : FnScope ["book", "name", "row"] ["book", "name"] (defScope s_frame_of) := ⟨rfl, rfl, rfl, by decide +kernel, rfl, by decide +kernel, by decide +kernel⟩
theorem sc_is_text : FnScope ["part"] ["part"] (defScope s_is_text) := ⟨rfl, rfl, rfl, by decide +kernel, rfl, by decide +kernel, by decide +kernel⟩
theorem sc_name_of : FnScope ["tree"] ["tree"] (defScope s_name_of) := ⟨rfl, rfl, rfl, by decide +kernel, rfl, by decide +kernel, by decide +kernel⟩
theorem sc_parts_of : FnScope ["part"] ["part"] (defScope s_parts_of) := ⟨rfl, rfl, rfl, by decide +kernel, rfl, by decide +kernel, by decide +kernel⟩
theorem sc_part_at : FnScope ["tree", "place"] ["tree", "place"] (defScope s_part_at) := ⟨rfl, rfl, rfl, by decide +kernel, rfl, by decide +kernel, by decide +kernel⟩
theorem sc_names_above : FnScope ["tree", "place"] ["tree", "place"] (defScope s_names_above) := ⟨rfl, rfl, rfl, by decide +kernel, rfl, by decide +kernel, by decide +kernel⟩
theorem sc_way_to : FnScope ["tree", "place", "way", "number", "parts"] ["tree", "place"] (defScope s_way_to) := ⟨rfl, rfl, rfl, by decide +kernel, rfl, by decide +kernel, by decide +kernel⟩
theorem sc_places_in : FnScope ["tree"] ["tree"] (defScope s_places_in) := ⟨rfl, rfl, rfl, by decide +kernel, rfl, by decide +kernel, by decide +kernel⟩
theorem sc_placed_parts : FnScope ["tree", "placed", "ahead", "step"] ["tree"] (defScope s_placed_parts) := ⟨rfl, rfl, rfl, by decide +kernel, rfl, by decide +kernel, by decide +kernel⟩
theorem sc_steps_below : FnScope ["place", "part", "parts"] ["place", "part"] (defScope s_steps_below) := ⟨rfl, rfl, rfl, by decide +kernel, rfl, by decide +kernel, by decide +kernel⟩
theorem sc_straight_above : FnScope ["names"] ["names"] (defScope s_straight_above) := ⟨rfl, rfl, rfl, by decide +kernel, rfl, by decide +kernel, by decide +kernel⟩
theorem sc_near_of : FnScope ["book", "names", "start", "number", "name"] ["book", "names"] (defScope s_near_of) := ⟨rfl, rfl, rfl, by decide +kernel, rfl, by decide +kernel, by decide +kernel⟩
theorem sc_fault_of : FnScope ["book", "tree", "place", "rule"] ["book", "tree"] (defScope s_fault_of) := ⟨rfl, rfl, rfl, by decide +kernel, rfl, by decide +kernel, by decide +kernel⟩
theorem sc_fault_at : FnScope ["book", "tree", "place", "part", "names"] ["book", "tree", "place"] (defScope s_fault_at) := ⟨rfl, rfl, rfl, by decide +kernel, rfl, by decide +kernel, by decide +kernel⟩
theorem sc_follows_text : FnScope ["tree", "place", "number"] ["tree", "place"] (defScope s_follows_text) := ⟨rfl, rfl, rfl, by decide +kernel, rfl, by decide +kernel, by decide +kernel⟩
theorem sc_text_fault : FnScope ["book", "names", "text", "beside"] ["book", "names", "text", "beside"] (defScope s_text_fault) := ⟨rfl, rfl, rfl, by decide +kernel, rfl, by decide +kernel, by decide +kernel⟩
theorem sc_tree_fault : FnScope ["book", "names", "tree", "sort"] ["book", "names", "tree"] (defScope s_tree_fault) := ⟨rfl, rfl, rfl, by decide +kernel, rfl, by decide +kernel, by decide +kernel⟩
theorem sc_frame_fault : FnScope ["book", "names", "name", "above", "host", "frame"] ["book", "names", "name"] (defScope s_frame_fault) := ⟨rfl, rfl, rfl, by decide +kernel, rfl, by decide +kernel, by decide +kernel⟩
theorem sc_near_fault : FnScope ["book", "names", "name", "row", "near"] ["book", "names", "name"] (defScope s_near_fault) := ⟨rfl, rfl, rfl, by decide +kernel, rfl, by decide +kernel, by decide +kernel⟩
theorem sc_share_a_name : FnScope ["names", "others"] ["names", "others"] (defScope s_share_a_name) := ⟨rfl, rfl, rfl, by decide +kernel, rfl, by decide +kernel, by decide +kernel⟩
theorem sc__law_numbers : FnScope ["_law_script", "_law_most", "_law_deck", "_law_kind", "_law_last"] ["_law_script", "_law_most"] (defScope s__law_numbers) := ⟨rfl, rfl, rfl, by decide +kernel, rfl, by decide +kernel, by decide +kernel⟩
theorem sc__law_draw : FnScope ["_law_deck", "_law_most", "_law_number"] ["_law_deck", "_law_most"] (defScope s__law_draw) := ⟨rfl, rfl, rfl, by decide +kernel, rfl, by decide +kernel, by decide +kernel⟩
theorem sc__law_name : FnScope ["_law_code", "_law_k", "_law_letters", "_law_first_here", "_law_long", "_law_told", "_law_name_here", "_law_j", "_law_step"] ["_law_code", "_law_k"] (defScope s__law_name) := ⟨rfl, rfl, rfl, by decide +kernel, rfl, by decide +kernel, by decide +kernel⟩
theorem sc__law_sorts : FnScope ["_law_deck", "_law_count", "_law_kinds", "_law_sorts_here", "_law_hosts", "_law_k", "_law_free"] ["_law_deck", "_law_count"] (defScope s__law_sorts) := ⟨rfl, rfl, rfl, by decide +kernel, rfl, by decide +kernel, by decide +kernel⟩
theorem sc__law_some : FnScope ["_law_deck", "_law_names", "_law_some_here", "_law_name_here"] ["_law_deck", "_law_names"] (defScope s__law_some) := ⟨rfl, rfl, rfl, by decide +kernel, rfl, by decide +kernel, by decide +kernel⟩
theorem sc__law_book : FnScope ["_law_deck", "_law_code", "_law_most", "_law_count", "_law_sorts_here", "_law_hosts", "_law_names", "_law_soft", "_law_may_shut", "_law_book_here", "_law_k", "_law_shuts", "_law_host", "_law_row_here"] ["_law_deck", "_law_code", "_law_most"] (defScope s__law_book) := ⟨rfl, rfl, rfl, by decide +kernel, rfl, by decide +kernel, by decide +kernel⟩
theorem sc__law_text : FnScope ["_law_deck", "_law_signs"] ["_law_deck"] (defScope s__law_text) := ⟨rfl, rfl, rfl, by decide +kernel, rfl, by decide +kernel, by decide +kernel⟩
theorem sc__law_walk : FnScope ["_law_tree", "_law_found", "_law_todo", "_law_place", "_law_names", "_law_part", "_law_above"] ["_law_tree"] (defScope s__law_walk) := ⟨rfl, rfl, rfl, by decide +kernel, rfl, by decide +kernel, by decide +kernel⟩
theorem sc__law_row : FnScope ["_law_book_here", "_law_name_here", "_law_row_here"] ["_law_book_here", "_law_name_here"] (defScope s__law_row) := ⟨rfl, rfl, rfl, by decide +kernel, rfl, by decide +kernel, by decide +kernel⟩
theorem sc__law_near : FnScope ["_law_book_here", "_law_names", "_law_near_here", "_law_k"] ["_law_book_here", "_law_names"] (defScope s__law_near) := ⟨rfl, rfl, rfl, by decide +kernel, rfl, by decide +kernel, by decide +kernel⟩
theorem sc__law_fault : FnScope ["_law_book_here", "_law_names", "_law_part", "_law_ahead", "_law_above", "_law_frame", "_law_name_here", "_law_sort", "_law_host", "_law_shuts", "_law_bars", "_law_frames", "_law_near_here"] ["_law_book_here", "_law_names", "_law_part", "_law_ahead"] (defScope s__law_fault) := ⟨rfl, rfl, rfl, by decide +kernel, rfl, by decide +kernel, by decide +kernel⟩
theorem sc__law_faults : FnScope ["_law_book_here", "_law_tree", "_law_due", "_law_walked", "_law_parts", "_law_place", "_law_names", "_law_part", "_law_ahead"] ["_law_book_here", "_law_tree"] (defScope s__law_faults) := ⟨rfl, rfl, rfl, by decide +kernel, rfl, by decide +kernel, by decide +kernel⟩
theorem sc__law_grown : FnScope ["_law_deck", "_law_book_here", "_law_names", "_law_deep", "_law_parts", "_law_frame", "_law_k", "_law_row_here", "_law_part", "_law_inner"] ["_law_deck", "_law_book_here", "_law_names", "_law_deep"] (defScope s__law_grown) := ⟨rfl, rfl, rfl, by decide +kernel, rfl, by decide +kernel, by decide +kernel⟩
theorem sc__law_put_parts : FnScope ["_law_tree", "_law_place", "_law_parts", "_law_k", "_law_inner"] ["_law_tree", "_law_place", "_law_parts"] (defScope s__law_put_parts) := ⟨rfl, rfl, rfl, by decide +kernel, rfl, by decide +kernel, by decide +kernel⟩
theorem sc__law_first : FnScope ["_law_book_here", "_law_tree", "_law_rule", "_law_place"] ["_law_book_here", "_law_tree"] (defScope s__law_first) := ⟨rfl, rfl, rfl, by decide +kernel, rfl, by decide +kernel, by decide +kernel⟩
theorem sc__law_whole : FnScope ["_law_found"] ["_law_found"] (defScope s__law_whole) := ⟨rfl, rfl, rfl, by decide +kernel, rfl, by decide +kernel, by decide +kernel⟩
theorem sc__law_bent : FnScope ["_law_deck", "_law_code", "_law_tree", "_law_walked", "_law_place", "_law_names", "_law_part", "_law_parts", "_law_k", "_law_way"] ["_law_deck", "_law_code", "_law_tree"] (defScope s__law_bent) := ⟨rfl, rfl, rfl, by decide +kernel, rfl, by decide +kernel, by decide +kernel⟩
theorem sc_law : FnScope ["_law_script", "_law_deck", "_law_code", "_law_book_here", "_law_tree", "_law_k", "_law_due", "_law_told"] ["_law_script"] (defScope s_law) := ⟨rfl, rfl, rfl, by decide +kernel, rfl, by decide +kernel, by decide +kernel⟩
theorem ok_row_of (T : Txt K mg t) : FnOk P w K mg base CX0 1 t.f_row_of.a t.f_row_of.d ["rows", "name"] (sp_row_of K) := by
  refine T.f_row_of.F.ok sc_row_of (len_row_of K) (fun cdv A outer s H vs Q E hr h => ⟨R_row_of K, ?_, rd_row_of h⟩)
  have S := sc_row_of
  refine pss_cons ?_ ?_
  · refine ps_for PassesOwn.never rfl ?_ ?_ ?_
    · exact (pi_any (pv 0))
    · exact (pg_name (i := 2) S.nd rfl (Or.inl rfl))
    · refine pss_one ?_
      refine ps_if ?_ ?_ ?_
      · exact (pt_cmpR (op_eqA (u190 hr)) (pe_ix (ix_any' (hu_of hr)) (pv 2) (pe_glob rfl T.g_NAME.1 T.g_NAME.2) (fun _ _ => rfl)) (pv 1) (nomark _))
      · refine pss_one ?_
        exact (ps_ret (pv 2))
      · exact pss_nil
  refine pss_one ?_
  exact (ps_ret pe_non)
theorem ok_frame_of (T : Txt K mg t) : FnOk P w K mg base CX0 1 t.f_frame_of.a t.f_frame_of.d ["book", "name"] (sp_frame_of K) := by
  refine T.f_frame_of.F.ok sc_frame_of (len_frame_of K) (fun cdv A outer s H vs Q E hr h => ⟨R_frame_of K, ?_, rd_frame_of h⟩)
  have S := sc_frame_of
  refine pss_cons ?_ ?_
  · refine ps_for PassesOwn.never rfl ?_ ?_ ?_
    · exact (pi_any (pv 0))
    · exact (pg_name (i := 2) S.nd rfl (Or.inl rfl))
    · refine pss_one ?_
      refine ps_if ?_ ?_ ?_
      · exact (PW.pt (pw_and (pt_cmpR (op_eqA (u190 hr)) (pe_ix (ix_any' (hu_of hr)) (pv 2) (pe_glob rfl T.g_SORT.1 T.g_SORT.2) (fun _ _ => rfl)) pe_str (nomark _)) (pw_and1 (pt_cmpR (op_eqA (u190 hr)) (pe_ix (ix_any' (hu_of hr)) (pv 2) (pe_glob rfl T.g_HOST.1 T.g_HOST.2) (fun _ _ => rfl)) (pv 1) (nomark _)))))
      · refine pss_one ?_
        exact (ps_ret (pe_ix (ix_any' (hu_of hr)) (pv 2) (pe_glob rfl T.g_NAME.1 T.g_NAME.2) (fun _ _ => rfl)))
      · exact pss_nil
  refine pss_one ?_
  exact (ps_ret pe_non)
theorem ok_is_text (T : Txt K mg t) : FnOk P w K mg base CX0 1 t.f_is_text.a t.f_is_text.d ["part"] (sp_is_text K) := by
  refine T.f_is_text.F.ok sc_is_text (len_is_text K) (fun cdv A outer s H vs Q E hr h => ⟨R_is_text K, ?_, rd_is_text h⟩)
  have S := sc_is_text
  refine pss_one ?_
  exact (ps_ret (pe_callB call_isinstanceA rfl T.z_isinstance boot_isinstance (pa_cons (pv 0) (pa_cons (pe_bltn rfl T.z_str boot_str rfl) pa_nil))))
theorem ok_name_of (T : Txt K mg t) : FnOk P w K mg base CX0 1 t.f_name_of.a t.f_name_of.d ["tree"] (sp_name_of K) := by
  refine T.f_name_of.F.ok sc_name_of (len_name_of K) (fun cdv A outer s H vs Q E hr h => ⟨R_name_of K, ?_, rd_name_of h⟩)
  have S := sc_name_of
  refine pss_one ?_
  exact (ps_ret (pe_ix (ix_any' (hu_of hr)) (pv 0) pe_int (fun _ _ => rfl)))
theorem ok_straight_above (T : Txt K mg t) : FnOk P w K mg base CX0 1 t.f_straight_above.a t.f_straight_above.d ["names"] (sp_straight_above K) := by
  refine T.f_straight_above.F.ok sc_straight_above (len_straight_above K) (fun cdv A outer s H vs Q E hr h => ⟨R_straight_above K, ?_, rd_straight_above h⟩)
  have S := sc_straight_above
  refine pss_one ?_
  exact (ps_ret (pe_ifExp (pt_cmpR op_gtA (pe_callB call_lenA rfl T.z_len boot_len (pa_cons (pv 0) pa_nil)) pe_int (nomark _)) (pe_ix (ix_any' (hu_of hr)) (pv 0) (pe_un un_neg pe_int) (fun _ _ => rfl)) (pe_glob rfl T.g_ROOT_NAME.1 T.g_ROOT_NAME.2)))
theorem ok_share_a_name (T : Txt K mg t) : FnOk P w K mg base CX0 1 t.f_share_a_name.a t.f_share_a_name.d ["names", "others"] (sp_share_a_name K) := by
  refine T.f_share_a_name.F.ok sc_share_a_name (len_share_a_name K) (fun cdv A outer s H vs Q E hr h => ⟨R_share_a_name K, ?_, rd_share_a_name h⟩)
  have S := sc_share_a_name
  refine pss_one ?_
  refine ps_ret ?_
  exact (pe_callB (call_anyA rfl) rfl T.z_any boot_any (pa_cons (pe_comp rfl (comp_scope (osc := defScope s_share_a_name) (ON := ["names", "others"]) (N := ["others", "name"]) (fr := [some 1, none]) (by decide +kernel) rfl rfl) (pi_any (pv 0)) (fun _ _ _ _ _ _ => (pg_name (i := 1) (show List.Nodup (["others", "name"] : List Str) by decide +kernel) rfl (Or.inl rfl))) tg_name (fun _ _ _ _ _ _ => pts_nil) (fun _ _ _ _ _ _ => (pe_cmpR (op_inB (hu_of hr)) (pv 1) (pv 0) (by with_unfolding_all rfl)))) pa_nil))
theorem ok__law_numbers (T : Txt K mg t) : FnOk P w K mg base CX0 1 t.f__law_numbers.a t.f__law_numbers.d ["_law_script", "_law_most"] (sp__law_numbers K) := by
  refine T.f__law_numbers.F.ok sc__law_numbers (len__law_numbers K) (fun cdv A outer s H vs Q E hr h => ⟨R__law_numbers K, ?_, rd__law_numbers h⟩)
  have S := sc__law_numbers
  refine pss_cons ?_ ?_
  · refine ps_set (i := 2) S.nd rfl (Or.inl rfl) ?_ rfl ?_
    · exact (pe_callTy call_listA rfl T.z_list boot_list (pa_cons (pe_slice sl_any (pv 0) po_none (po_some pe_int)) pa_nil))
    · walk_at "or"
  refine pss_cons ?_ ?_
  · refine ps_set (i := 3) S.nd rfl (Or.inl rfl) ?_ rfl ?_
    · exact pe_int
    · walk_at "or"
  refine pss_cons ?_ ?_
  · refine ps_if ?_ ?_ ?_
    · exact (pt_cmpR (op_neA (u190 hr)) (pv 2) (pe_lst pa_nil) (nomark _))
    · refine pss_cons ?_ ?_
      · refine ps_set (i := 3) S.nd rfl (Or.inl rfl) ?_ rfl ?_
        · exact (pe_op op_mod (pe_ix (ix_any' (hu_of hr)) (pv 2) pe_int (fun _ _ => rfl)) pe_int)
        · walk_at "or"
      refine pss_one ?_
      exact (ps_asg (pe_op op_fdiv (pe_ix (ix_any' (hu_of hr)) (pv 2) pe_int (fun _ _ => rfl)) pe_int) (pg_sub (pv 2) pe_int (set_any' (hu_of hr))))
    · exact pss_nil
  refine pss_cons ?_ ?_
  · refine ps_set (i := 4) S.nd rfl (Or.inl rfl) ?_ rfl ?_
    · exact (pe_op op_addA pe_int (pe_op op_mod (pe_callB (call_sumA rfl) rfl T.z_sum boot_sum (pa_cons (pv 2) pa_nil)) pe_int))
    · walk_at "or"
  refine pss_cons ?_ ?_
  · refine ps_while PassesOwn.never ?_ ?_
    · exact (pt_cmpR op_ltA (pe_callB call_lenA rfl T.z_len boot_len (pa_cons (pv 2) pa_nil)) (pv 1) (nomark _))
    · refine pss_cons ?_ ?_
      · refine ps_set (i := 4) S.nd rfl (Or.inl rfl) ?_ rfl ?_
        · exact (pe_op op_mod (pe_op op_addA (pe_op op_addA (pe_op op_mulA (pv 4) (pv 4)) (pe_op op_mulA pe_int (pv 4))) (pe_callB call_lenA rfl T.z_len boot_len (pa_cons (pv 2) pa_nil))) pe_int)
        · walk_at "or"
      refine pss_cons ?_ ?_
      · refine ps_set (i := 4) S.nd rfl (Or.inl rfl) ?_ rfl ?_
        · exact (pe_op op_mod (pe_op op_addA (pe_op op_addA (pe_op op_mulA (pv 4) (pv 4)) (pe_op op_mulA pe_int (pv 4))) pe_int) pe_int)
        · walk_at "or"
      refine pss_one ?_
      exact (ps_expr (pe_bm PySem.F.plainAttrs_list PySem.F.slot_list_append PySem.F.type_list_append mt_append (pv 2) (pa_cons (pv 4) pa_nil)))
  refine pss_one ?_
  exact (ps_ret (pe_op op_addA (pe_lst (pa_cons (pv 3) pa_nil)) (pe_rev3 (pv 2) (pe_un un_neg pe_int))))
theorem ok__law_draw (T : Txt K mg t) : FnOk P w K mg base CX0 1 t.f__law_draw.a t.f__law_draw.d ["_law_deck", "_law_most"] (sp__law_draw K) := by
  refine T.f__law_draw.F.ok sc__law_draw (len__law_draw K) (fun cdv A outer s H vs Q E hr h => ⟨R__law_draw K, ?_, rd__law_draw h⟩)
  have S := sc__law_draw
  refine pss_cons ?_ ?_
  · refine ps_if ?_ ?_ ?_
    · exact (pt_cmpR (op_eqA (u190 hr)) (pe_callB call_lenA rfl T.z_len boot_len (pa_cons (pv 0) pa_nil)) pe_int (nomark _))
    · refine pss_one ?_
      exact (ps_ret pe_int)
    · exact pss_nil
  refine pss_cons ?_ ?_
  · refine ps_set (i := 2) S.nd rfl (Or.inl rfl) ?_ rfl ?_
    · exact (pe_bm0 PySem.F.plainAttrs_list PySem.F.slot_list_pop PySem.F.type_list_pop mt_pop (pv 0))
    · walk_at "or"
  refine pss_cons ?_ ?_
  · refine ps_if ?_ ?_ ?_
    · exact (PW.pt (pw_and (pt_cmpR (op_eqA (u190 hr)) (pe_ix (ix_any' (hu_of hr)) (pv 0) pe_int (fun _ _ => rfl)) pe_int (nomark _)) (pw_and1 (pt_cmpR (op_neA (u190 hr)) (pe_op op_fdivW (pv 2) (pv 1)) pe_int (nomark _)))))
    · refine pss_one ?_
      exact (ps_expr (pe_bm PySem.F.plainAttrs_list PySem.F.slot_list_append PySem.F.type_list_append mt_append (pv 0) (pa_cons (pe_op op_fdivW (pv 2) (pv 1)) pa_nil)))
    · exact pss_nil
  refine pss_one ?_
  exact (ps_ret (pe_op op_mod (pv 2) (pv 1)))
theorem ok__law_name (T : Txt K mg t) : FnOk P w K mg base CX0 1 t.f__law_name.a t.f__law_name.d ["_law_code", "_law_k"] (sp__law_name K) := by
  refine T.f__law_name.F.ok sc__law_name (len__law_name K) (fun cdv A outer s H vs Q E hr h => ⟨R__law_name K, ?_, rd__law_name h⟩)
  have S := sc__law_name
  refine pss_cons ?_ ?_
  · refine ps_set (i := 2) S.nd rfl (Or.inl rfl) ?_ rfl ?_
    · exact pe_str
    · walk_at "or"
  refine pss_cons ?_ ?_
  · refine ps_set (i := 3) S.nd rfl (Or.inl rfl) ?_ rfl ?_
    · exact (pe_op op_mod (pe_op op_fdiv (pv 0) pe_int) pe_int)
    · walk_at "or"
  refine pss_cons ?_ ?_
  · refine ps_if ?_ ?_ ?_
    · exact (pt_cmpR (op_eqA (u190 hr)) (pe_op op_mod (pe_op op_fdiv (pv 0) pe_int) pe_int) pe_int (nomark _))
    · refine pss_one ?_
      exact (ps_ret (pe_op op_mulA (pe_ix (ix_any' (hu_of hr)) (pv 2) (pe_op op_mod (pe_op op_addA (pv 3) (pe_op op_fdiv (pv 1) pe_int)) pe_int) (fun _ _ => rfl)) (pe_op op_addA pe_int (pe_op op_mod (pv 1) pe_int))))
    · exact pss_nil
  refine pss_cons ?_ ?_
  · refine ps_set (i := 4) S.nd rfl (Or.inl rfl) ?_ rfl ?_
    · exact (pe_op op_addA pe_int (pe_op op_mod (pv 0) pe_int))
    · walk_at "or"
  refine pss_cons ?_ ?_
  · refine ps_set (i := 5) S.nd rfl (Or.inl rfl) ?_ rfl ?_
    · exact (pe_op op_mod (pe_op op_fdiv (pv 0) pe_int) (pv 4))
    · walk_at "or"
  refine pss_cons ?_ ?_
  · refine ps_set (i := 6) S.nd rfl (Or.inl rfl) ?_ rfl ?_
    · exact pe_str
    · walk_at "or"
  refine pss_cons ?_ ?_
  · refine ps_for PassesOwn.never rfl ?_ ?_ ?_
    · exact (pi_range1 rfl T.z_range (pa_cons (pv 4) pa_nil))
    · exact (pg_name (i := 7) S.nd rfl (Or.inl rfl))
    · refine pss_cons ?_ ?_
      · refine ps_set (i := 8) S.nd rfl (Or.inl rfl) ?_ rfl ?_
        · exact (pe_op op_mulA (pe_op op_mod (pe_op op_fdiv (pv 0) pe_int) pe_int) (pv 7))
        · walk_at "or"
      refine pss_cons ?_ ?_
      · refine ps_if ?_ ?_ ?_
        · exact (pt_cmpR (op_eqA (u190 hr)) (pv 7) (pv 5) (nomark _))
        · refine pss_one ?_
          refine ps_set (i := 8) S.nd rfl (Or.inl rfl) ?_ rfl ?_
          · exact (pe_op op_addA (pv 8) (pv 1))
          · walk_at "or"
        · exact pss_nil
      refine pss_one ?_
      refine ps_set (i := 6) S.nd rfl (Or.inl rfl) ?_ rfl ?_
      · exact (pe_op op_addA (pv 6) (pe_ix (ix_any' (hu_of hr)) (pv 2) (pe_op op_mod (pe_op op_addA (pv 3) (pv 8)) pe_int) (fun _ _ => rfl)))
      · walk_at "or"
  refine pss_one ?_
  exact (ps_ret (pv 6))
theorem ok__law_walk (T : Txt K mg t) : FnOk P w K mg base CX0 1 t.f__law_walk.a t.f__law_walk.d ["_law_tree"] (sp__law_walk K) := by
  refine T.f__law_walk.F.ok sc__law_walk (len__law_walk K) (fun cdv A outer s H vs Q E hr h => ⟨R__law_walk K, ?_, rd__law_walk h⟩)
  have S := sc__law_walk
  refine pss_cons ?_ ?_
  · refine ps_set (i := 1) S.nd rfl (Or.inl rfl) ?_ rfl ?_
    · exact (pe_lst pa_nil)
    · walk_at "or"
  refine pss_cons ?_ ?_
  · refine ps_set (i := 2) S.nd rfl (Or.inl rfl) ?_ rfl ?_
    · exact (pe_lst (pa_cons (pe_tup (pa_cons (pe_tup pa_nil) (pa_cons (pe_tup pa_nil) (pa_cons (pv 0) pa_nil)))) pa_nil))
    · walk_at "or"
  refine pss_cons ?_ ?_
  · refine ps_while PassesOwn.never ?_ ?_
    · exact (pt_cmpR (op_neA (u190 hr)) (pv 2) (pe_lst pa_nil) (nomark _))
    · refine pss_cons ?_ ?_
      · exact (ps_asg (pe_bm PySem.F.plainAttrs_list PySem.F.slot_list_pop PySem.F.type_list_pop mt_popAt (pv 2) (pa_cons pe_int pa_nil)) (pg_tup rfl (pgs_cons (pg_name (i := 3) S.nd rfl (Or.inr rfl)) (pgs_cons (pg_name (i := 4) S.nd rfl (Or.inl rfl)) (pgs_cons (pg_name (i := 5) S.nd rfl (Or.inr rfl)) pgs_nil)))))
      refine pss_cons ?_ ?_
      · exact (ps_expr (pe_bm PySem.F.plainAttrs_list PySem.F.slot_list_append PySem.F.type_list_append mt_append (pv 1) (pa_cons (pe_tup (pa_cons (pv 3) (pa_cons (pv 4) (pa_cons (pv 5) pa_nil)))) pa_nil)))
      refine pss_one ?_
      refine ps_if ?_ ?_ ?_
      · exact (pt_not (pt_val (pe_callB call_isinstanceA rfl T.z_isinstance boot_isinstance (pa_cons (pv 5) (pa_cons (pe_bltn rfl T.z_str boot_str rfl) pa_nil)))))
      · refine pss_cons ?_ ?_
        · refine ps_set (i := 6) S.nd rfl (Or.inr rfl) ?_ rfl ?_
          · exact (pv 4)
          · walk_at "or"
        refine pss_cons ?_ ?_
        · refine ps_if ?_ ?_ ?_
          · exact (pt_cmpR (op_neA (u190 hr)) (pv 3) (pe_tup pa_nil) (nomark _))
          · refine pss_one ?_
            refine ps_set (i := 6) S.nd rfl (Or.inr rfl) ?_ rfl ?_
            · exact (pe_op op_addB (pv 4) (pe_tup (pa_cons (pe_ix (ix_any' (hu_of hr)) (pv 5) pe_int (fun _ _ => rfl)) pa_nil)))
            · walk_at "or"
          · exact pss_nil
        refine pss_one ?_
        refine ps_set (i := 2) S.nd rfl (Or.inl rfl) ?_ rfl ?_
        · refine pe_op op_addB ?_ ?_
          · exact (pe_comp rfl (comp_scope (osc := defScope s__law_walk) (ON := ["_law_tree", "_law_found", "_law_todo", "_law_place", "_law_names", "_law_part", "_law_above"]) (N := ["_law_above", "_law_place", "_law_part", "_law_k"]) (fr := [some 6, some 3, some 5, none]) (by decide +kernel) rfl rfl) (pi_range1 rfl T.z_range (pa_cons (pe_callB call_lenA rfl T.z_len boot_len (pa_cons (pe_ix (ix_any' (hu_of hr)) (pv 5) pe_int (fun _ _ => rfl)) pa_nil)) pa_nil)) (fun _ _ _ _ _ _ => (pg_name (i := 3) (show List.Nodup (["_law_above", "_law_place", "_law_part", "_law_k"] : List Str) by decide +kernel) rfl (Or.inl rfl))) tg_name (fun _ _ _ _ _ _ => pts_nil) (fun _ _ _ _ _ _ => (pe_tup (pa_cons (pe_op op_addB (pv 1) (pe_tup (pa_cons (pv 3) pa_nil))) (pa_cons (pv 0) (pa_cons (pe_ix (ix_any' (hu_of hr)) (pe_ix (ix_any' (hu_of hr)) (pv 2) pe_int (fun _ _ => rfl)) (pv 3) (fun _ _ => rfl)) pa_nil))))))
          · exact (pv 2)
        · walk_at "or"
      · exact pss_nil
  refine pss_one ?_
  exact (ps_ret (pv 1))
theorem ok__law_row (T : Txt K mg t) : FnOk P w K mg base CX0 1 t.f__law_row.a t.f__law_row.d ["_law_book_here", "_law_name_here"] (sp__law_row K) := by
  refine T.f__law_row.F.ok sc__law_row (len__law_row K) (fun cdv A outer s H vs Q E hr h => ⟨R__law_row K, ?_, rd__law_row h⟩)
  have S := sc__law_row
  refine pss_cons ?_ ?_
  · refine ps_for PassesOwn.never rfl ?_ ?_ ?_
    · exact (pi_any (pv 0))
    · exact (pg_name (i := 2) S.nd rfl (Or.inl rfl))
    · refine pss_one ?_
      refine ps_if ?_ ?_ ?_
      · exact (pt_cmpR (op_eqA (u190 hr)) (pe_ix (ix_any' (hu_of hr)) (pv 2) pe_int (fun _ _ => rfl)) (pv 1) (nomark _))
      · refine pss_one ?_
        exact (ps_ret (pv 2))
      · exact pss_nil
  refine pss_one ?_
  exact (ps_ret (pe_tup (pa_cons pe_str (pa_cons pe_str (pa_cons pe_str (pa_cons (pe_tup pa_nil) (pa_cons (pe_tup pa_nil) pa_nil)))))))
theorem ok__law_whole (T : Txt K mg t) : FnOk P w K mg base CX0 1 t.f__law_whole.a t.f__law_whole.d ["_law_found"] (sp__law_whole K) := by
  refine T.f__law_whole.F.ok sc__law_whole (len__law_whole K) (fun cdv A outer s H vs Q E hr h => ⟨R__law_whole K, ?_, rd__law_whole h⟩)
  have S := sc__law_whole
  refine pss_one ?_
  exact (ps_ret (pe_and (pe_callB call_isinstanceA rfl T.z_isinstance boot_isinstance (pa_cons (pv 0) (pa_cons (pe_bltn rfl T.z_int boot_int rfl) pa_nil))) (pe_one (pe_not (pe_callB call_isinstanceA rfl T.z_isinstance boot_isinstance (pa_cons (pv 0) (pa_cons (pe_bltn rfl T.z_bool boot_bool rfl) pa_nil)))))))
theorem ok_sort_of (T : Txt K mg t) : FnOk P w K mg base CX0 2 t.f_sort_of.a t.f_sort_of.d ["book", "name"] (sp_sort_of K) := by
  refine T.f_sort_of.F.ok sc_sort_of (len_sort_of K) (fun cdv A outer s H vs Q E hr h => ⟨R_sort_of K, ?_, rd_sort_of h⟩)
  have S := sc_sort_of
  refine pss_cons ?_ ?_
  · refine ps_set (i := 2) S.nd rfl (Or.inl rfl) ?_ rfl ?_
    · exact (pe_call (ok_row_of T) (hr.mono (by walk_at "le")) rfl T.f_row_of.m T.f_row_of.F.kp T.f_row_of.b .nil pass0 (pa_cons (pv 0) (pa_cons (pv 1) pa_nil)))
    · walk_at "or"
  refine pss_one ?_
  exact (ps_ret (pe_ifExp (pt_cmpR op_isA (pv 2) pe_non (nomark _)) pe_non (pe_ix (ix_any' (hu_of hr)) (pv 2) (pe_glob rfl T.g_SORT.1 T.g_SORT.2) (fun _ _ => rfl))))
theorem ok_host_of (T : Txt K mg t) : FnOk P w K mg base CX0 2 t.f_host_of.a t.f_host_of.d ["book", "name"] (sp_host_of K) := by
  refine T.f_host_of.F.ok sc_host_of (len_host_of K) (fun cdv A outer s H vs Q E hr h => ⟨R_host_of K, ?_, rd_host_of h⟩)
  have S := sc_host_of
  refine pss_cons ?_ ?_
  · refine ps_set (i := 2) S.nd rfl (Or.inl rfl) ?_ rfl ?_
    · exact (pe_call (ok_row_of T) (hr.mono (by walk_at "le")) rfl T.f_row_of.m T.f_row_of.F.kp T.f_row_of.b .nil pass0 (pa_cons (pv 0) (pa_cons (pv 1) pa_nil)))
    · walk_at "or"
  refine pss_cons ?_ ?_
  · refine ps_if ?_ ?_ ?_
    · exact (PW.pt (pw_or (pt_cmpR op_isA (pv 2) pe_non (nomark _)) (pw_or1 (pt_cmpR (op_neA (u190 hr)) (pe_ix (ix_any' (hu_of hr)) (pv 2) (pe_glob rfl T.g_SORT.1 T.g_SORT.2) (fun _ _ => rfl)) pe_str (nomark _)))))
    · refine pss_one ?_
      exact (ps_ret pe_non)
    · exact pss_nil
  refine pss_one ?_
  exact (ps_ret (pe_ix (ix_any' (hu_of hr)) (pv 2) (pe_glob rfl T.g_HOST.1 T.g_HOST.2) (fun _ _ => rfl)))
theorem ok_parts_of (T : Txt K mg t) : FnOk P w K mg base CX0 2 t.f_parts_of.a t.f_parts_of.d ["part"] (sp_parts_of K) := by
  refine T.f_parts_of.F.ok sc_parts_of (len_parts_of K) (fun cdv A outer s H vs Q E hr h => ⟨R_parts_of K, ?_, rd_parts_of h⟩)
  have S := sc_parts_of
  refine pss_one ?_
  exact (ps_ret (pe_ifExp (pt_val (pe_call (ok_is_text T) (hr.mono (by walk_at "le")) rfl T.f_is_text.m T.f_is_text.F.kp T.f_is_text.b .nil pass0 (pa_cons (pv 0) pa_nil))) (pe_tup pa_nil) (pe_ix (ix_any' (hu_of hr)) (pv 0) pe_int (fun _ _ => rfl))))
theorem ok__law_sorts (T : Txt K mg t) : FnOk P w K mg base CX0 2 t.f__law_sorts.a t.f__law_sorts.d ["_law_deck", "_law_count"] (sp__law_sorts K) := by
  refine T.f__law_sorts.F.ok sc__law_sorts (len__law_sorts K) (fun cdv A outer s H vs Q E hr h => ⟨R__law_sorts K, ?_, rd__law_sorts h⟩)
  have S := sc__law_sorts
  refine pss_cons ?_ ?_
  · refine ps_set (i := 2) S.nd rfl (Or.inr rfl) ?_ rfl ?_
    · refine pe_lst ?_
      with_reducible refine pa_s1 ?_
      with_reducible refine pa_s1 ?_
      with_reducible refine pa_s1 ?_
      with_reducible refine pa_s1 ?_
      with_reducible refine pa_s1 ?_
      with_reducible refine pa_s1 ?_
      with_reducible refine pa_s1 ?_
      with_reducible refine pa_s1 ?_
      exact pa_s0
    · walk_at "or"
  refine pss_cons ?_ ?_
  · refine ps_set (i := 3) S.nd rfl (Or.inr rfl) ?_ rfl ?_
    · exact (pe_comp rfl (comp_scope (osc := defScope s__law_sorts) (ON := ["_law_deck", "_law_count", "_law_kinds", "_law_sorts_here", "_law_hosts", "_law_k", "_law_free"]) (N := ["_law_kinds", "_law_deck", "_law_k"]) (fr := [some 2, some 0, none]) (by decide +kernel) rfl rfl) (pi_range1 rfl T.z_range (pa_cons (pv 1) pa_nil)) (fun _ _ _ _ _ _ => (pg_name (i := 2) (show List.Nodup (["_law_kinds", "_law_deck", "_law_k"] : List Str) by decide +kernel) rfl (Or.inl rfl))) tg_name (fun _ _ _ _ _ _ => pts_nil) (fun _ _ _ _ _ _ => (pe_ix (ix_any' (hu_of hr)) (pv 0) (pe_call (ok__law_draw T) (hr.mono (by walk_at "le")) rfl T.f__law_draw.m T.f__law_draw.F.kp T.f__law_draw.b .nil pass0 (pa_cons (pv 1) (pa_cons pe_int pa_nil))) (fun _ _ => rfl))))
    · walk_at "or"
  refine pss_cons ?_ ?_
  · refine ps_set (i := 4) S.nd rfl (Or.inr rfl) ?_ rfl ?_
    · exact pe_dnewK
    · walk_at "or"
  refine pss_cons ?_ ?_
  · refine ps_for PassesOwn.never rfl ?_ ?_ ?_
    · exact (pi_range1 rfl T.z_range (pa_cons (pv 1) pa_nil))
    · exact (pg_name (i := 5) S.nd rfl (Or.inl rfl))
    · refine pss_one ?_
      refine ps_if ?_ ?_ ?_
      · exact (pt_cmpR (op_eqA (u190 hr)) (pe_ix (ix_any' (hu_of hr)) (pv 3) (pv 5) (fun _ _ => rfl)) pe_str (nomark _))
      · refine pss_cons ?_ ?_
        · exact (ps_setC (i := 6) S.nd rfl rfl rfl (comp_scope (osc := defScope s__law_sorts) (ON := ["_law_deck", "_law_count", "_law_kinds", "_law_sorts_here", "_law_hosts", "_law_k", "_law_free"]) (N := ["_law_sorts_here", "_law_hosts", "_law_j"]) (fr := [some 3, some 4, none]) (by decide +kernel) rfl rfl) (pi_range2 rfl T.z_range (pa_cons (pe_op op_addA (pv 5) pe_int) (pa_cons (pv 1) pa_nil))) (fun _ _ _ _ _ _ => (pg_name (i := 2) (show List.Nodup (["_law_sorts_here", "_law_hosts", "_law_j"] : List Str) by decide +kernel) rfl (Or.inl rfl))) tg_name (fun _ _ _ _ _ _ => (pts_one (PW.pt (pw_and (pt_cmpR (op_inB (hu_of hr)) (pe_ix (ix_any' (hu_of hr)) (pv 0) (pv 2) (fun _ _ => rfl)) (pe_tup (pa_cons pe_str (pa_cons pe_str pa_nil))) (by with_unfolding_all rfl)) (pw_and1 (pt_notinV rfl (pv 2) (pv 1))))))) (fun _ _ _ _ _ _ => (pv 2)))
        refine pss_one ?_
        refine ps_if ?_ ?_ ?_
        · exact (pt_cmpR (op_eqA (u190 hr)) (pv 6) (pe_lst pa_nil) (nomark _))
        · refine pss_one ?_
          exact (ps_asg (pe_ix (ix_any' (hu_of hr)) (pe_lst (pa_cons pe_str (pa_cons pe_str pa_nil))) (pe_callTy call_intA rfl T.z_int boot_int (pa_cons (pe_inV rfl (pv 5) (pv 4)) pa_nil)) (fun _ _ => rfl)) (pg_sub (pv 3) (pv 5) (set_any' (hu_of hr))))
        · refine pss_one ?_
          exact (ps_asg (pe_ix (ix_any' (hu_of hr)) (pv 6) (pe_call (ok__law_draw T) (hr.mono (by walk_at "le")) rfl T.f__law_draw.m T.f__law_draw.F.kp T.f__law_draw.b .nil pass0 (pa_cons (pv 0) (pa_cons (pe_callB call_lenA rfl T.z_len boot_len (pa_cons (pv 6) pa_nil)) pa_nil))) (fun _ _ => rfl)) (pg_sub (pv 4) (pv 5) (set_any' (hu_of hr))))
      · exact pss_nil
  refine pss_one ?_
  exact (ps_ret (pe_tup (pa_cons (pv 3) (pa_cons (pv 4) pa_nil))))
theorem ok__law_some (T : Txt K mg t) : FnOk P w K mg base CX0 2 t.f__law_some.a t.f__law_some.d ["_law_deck", "_law_names"] (sp__law_some K) := by
  refine T.f__law_some.F.ok sc__law_some (len__law_some K) (fun cdv A outer s H vs Q E hr h => ⟨R__law_some K, ?_, rd__law_some h⟩)
  have S := sc__law_some
  refine pss_cons ?_ ?_
  · refine ps_set (i := 2) S.nd rfl (Or.inl rfl) ?_ rfl ?_
    · exact (pe_lst pa_nil)
    · walk_at "or"
  refine pss_cons ?_ ?_
  · refine ps_for PassesOwn.never rfl ?_ ?_ ?_
    · exact (pi_any (pv 1))
    · exact (pg_name (i := 3) S.nd rfl (Or.inl rfl))
    · refine pss_one ?_
      refine ps_if ?_ ?_ ?_
      · exact (pt_cmpR (op_eqA (u190 hr)) (pe_call (ok__law_draw T) (hr.mono (by walk_at "le")) rfl T.f__law_draw.m T.f__law_draw.F.kp T.f__law_draw.b .nil pass0 (pa_cons (pv 0) (pa_cons pe_int pa_nil))) pe_int (nomark _))
      · refine pss_one ?_
        exact (ps_expr (pe_bm PySem.F.plainAttrs_list PySem.F.slot_list_append PySem.F.type_list_append mt_append (pv 2) (pa_cons (pv 3) pa_nil)))
      · exact pss_nil
  refine pss_one ?_
  exact (ps_ret (pe_callTy call_tupleA rfl T.z_tuple boot_tuple (pa_cons (pe_callB call_sortedA rfl T.z_sorted boot_sorted (pa_cons (pv 2) pa_nil)) pa_nil)))
theorem ok__law_text (T : Txt K mg t) : FnOk P w K mg base CX0 2 t.f__law_text.a t.f__law_text.d ["_law_deck"] (sp__law_text K) := by
  refine T.f__law_text.F.ok sc__law_text (len__law_text K) (fun cdv A outer s H vs Q E hr h => ⟨R__law_text K, ?_, rd__law_text h⟩)
  have S := sc__law_text
  refine pss_cons ?_ ?_
  · refine ps_set (i := 1) S.nd rfl (Or.inr rfl) ?_ rfl ?_
    · exact pe_str
    · walk_at "or"
  refine pss_cons ?_ ?_
  · refine ps_if ?_ ?_ ?_
    · exact (pt_cmpR (op_eqA (u190 hr)) (pe_call (ok__law_draw T) (hr.mono (by walk_at "le")) rfl T.f__law_draw.m T.f__law_draw.F.kp T.f__law_draw.b .nil pass0 (pa_cons (pv 0) (pa_cons pe_int pa_nil))) pe_int (nomark _))
    · refine pss_cons ?_ ?_
      · refine ps_set (i := 1) S.nd rfl (Or.inr rfl) ?_ rfl ?_
        · exact pe_str
        · walk_at "or"
      refine pss_one ?_
      refine ps_set (i := 1) S.nd rfl (Or.inr rfl) ?_ rfl ?_
      · exact (pe_op op_addA (pv 1) pe_str)
      · walk_at "or"
    · exact pss_nil
  refine pss_one ?_
  refine ps_ret ?_
  exact (pe_bm PySem.F.plainAttrs_str PySem.F.slot_str_join PySem.F.type_str_join mt_join pe_str (pa_cons (pe_comp rfl (comp_scope (osc := defScope s__law_text) (ON := ["_law_deck", "_law_signs"]) (N := ["_law_signs", "_law_deck", "_law_k"]) (fr := [some 1, some 0, none]) (by decide +kernel) rfl rfl) (pi_range1 rfl T.z_range (pa_cons (pe_op op_addA pe_int (pe_call (ok__law_draw T) (hr.mono (by walk_at "le")) rfl T.f__law_draw.m T.f__law_draw.F.kp T.f__law_draw.b .nil pass0 (pa_cons (pv 0) (pa_cons pe_int pa_nil)))) pa_nil)) (fun _ _ _ _ _ _ => (pg_name (i := 2) (show List.Nodup (["_law_signs", "_law_deck", "_law_k"] : List Str) by decide +kernel) rfl (Or.inl rfl))) tg_name (fun _ _ _ _ _ _ => pts_nil) (fun _ _ _ _ _ _ => (pe_ix (ix_any' (hu_of hr)) (pv 0) (pe_call (ok__law_draw T) (hr.mono (by walk_at "le")) rfl T.f__law_draw.m T.f__law_draw.F.kp T.f__law_draw.b .nil pass0 (pa_cons (pv 1) (pa_cons (pe_callB call_lenA rfl T.z_len boot_len (pa_cons (pv 0) pa_nil)) pa_nil))) (fun _ _ => rfl)))) pa_nil))
theorem ok__law_near (T : Txt K mg t) : FnOk P w K mg base CX0 2 t.f__law_near.a t.f__law_near.d ["_law_book_here", "_law_names"] (sp__law_near K) := by
  refine T.f__law_near.F.ok sc__law_near (len__law_near K) (fun cdv A outer s H vs Q E hr h => ⟨R__law_near K, ?_, rd__law_near h⟩)
  have S := sc__law_near
  refine pss_cons ?_ ?_
  · refine ps_set (i := 2) S.nd rfl (Or.inl rfl) ?_ rfl ?_
    · exact (pe_callTy call_listA rfl T.z_list boot_list (pa_cons (pv 1) pa_nil))
    · walk_at "or"
  refine pss_cons ?_ ?_
  · refine ps_for PassesOwn.never rfl ?_ ?_ ?_
    · exact (pi_range1 rfl T.z_range (pa_cons (pe_callB call_lenA rfl T.z_len boot_len (pa_cons (pv 1) pa_nil)) pa_nil))
    · exact (pg_name (i := 3) S.nd rfl (Or.inl rfl))
    · refine pss_one ?_
      refine ps_if ?_ ?_ ?_
      · exact (pt_cmpR (op_inB (hu_of hr)) (pe_ix (ix_any' (hu_of hr)) (pe_call (ok__law_row T) (hr.mono (by walk_at "le")) rfl T.f__law_row.m T.f__law_row.F.kp T.f__law_row.b .nil pass0 (pa_cons (pv 0) (pa_cons (pe_ix (ix_any' (hu_of hr)) (pv 1) (pv 3) (fun _ _ => rfl)) pa_nil))) pe_int (fun _ _ => rfl)) (pe_tup (pa_cons pe_str (pa_cons pe_str pa_nil))) (by with_unfolding_all rfl))
      · refine pss_one ?_
        refine ps_set (i := 2) S.nd rfl (Or.inl rfl) ?_ rfl ?_
        · exact (pe_callTy call_listA rfl T.z_list boot_list (pa_cons (pe_slice sl_anyB (pv 1) (po_some (pe_op op_addB (pv 3) pe_int)) po_none) pa_nil))
        · walk_at "or"
      · exact pss_nil
  refine pss_one ?_
  exact (ps_ret (pv 2))
theorem ok_is_wall (T : Txt K mg t) : FnOk P w K mg base CX0 3 t.f_is_wall.a t.f_is_wall.d ["book", "name"] (sp_is_wall K) := by
  refine T.f_is_wall.F.ok sc_is_wall (len_is_wall K) (fun cdv A outer s H vs Q E hr h => ⟨R_is_wall K t.c_WALL_SORTS, ?_, rd_is_wall T.q_WALL_SORTS h⟩)
  have S := sc_is_wall
  refine pss_one ?_
  exact (ps_ret (pe_cmpR (op_inB (hu_of hr)) (pe_call (ok_sort_of T) (hr.mono (by walk_at "le")) rfl T.f_sort_of.m T.f_sort_of.F.kp T.f_sort_of.b .nil pass0 (pa_cons (pv 0) (pa_cons (pv 1) pa_nil))) (pe_glob rfl T.g_WALL_SORTS rfl) (by with_unfolding_all rfl)))
theorem ok_way_to (T : Txt K mg t) : FnOk P w K mg base CX0 3 t.f_way_to.a t.f_way_to.d ["tree", "place"] (sp_way_to K) := by
  refine T.f_way_to.F.ok sc_way_to (len_way_to K) (fun cdv A outer s H vs Q E hr h => ⟨R_way_to K, ?_, rd_way_to h⟩)
  have S := sc_way_to
  refine pss_cons ?_ ?_
  · refine ps_set (i := 2) S.nd rfl (Or.inl rfl) ?_ rfl ?_
    · exact (pe_lst (pa_cons (pv 0) pa_nil))
    · walk_at "or"
  refine pss_cons ?_ ?_
  · refine ps_for PassesOwn.never rfl ?_ ?_ ?_
    · exact (pi_any (pv 1))
    · exact (pg_name (i := 3) S.nd rfl (Or.inl rfl))
    · refine pss_cons ?_ ?_
      · refine ps_set (i := 4) S.nd rfl (Or.inl rfl) ?_ rfl ?_
        · exact (pe_call (ok_parts_of T) (hr.mono (by walk_at "le")) rfl T.f_parts_of.m T.f_parts_of.F.kp T.f_parts_of.b .nil pass0 (pa_cons (pe_ix (ix_any' (hu_of hr)) (pv 2) (pe_un un_neg pe_int) (fun _ _ => rfl)) pa_nil))
        · walk_at "or"
      refine pss_cons ?_ ?_
      · refine ps_if ?_ ?_ ?_
        · exact (pt_not (pt_chain op_leA op_ltA pe_int (pv 3) (pe_callB call_lenA rfl T.z_len boot_len (pa_cons (pv 4) pa_nil))))
        · refine pss_one ?_
          exact ps_never
        · exact pss_nil
      refine pss_one ?_
      exact (ps_expr (pe_bm PySem.F.plainAttrs_list PySem.F.slot_list_append PySem.F.type_list_append mt_append (pv 2) (pa_cons (pe_ix (ix_any' (hu_of hr)) (pv 4) (pv 3) (fun _ _ => rfl)) pa_nil)))
  refine pss_one ?_
  exact (ps_ret (pv 2))
theorem ok_steps_below (T : Txt K mg t) : FnOk P w K mg base CX0 3 t.f_steps_below.a t.f_steps_below.d ["place", "part"] (sp_steps_below K) := by
  refine T.f_steps_below.F.ok sc_steps_below (len_steps_below K) (fun cdv A outer s H vs Q E hr h => ⟨R_steps_below K, ?_, rd_steps_below h⟩)
  have S := sc_steps_below
  refine pss_cons ?_ ?_
  · refine ps_set (i := 2) S.nd rfl (Or.inr rfl) ?_ rfl ?_
    · exact (pe_call (ok_parts_of T) (hr.mono (by walk_at "le")) rfl T.f_parts_of.m T.f_parts_of.F.kp T.f_parts_of.b .nil pass0 (pa_cons (pv 1) pa_nil))
    · walk_at "or"
  refine pss_one ?_
  refine ps_ret ?_
  exact (pe_comp rfl (comp_scope (osc := defScope s_steps_below) (ON := ["place", "part", "parts"]) (N := ["place", "parts", "number"]) (fr := [some 0, some 2, none]) (by decide +kernel) rfl rfl) (pi_range3 rfl T.z_range (pa_cons (pe_op op_sub (pe_callB call_lenA rfl T.z_len boot_len (pa_cons (pv 2) pa_nil)) pe_int) (pa_cons (pe_un un_neg pe_int) (pa_cons (pe_un un_neg pe_int) pa_nil)))) (fun _ _ _ _ _ _ => (pg_name (i := 2) (show List.Nodup (["place", "parts", "number"] : List Str) by decide +kernel) rfl (Or.inl rfl))) tg_name (fun _ _ _ _ _ _ => pts_nil) (fun _ _ _ _ _ _ => (pe_tup (pa_cons (pe_op op_addB (pv 0) (pe_tup (pa_cons (pv 2) pa_nil))) (pa_cons (pe_ix (ix_any' (hu_of hr)) (pv 1) (pv 2) (fun _ _ => rfl)) pa_nil)))))
theorem ok_text_fault (T : Txt K mg t) : FnOk P w K mg base CX0 3 t.f_text_fault.a t.f_text_fault.d ["book", "names", "text", "beside"] (sp_text_fault K) := by
  refine T.f_text_fault.F.ok sc_text_fault (len_text_fault K) (fun cdv A outer s H vs Q E hr h => ⟨R_text_fault K, ?_, rd_text_fault h⟩)
  have S := sc_text_fault
  refine pss_cons ?_ ?_
  · refine ps_if ?_ ?_ ?_
    · exact (pt_cmpR op_isnotA (pe_call (ok_host_of T) (hr.mono (by walk_at "le")) rfl T.f_host_of.m T.f_host_of.F.kp T.f_host_of.b .nil pass0 (pa_cons (pv 0) (pa_cons (pe_call (ok_straight_above T) (hr.mono (by walk_at "le")) rfl T.f_straight_above.m T.f_straight_above.F.kp T.f_straight_above.b .nil pass0 (pa_cons (pv 1) pa_nil)) pa_nil))) pe_non (nomark _))
    · refine pss_one ?_
      exact (ps_ret pe_str)
    · exact pss_nil
  refine pss_cons ?_ ?_
  · refine ps_if ?_ ?_ ?_
    · exact (pt_cmpR (op_eqA (u190 hr)) (pv 2) pe_str (nomark _))
    · refine pss_one ?_
      exact (ps_ret pe_str)
    · exact pss_nil
  refine pss_one ?_
  exact (ps_ret (pe_ifExp (pt_val (pv 3)) pe_str pe_non))
theorem ok_frame_fault (T : Txt K mg t) : FnOk P w K mg base CX0 3 t.f_frame_fault.a t.f_frame_fault.d ["book", "names", "name"] (sp_frame_fault K) := by
  refine T.f_frame_fault.F.ok sc_frame_fault (len_frame_fault K) (fun cdv A outer s H vs Q E hr h => ⟨R_frame_fault K, ?_, rd_frame_fault h⟩)
  have S := sc_frame_fault
  refine pss_cons ?_ ?_
  · refine ps_set (i := 3) S.nd rfl (Or.inl rfl) ?_ rfl ?_
    · exact (pe_call (ok_straight_above T) (hr.mono (by walk_at "le")) rfl T.f_straight_above.m T.f_straight_above.F.kp T.f_straight_above.b .nil pass0 (pa_cons (pv 1) pa_nil))
    · walk_at "or"
  refine pss_cons ?_ ?_
  · refine ps_set (i := 4) S.nd rfl (Or.inl rfl) ?_ rfl ?_
    · exact (pe_call (ok_host_of T) (hr.mono (by walk_at "le")) rfl T.f_host_of.m T.f_host_of.F.kp T.f_host_of.b .nil pass0 (pa_cons (pv 0) (pa_cons (pv 3) pa_nil)))
    · walk_at "or"
  refine pss_cons ?_ ?_
  · refine ps_if ?_ ?_ ?_
    · exact (PW.pt (pw_and (pt_cmpR op_isnotA (pv 4) pe_non (nomark _)) (pw_and1 (pt_cmpR (op_neA (u190 hr)) (pv 4) (pv 2) (nomark _)))))
    · refine pss_one ?_
      exact (ps_ret pe_str)
    · exact pss_nil
  refine pss_cons ?_ ?_
  · refine ps_set (i := 5) S.nd rfl (Or.inl rfl) ?_ rfl ?_
    · exact (pe_call (ok_frame_of T) (hr.mono (by walk_at "le")) rfl T.f_frame_of.m T.f_frame_of.F.kp T.f_frame_of.b .nil pass0 (pa_cons (pv 0) (pa_cons (pv 2) pa_nil)))
    · walk_at "or"
  refine pss_cons ?_ ?_
  · refine ps_if ?_ ?_ ?_
    · exact (PW.pt (pw_and (pt_cmpR op_isnotA (pv 5) pe_non (nomark _)) (pw_and1 (pt_cmpR (op_neA (u190 hr)) (pv 5) (pv 3) (nomark _)))))
    · refine pss_one ?_
      exact (ps_ret pe_str)
    · exact pss_nil
  refine pss_one ?_
  exact (ps_ret pe_non)
theorem ok__law_book (T : Txt K mg t) : FnOk P w K mg base CX0 3 t.f__law_book.a t.f__law_book.d ["_law_deck", "_law_code", "_law_most"] (sp__law_book K) := by
  refine T.f__law_book.F.ok sc__law_book (len__law_book K) (fun cdv A outer s H vs Q E hr h => ⟨R__law_book K, ?_, rd__law_book h⟩)
  have S := sc__law_book
  refine pss_cons ?_ ?_
  · refine ps_set (i := 3) S.nd rfl (Or.inl rfl) ?_ rfl ?_
    · exact (pe_op op_addA pe_int (pe_call (ok__law_draw T) (hr.mono (by walk_at "le")) rfl T.f__law_draw.m T.f__law_draw.F.kp T.f__law_draw.b .nil pass0 (pa_cons (pv 0) (pa_cons (pv 2) pa_nil))))
    · walk_at "or"
  refine pss_cons ?_ ?_
  · exact (ps_asg (pe_call (ok__law_sorts T) (hr.mono (by walk_at "le")) rfl T.f__law_sorts.m T.f__law_sorts.F.kp T.f__law_sorts.b .nil pass0 (pa_cons (pv 0) (pa_cons (pv 3) pa_nil))) (pg_tup rfl (pgs_cons (pg_name (i := 4) S.nd rfl (Or.inr rfl)) (pgs_cons (pg_name (i := 5) S.nd rfl (Or.inr rfl)) pgs_nil))))
  refine pss_cons ?_ ?_
  · refine ps_set (i := 6) S.nd rfl (Or.inr rfl) ?_ rfl ?_
    · exact (pe_comp rfl (comp_scope (osc := defScope s__law_book) (ON := ["_law_deck", "_law_code", "_law_most", "_law_count", "_law_sorts_here", "_law_hosts", "_law_names", "_law_soft", "_law_may_shut", "_law_book_here", "_law_k", "_law_shuts", "_law_host", "_law_row_here"]) (N := ["_law_code", "_law_k"]) (fr := [some 1, none]) (by decide +kernel) rfl rfl) (pi_range1 rfl T.z_range (pa_cons (pv 3) pa_nil)) (fun _ _ _ _ _ _ => (pg_name (i := 1) (show List.Nodup (["_law_code", "_law_k"] : List Str) by decide +kernel) rfl (Or.inl rfl))) tg_name (fun _ _ _ _ _ _ => pts_nil) (fun _ _ _ _ _ _ => (pe_call (ok__law_name T) (hr.mono (by walk_at "le")) rfl T.f__law_name.m T.f__law_name.F.kp T.f__law_name.b .nil pass0 (pa_cons (pv 0) (pa_cons (pv 1) pa_nil)))))
    · walk_at "or"
  refine pss_cons ?_ ?_
  · exact (ps_setC (i := 7) S.nd rfl rfl rfl (comp_scope (osc := defScope s__law_book) (ON := ["_law_deck", "_law_code", "_law_most", "_law_count", "_law_sorts_here", "_law_hosts", "_law_names", "_law_soft", "_law_may_shut", "_law_book_here", "_law_k", "_law_shuts", "_law_host", "_law_row_here"]) (N := ["_law_sorts_here", "_law_k"]) (fr := [some 4, none]) (by decide +kernel) rfl rfl) (pi_range1 rfl T.z_range (pa_cons (pv 3) pa_nil)) (fun _ _ _ _ _ _ => (pg_name (i := 1) (show List.Nodup (["_law_sorts_here", "_law_k"] : List Str) by decide +kernel) rfl (Or.inl rfl))) tg_name (fun _ _ _ _ _ _ => (pts_one (pt_cmpR (op_inB (hu_of hr)) (pe_ix (ix_any' (hu_of hr)) (pv 0) (pv 1) (fun _ _ => rfl)) (pe_tup (pa_cons pe_str (pa_cons pe_str pa_nil))) (by with_unfolding_all rfl)))) (fun _ _ _ _ _ _ => (pv 1)))
  refine pss_cons ?_ ?_
  · exact (ps_setC (i := 8) S.nd rfl rfl rfl (comp_scope (osc := defScope s__law_book) (ON := ["_law_deck", "_law_code", "_law_most", "_law_count", "_law_sorts_here", "_law_hosts", "_law_names", "_law_soft", "_law_may_shut", "_law_book_here", "_law_k", "_law_shuts", "_law_host", "_law_row_here"]) (N := ["_law_names", "_law_hosts", "_law_k"]) (fr := [some 6, some 5, none]) (by decide +kernel) rfl rfl) (pi_any (pv 7)) (fun _ _ _ _ _ _ => (pg_name (i := 2) (show List.Nodup (["_law_names", "_law_hosts", "_law_k"] : List Str) by decide +kernel) rfl (Or.inl rfl))) tg_name (fun _ _ _ _ _ _ => (pts_one (pt_notinV rfl (pv 2) (pv 1)))) (fun _ _ _ _ _ _ => (pe_ix (ix_any' (hu_of hr)) (pv 0) (pv 2) (fun _ _ => rfl))))
  refine pss_cons ?_ ?_
  · refine ps_set (i := 9) S.nd rfl (Or.inl rfl) ?_ rfl ?_
    · exact (pe_lst pa_nil)
    · walk_at "or"
  refine pss_cons ?_ ?_
  · refine ps_for PassesOwn.never rfl ?_ ?_ ?_
    · exact (pi_range1 rfl T.z_range (pa_cons (pv 3) pa_nil))
    · exact (pg_name (i := 10) S.nd rfl (Or.inl rfl))
    · refine pss_cons ?_ ?_
      · refine ps_set (i := 11) S.nd rfl (Or.inl rfl) ?_ rfl ?_
        · exact (pe_tup pa_nil)
        · walk_at "or"
      refine pss_cons ?_ ?_
      · refine ps_if ?_ ?_ ?_
        · exact (pt_notinV rfl (pv 10) (pv 5))
        · refine pss_one ?_
          refine ps_set (i := 11) S.nd rfl (Or.inl rfl) ?_ rfl ?_
          · exact (pe_call (ok__law_some T) (hr.mono (by walk_at "le")) rfl T.f__law_some.m T.f__law_some.F.kp T.f__law_some.b .nil pass0 (pa_cons (pv 0) (pa_cons (pv 8) pa_nil)))
          · walk_at "or"
        · exact pss_nil
      refine pss_cons ?_ ?_
      · refine ps_set (i := 12) S.nd rfl (Or.inl rfl) ?_ rfl ?_
        · exact pe_str
        · walk_at "or"
      refine pss_cons ?_ ?_
      · refine ps_if ?_ ?_ ?_
        · exact (pt_cmpR (op_inB (hu_of hr)) (pv 10) (pv 5) (by with_unfolding_all rfl))
        · refine pss_one ?_
          refine ps_set (i := 12) S.nd rfl (Or.inl rfl) ?_ rfl ?_
          · exact (pe_ix (ix_any' (hu_of hr)) (pv 6) (pe_dget (hu_of hr) (pv 5) (pv 10) (fun _ _ => rfl)) (fun _ _ => rfl))
          · walk_at "or"
        · exact pss_nil
      refine pss_cons ?_ ?_
      · refine ps_set (i := 13) S.nd rfl (Or.inl rfl) ?_ rfl ?_
        · refine pe_tup ?_
          refine pa_cons ?_ ?_
          · exact (pe_ix (ix_any' (hu_of hr)) (pv 6) (pv 10) (fun _ _ => rfl))
          refine pa_cons ?_ ?_
          · exact (pe_ix (ix_any' (hu_of hr)) (pv 4) (pv 10) (fun _ _ => rfl))
          refine pa_cons ?_ ?_
          · exact (pv 12)
          refine pa_cons ?_ ?_
          · exact (pv 11)
          refine pa_cons ?_ ?_
          · refine pe_call (ok__law_some T) (hr.mono (by walk_at "le")) rfl T.f__law_some.m T.f__law_some.F.kp T.f__law_some.b .nil pass0 ?_
            refine pa_cons ?_ ?_
            · exact (pv 0)
            refine pa_cons ?_ ?_
            · exact (pe_comp rfl (comp_scope (osc := defScope s__law_book) (ON := ["_law_deck", "_law_code", "_law_most", "_law_count", "_law_sorts_here", "_law_hosts", "_law_names", "_law_soft", "_law_may_shut", "_law_book_here", "_law_k", "_law_shuts", "_law_host", "_law_row_here"]) (N := ["_law_names", "_law_j"]) (fr := [some 6, none]) (by decide +kernel) rfl rfl) (pi_any (pv 7)) (fun _ _ _ _ _ _ => (pg_name (i := 1) (show List.Nodup (["_law_names", "_law_j"] : List Str) by decide +kernel) rfl (Or.inl rfl))) tg_name (fun _ _ _ _ _ _ => pts_nil) (fun _ _ _ _ _ _ => (pe_ix (ix_any' (hu_of hr)) (pv 0) (pv 1) (fun _ _ => rfl))))
            exact pa_nil
          exact pa_nil
        · walk_at "or"
      refine pss_one ?_
      exact (ps_expr (pe_bm PySem.F.plainAttrs_list PySem.F.slot_list_insert PySem.F.type_list_insert mt_insert (pv 9) (pa_cons (pe_call (ok__law_draw T) (hr.mono (by walk_at "le")) rfl T.f__law_draw.m T.f__law_draw.F.kp T.f__law_draw.b .nil pass0 (pa_cons (pv 0) (pa_cons (pe_op op_addA (pe_callB call_lenA rfl T.z_len boot_len (pa_cons (pv 9) pa_nil)) pe_int) pa_nil))) (pa_cons (pv 13) pa_nil))))
  refine pss_one ?_
  exact (ps_ret (pe_callTy call_tupleA rfl T.z_tuple boot_tuple (pa_cons (pv 9) pa_nil)))
theorem ok__law_fault (T : Txt K mg t) : FnOk P w K mg base CX0 3 t.f__law_fault.a t.f__law_fault.d ["_law_book_here", "_law_names", "_law_part", "_law_ahead"] (sp__law_fault K) := by
  refine T.f__law_fault.F.ok sc__law_fault (len__law_fault K) (fun cdv A outer s H vs Q E hr h => ⟨R__law_fault K, ?_, rd__law_fault h⟩)
  have S := sc__law_fault
  refine pss_cons ?_ ?_
  · refine ps_set (i := 4) S.nd rfl (Or.inl rfl) ?_ rfl ?_
    · exact pe_str
    · walk_at "or"
  refine pss_cons ?_ ?_
  · refine ps_if ?_ ?_ ?_
    · exact (pt_cmpR (op_neA (u190 hr)) (pv 1) (pe_tup pa_nil) (nomark _))
    · refine pss_one ?_
      refine ps_set (i := 4) S.nd rfl (Or.inl rfl) ?_ rfl ?_
      · exact (pe_ix (ix_any' (hu_of hr)) (pv 1) (pe_un un_neg pe_int) (fun _ _ => rfl))
      · walk_at "or"
    · exact pss_nil
  refine pss_cons ?_ ?_
  · refine ps_set (i := 5) S.nd rfl (Or.inl rfl) ?_ rfl ?_
    · exact (pe_call (ok__law_row T) (hr.mono (by walk_at "le")) rfl T.f__law_row.m T.f__law_row.F.kp T.f__law_row.b .nil pass0 (pa_cons (pv 0) (pa_cons (pv 4) pa_nil)))
    · walk_at "or"
  refine pss_cons ?_ ?_
  · refine ps_if ?_ ?_ ?_
    · exact (pt_val (pe_callB call_isinstanceA rfl T.z_isinstance boot_isinstance (pa_cons (pv 2) (pa_cons (pe_bltn rfl T.z_str boot_str rfl) pa_nil))))
    · refine pss_cons ?_ ?_
      · refine ps_if ?_ ?_ ?_
        · exact (pt_cmpR (op_eqA (u190 hr)) (pe_ix (ix_any' (hu_of hr)) (pv 5) pe_int (fun _ _ => rfl)) pe_str (nomark _))
        · refine pss_one ?_
          exact (ps_ret pe_str)
        · exact pss_nil
      refine pss_cons ?_ ?_
      · refine ps_if ?_ ?_ ?_
        · exact (pt_cmpR (op_eqA (u190 hr)) (pv 2) pe_str (nomark _))
        · refine pss_one ?_
          exact (ps_ret pe_str)
        · exact pss_nil
      refine pss_cons ?_ ?_
      · refine ps_if ?_ ?_ ?_
        · exact (pt_val (pe_callB call_isinstanceA rfl T.z_isinstance boot_isinstance (pa_cons (pv 3) (pa_cons (pe_bltn rfl T.z_str boot_str rfl) pa_nil))))
        · refine pss_one ?_
          exact (ps_ret pe_str)
        · exact pss_nil
      refine pss_one ?_
      exact (ps_ret pe_non)
    · exact pss_nil
  refine pss_cons ?_ ?_
  · exact (ps_asg (pe_call (ok__law_row T) (hr.mono (by walk_at "le")) rfl T.f__law_row.m T.f__law_row.F.kp T.f__law_row.b .nil pass0 (pa_cons (pv 0) (pa_cons (pe_ix (ix_any' (hu_of hr)) (pv 2) pe_int (fun _ _ => rfl)) pa_nil))) (pg_tup rfl (pgs_cons (pg_name (i := 6) S.nd rfl (Or.inr rfl)) (pgs_cons (pg_name (i := 7) S.nd rfl (Or.inl rfl)) (pgs_cons (pg_name (i := 8) S.nd rfl (Or.inl rfl)) (pgs_cons (pg_name (i := 9) S.nd rfl (Or.inr rfl)) (pgs_cons (pg_name (i := 10) S.nd rfl (Or.inr rfl)) pgs_nil)))))))
  refine pss_cons ?_ ?_
  · refine ps_if ?_ ?_ ?_
    · exact (pt_cmpR (op_eqA (u190 hr)) (pv 7) pe_str (nomark _))
    · refine pss_one ?_
      exact (ps_ret pe_str)
    · exact pss_nil
  refine pss_cons ?_ ?_
  · refine ps_if ?_ ?_ ?_
    · exact (PW.pt (pw_and (pt_cmpR (op_eqA (u190 hr)) (pv 7) pe_str (nomark _)) (pw_and1 (pt_cmpR op_gtA (pe_callB call_lenA rfl T.z_len boot_len (pa_cons (pe_ix (ix_any' (hu_of hr)) (pv 2) pe_int (fun _ _ => rfl)) pa_nil)) pe_int (nomark _)))))
    · refine pss_one ?_
      exact (ps_ret pe_str)
    · exact pss_nil
  refine pss_cons ?_ ?_
  · refine ps_if ?_ ?_ ?_
    · exact (pt_cmpR op_geA (pe_callB call_lenA rfl T.z_len boot_len (pa_cons (pv 1) pa_nil)) pe_int (nomark _))
    · refine pss_one ?_
      exact (ps_ret pe_str)
    · exact pss_nil
  refine pss_cons ?_ ?_
  · refine ps_if ?_ ?_ ?_
    · exact (PW.pt (pw_and (pt_cmpR (op_eqA (u190 hr)) (pe_ix (ix_any' (hu_of hr)) (pv 5) pe_int (fun _ _ => rfl)) pe_str (nomark _)) (pw_and1 (pt_cmpR (op_neA (u190 hr)) (pe_ix (ix_any' (hu_of hr)) (pv 5) pe_int (fun _ _ => rfl)) (pv 6) (nomark _)))))
    · refine pss_one ?_
      exact (ps_ret pe_str)
    · exact pss_nil
  refine pss_cons ?_ ?_
  · exact (ps_setC (i := 11) S.nd rfl rfl rfl (comp_scope (osc := defScope s__law_fault) (ON := ["_law_book_here", "_law_names", "_law_part", "_law_ahead", "_law_above", "_law_frame", "_law_name_here", "_law_sort", "_law_host", "_law_shuts", "_law_bars", "_law_frames", "_law_near_here"]) (N := ["_law_name_here", "_law_row_here"]) (fr := [some 6, none]) (by decide +kernel) rfl rfl) (pi_any (pv 0)) (fun _ _ _ _ _ _ => (pg_name (i := 1) (show List.Nodup (["_law_name_here", "_law_row_here"] : List Str) by decide +kernel) rfl (Or.inl rfl))) tg_name (fun _ _ _ _ _ _ => (pts_one (pt_cmpR (op_eqA (u190 hr)) (pe_ix (ix_any' (hu_of hr)) (pv 1) pe_int (fun _ _ => rfl)) (pv 0) (nomark _)))) (fun _ _ _ _ _ _ => (pe_ix (ix_any' (hu_of hr)) (pv 1) pe_int (fun _ _ => rfl))))
  refine pss_cons ?_ ?_
  · refine ps_if ?_ ?_ ?_
    · exact (PW.pt (pw_and (pt_cmpR (op_neA (u190 hr)) (pv 11) (pe_lst pa_nil) (nomark _)) (pw_and1 (pt_cmpR (op_neA (u190 hr)) (pv 11) (pe_lst (pa_cons (pv 4) pa_nil)) (nomark _)))))
    · refine pss_one ?_
      exact (ps_ret pe_str)
    · exact pss_nil
  refine pss_cons ?_ ?_
  · refine ps_set (i := 12) S.nd rfl (Or.inl rfl) ?_ rfl ?_
    · exact (pe_call (ok__law_near T) (hr.mono (by walk_at "le")) rfl T.f__law_near.m T.f__law_near.F.kp T.f__law_near.b .nil pass0 (pa_cons (pv 0) (pa_cons (pv 1) pa_nil)))
    · walk_at "or"
  refine pss_cons ?_ ?_
  · refine ps_if ?_ ?_ ?_
    · exact (pt_cmpR (op_neA (u190 hr)) (pe_comp rfl (comp_scope (osc := defScope s__law_fault) (ON := ["_law_book_here", "_law_names", "_law_part", "_law_ahead", "_law_above", "_law_frame", "_law_name_here", "_law_sort", "_law_host", "_law_shuts", "_law_bars", "_law_frames", "_law_near_here"]) (N := ["_law_shuts", "_law_one"]) (fr := [some 9, none]) (by decide +kernel) rfl rfl) (pi_any (pv 12)) (fun _ _ _ _ _ _ => (pg_name (i := 1) (show List.Nodup (["_law_shuts", "_law_one"] : List Str) by decide +kernel) rfl (Or.inl rfl))) tg_name (fun _ _ _ _ _ _ => (pts_one (pt_cmpR (op_inB (hu_of hr)) (pv 1) (pv 0) (by with_unfolding_all rfl)))) (fun _ _ _ _ _ _ => (pv 1))) (pe_lst pa_nil) (nomark _))
    · refine pss_one ?_
      exact (ps_ret pe_str)
    · exact pss_nil
  refine pss_cons ?_ ?_
  · refine ps_if ?_ ?_ ?_
    · exact (pt_cmpR (op_neA (u190 hr)) (pe_comp rfl (comp_scope (osc := defScope s__law_fault) (ON := ["_law_book_here", "_law_names", "_law_part", "_law_ahead", "_law_above", "_law_frame", "_law_name_here", "_law_sort", "_law_host", "_law_shuts", "_law_bars", "_law_frames", "_law_near_here"]) (N := ["_law_bars", "_law_one"]) (fr := [some 10, none]) (by decide +kernel) rfl rfl) (pi_any (pv 12)) (fun _ _ _ _ _ _ => (pg_name (i := 1) (show List.Nodup (["_law_bars", "_law_one"] : List Str) by decide +kernel) rfl (Or.inl rfl))) tg_name (fun _ _ _ _ _ _ => (pts_one (pt_cmpR (op_inB (hu_of hr)) (pv 1) (pv 0) (by with_unfolding_all rfl)))) (fun _ _ _ _ _ _ => (pv 1))) (pe_lst pa_nil) (nomark _))
    · refine pss_one ?_
      exact (ps_ret pe_str)
    · exact pss_nil
  refine pss_one ?_
  exact (ps_ret pe_non)
theorem ok_part_at (T : Txt K mg t) : FnOk P w K mg base CX0 4 t.f_part_at.a t.f_part_at.d ["tree", "place"] (sp_part_at K) := by
  refine T.f_part_at.F.ok sc_part_at (len_part_at K) (fun cdv A outer s H vs Q E hr h => ⟨R_part_at K, ?_, rd_part_at h⟩)
  have S := sc_part_at
  refine pss_one ?_
  exact (ps_ret (pe_ix (ix_any' (hu_of hr)) (pe_call (ok_way_to T) (hr.mono (by walk_at "le")) rfl T.f_way_to.m T.f_way_to.F.kp T.f_way_to.b .nil pass0 (pa_cons (pv 0) (pa_cons (pv 1) pa_nil))) (pe_un un_neg pe_int) (fun _ _ => rfl)))
theorem ok_names_above (T : Txt K mg t) : FnOk P w K mg base CX0 4 t.f_names_above.a t.f_names_above.d ["tree", "place"] (sp_names_above K) := by
  refine T.f_names_above.F.ok sc_names_above (len_names_above K) (fun cdv A outer s H vs Q E hr h => ⟨R_names_above K, ?_, rd_names_above h⟩)
  have S := sc_names_above
  refine pss_one ?_
  refine ps_ret ?_
  exact (pe_callTy call_tupleA rfl T.z_tuple boot_tuple (pa_cons (pe_comp rfl (comp_scope (osc := defScope s_names_above) (ON := ["tree", "place"]) (N := ["above"]) (fr := [none]) (by decide +kernel) rfl rfl) (pi_any (pe_slice sl_any (pe_call (ok_way_to T) (hr.mono (by walk_at "le")) rfl T.f_way_to.m T.f_way_to.F.kp T.f_way_to.b .nil pass0 (pa_cons (pv 0) (pa_cons (pv 1) pa_nil))) (po_some pe_int) (po_some (pe_un un_neg pe_int)))) (fun _ _ _ _ _ _ => (pg_name (i := 0) (show List.Nodup (["above"] : List Str) by decide +kernel) rfl (Or.inl rfl))) tg_name (fun _ _ _ _ _ _ => pts_nil) (fun _ _ _ _ _ _ => (pe_call (ok_name_of T) (hr.mono (by walk_at "le")) rfl T.f_name_of.m T.f_name_of.F.kp T.f_name_of.b .nil pass0 (pa_cons (pv 0) pa_nil)))) pa_nil))
theorem ok_placed_parts (T : Txt K mg t) : FnOk P w K mg base CX0 4 t.f_placed_parts.a t.f_placed_parts.d ["tree"] (sp_placed_parts K) := by
  refine T.f_placed_parts.F.ok sc_placed_parts (len_placed_parts K) (fun cdv A outer s H vs Q E hr h => ⟨R_placed_parts K, ?_, rd_placed_parts h⟩)
  have S := sc_placed_parts
  refine pss_cons ?_ ?_
  · refine ps_set (i := 1) S.nd rfl (Or.inl rfl) ?_ rfl ?_
    · exact (pe_lst pa_nil)
    · walk_at "or"
  refine pss_cons ?_ ?_
  · refine ps_set (i := 2) S.nd rfl (Or.inl rfl) ?_ rfl ?_
    · exact (pe_lst (pa_cons (pe_tup (pa_cons (pe_tup pa_nil) (pa_cons (pv 0) pa_nil))) pa_nil))
    · walk_at "or"
  refine pss_cons ?_ ?_
  · refine ps_while PassesOwn.never ?_ ?_
    · exact (pt_cmpR op_gtA (pe_callB call_lenA rfl T.z_len boot_len (pa_cons (pv 2) pa_nil)) pe_int (nomark _))
    · refine pss_cons ?_ ?_
      · refine ps_set (i := 3) S.nd rfl (Or.inl rfl) ?_ rfl ?_
        · exact (pe_bm0 PySem.F.plainAttrs_list PySem.F.slot_list_pop PySem.F.type_list_pop mt_pop (pv 2))
        · walk_at "or"
      refine pss_cons ?_ ?_
      · exact (ps_expr (pe_bm PySem.F.plainAttrs_list PySem.F.slot_list_append PySem.F.type_list_append mt_append (pv 1) (pa_cons (pv 3) pa_nil)))
      refine pss_one ?_
      exact (ps_expr (pe_bm PySem.F.plainAttrs_list PySem.F.slot_list_extend PySem.F.type_list_extend mt_extend (pv 2) (pa_cons (pe_call (ok_steps_below T) (hr.mono (by walk_at "le")) rfl T.f_steps_below.m T.f_steps_below.F.kp T.f_steps_below.b .nil pass0 (pa_cons (pe_ix (ix_any' (hu_of hr)) (pv 3) pe_int (fun _ _ => rfl)) (pa_cons (pe_ix (ix_any' (hu_of hr)) (pv 3) pe_int (fun _ _ => rfl)) pa_nil))) pa_nil)))
  refine pss_one ?_
  exact (ps_ret (pv 1))
theorem ok_near_of (T : Txt K mg t) : FnOk P w K mg base CX0 4 t.f_near_of.a t.f_near_of.d ["book", "names"] (sp_near_of K) := by
  refine T.f_near_of.F.ok sc_near_of (len_near_of K) (fun cdv A outer s H vs Q E hr h => ⟨R_near_of K, ?_, rd_near_of h⟩)
  have S := sc_near_of
  refine pss_cons ?_ ?_
  · refine ps_set (i := 2) S.nd rfl (Or.inl rfl) ?_ rfl ?_
    · exact pe_int
    · walk_at "or"
  refine pss_cons ?_ ?_
  · refine ps_for PassesOwn.never rfl ?_ ?_ ?_
    · exact (pi_enumT rfl T.z_enumerate (pa_cons (pv 1) pa_nil))
    · exact (pg_tup rfl (pgs_cons (pg_name (i := 3) S.nd rfl (Or.inl rfl)) (pgs_cons (pg_name (i := 4) S.nd rfl (Or.inl rfl)) pgs_nil)))
    · refine pss_one ?_
      refine ps_if ?_ ?_ ?_
      · exact (pt_val (pe_call (ok_is_wall T) (hr.mono (by walk_at "le")) rfl T.f_is_wall.m T.f_is_wall.F.kp T.f_is_wall.b .nil pass0 (pa_cons (pv 0) (pa_cons (pv 4) pa_nil))))
      · refine pss_one ?_
        refine ps_set (i := 2) S.nd rfl (Or.inl rfl) ?_ rfl ?_
        · exact (pe_op op_addB (pv 3) pe_int)
        · walk_at "or"
      · exact pss_nil
  refine pss_one ?_
  exact (ps_ret (pe_callTy call_tupleA rfl T.z_tuple boot_tuple (pa_cons (pe_slice sl_anyB (pv 1) (po_some (pv 2)) po_none) pa_nil)))
theorem ok__law_faults (T : Txt K mg t) : FnOk P w K mg base CX0 4 t.f__law_faults.a t.f__law_faults.d ["_law_book_here", "_law_tree"] (sp__law_faults K) := by
  refine T.f__law_faults.F.ok sc__law_faults (len__law_faults K) (fun cdv A outer s H vs Q E hr h => ⟨R__law_faults K, ?_, rd__law_faults h⟩)
  have S := sc__law_faults
  refine pss_cons ?_ ?_
  · refine ps_set (i := 2) S.nd rfl (Or.inl rfl) ?_ rfl ?_
    · exact (pe_lst pa_nil)
    · walk_at "or"
  refine pss_cons ?_ ?_
  · refine ps_set (i := 3) S.nd rfl (Or.inl rfl) ?_ rfl ?_
    · exact (pe_call (ok__law_walk T) (hr.mono (by walk_at "le")) rfl T.f__law_walk.m T.f__law_walk.F.kp T.f__law_walk.b .nil pass0 (pa_cons (pv 1) pa_nil))
    · walk_at "or"
  refine pss_cons ?_ ?_
  · refine ps_set (i := 4) S.nd rfl (Or.inl rfl) ?_ rfl ?_
    · exact pe_dnewT
    · walk_at "or"
  refine pss_cons ?_ ?_
  · refine ps_for PassesOwn.never rfl ?_ ?_ ?_
    · exact (pi_any (pv 3))
    · exact (pg_tup rfl (pgs_cons (pg_name (i := 5) S.nd rfl (Or.inl rfl)) (pgs_cons (pg_name (i := 6) S.nd rfl (Or.inl rfl)) (pgs_cons (pg_name (i := 7) S.nd rfl (Or.inl rfl)) pgs_nil))))
    · refine pss_cons ?_ ?_
      · exact (ps_asg (pv 7) (pg_sub (pv 4) (pv 5) (set_any' (hu_of hr))))
      refine pss_one ?_
      refine ps_if ?_ ?_ ?_
      · exact (pt_cmpR (op_neA (u190 hr)) (pv 5) (pe_tup pa_nil) (nomark _))
      · refine pss_cons ?_ ?_
        · refine ps_set (i := 8) S.nd rfl (Or.inl rfl) ?_ rfl ?_
          · exact (pe_dget1 (hu_of hr) (pv 4) (pe_op op_addB (pe_slice sl_anyB (pv 5) po_none (po_some (pe_un un_neg pe_int))) (pe_tup (pa_cons (pe_op op_sub (pe_ix (ix_any' (hu_of hr)) (pv 5) (pe_un un_neg pe_int) (fun _ _ => rfl)) pe_int) pa_nil))) m1)
          · walk_at "or"
        refine pss_one ?_
        exact (ps_expr (pe_bm PySem.F.plainAttrs_list PySem.F.slot_list_append PySem.F.type_list_append mt_append (pv 2) (pa_cons (pe_tup (pa_cons (pe_call (ok__law_fault T) (hr.mono (by walk_at "le")) rfl T.f__law_fault.m T.f__law_fault.F.kp T.f__law_fault.b .nil pass0 (pa_cons (pv 0) (pa_cons (pv 6) (pa_cons (pv 7) (pa_cons (pv 8) pa_nil))))) (pa_cons (pv 5) pa_nil))) pa_nil)))
      · exact pss_nil
  refine pss_one ?_
  exact (ps_ret (pv 2))
theorem ok_places_in (T : Txt K mg t) : FnOk P w K mg base CX0 5 t.f_places_in.a t.f_places_in.d ["tree"] (sp_places_in K) := by
  refine T.f_places_in.F.ok sc_places_in (len_places_in K) (fun cdv A outer s H vs Q E hr h => ⟨R_places_in K, ?_, rd_places_in h⟩)
  have S := sc_places_in
  refine pss_one ?_
  refine ps_ret ?_
  exact (pe_comp rfl (comp_scope (osc := defScope s_places_in) (ON := ["tree"]) (N := ["place", "part"]) (fr := [none, none]) (by decide +kernel) rfl rfl) (pi_any (pe_call (ok_placed_parts T) (hr.mono (by walk_at "le")) rfl T.f_placed_parts.m T.f_placed_parts.F.kp T.f_placed_parts.b .nil pass0 (pa_cons (pv 0) pa_nil))) (fun _ _ _ _ _ _ => (pg_tup rfl (pgs_cons (pg_name (i := 0) (show List.Nodup (["place", "part"] : List Str) by decide +kernel) rfl (Or.inl rfl)) (pgs_cons (pg_name (i := 1) (show List.Nodup (["place", "part"] : List Str) by decide +kernel) rfl (Or.inl rfl)) pgs_nil)))) (tg_tup (tg_cons rfl (tg_cons rfl tg_nil))) (fun _ _ _ _ _ _ => pts_nil) (fun _ _ _ _ _ _ => (pv 0)))
theorem ok_follows_text (T : Txt K mg t) : FnOk P w K mg base CX0 5 t.f_follows_text.a t.f_follows_text.d ["tree", "place"] (sp_follows_text K) := by
  refine T.f_follows_text.F.ok sc_follows_text (len_follows_text K) (fun cdv A outer s H vs Q E hr h => ⟨R_follows_text K, ?_, rd_follows_text h⟩)
  have S := sc_follows_text
  refine pss_cons ?_ ?_
  · refine ps_set (i := 2) S.nd rfl (Or.inl rfl) ?_ rfl ?_
    · exact (pe_ix (ix_any' (hu_of hr)) (pv 1) (pe_un un_neg pe_int) (fun _ _ => rfl))
    · walk_at "or"
  refine pss_one ?_
  exact (ps_ret (pe_and (pe_cmpR op_gtA (pv 2) pe_int (nomark _)) (pe_one (pe_call (ok_is_text T) (hr.mono (by walk_at "le")) rfl T.f_is_text.m T.f_is_text.F.kp T.f_is_text.b .nil pass0 (pa_cons (pe_call (ok_part_at T) (hr.mono (by walk_at "le")) rfl T.f_part_at.m T.f_part_at.F.kp T.f_part_at.b .nil pass0 (pa_cons (pv 0) (pa_cons (pe_op op_addB (pe_slice sl_anyB (pv 1) po_none (po_some (pe_un un_neg pe_int))) (pe_tup (pa_cons (pe_op op_sub (pv 2) pe_int) pa_nil))) pa_nil))) pa_nil)))))
theorem ok_near_fault (T : Txt K mg t) : FnOk P w K mg base CX0 5 t.f_near_fault.a t.f_near_fault.d ["book", "names", "name"] (sp_near_fault K) := by
  refine T.f_near_fault.F.ok sc_near_fault (len_near_fault K) (fun cdv A outer s H vs Q E hr h => ⟨R_near_fault K, ?_, rd_near_fault h⟩)
  have S := sc_near_fault
  refine pss_cons ?_ ?_
  · refine ps_set (i := 3) S.nd rfl (Or.inl rfl) ?_ rfl ?_
    · exact (pe_call (ok_row_of T) (hr.mono (by walk_at "le")) rfl T.f_row_of.m T.f_row_of.F.kp T.f_row_of.b .nil pass0 (pa_cons (pv 0) (pa_cons (pv 2) pa_nil)))
    · walk_at "or"
  refine pss_cons ?_ ?_
  · refine ps_set (i := 4) S.nd rfl (Or.inl rfl) ?_ rfl ?_
    · exact (pe_call (ok_near_of T) (hr.mono (by walk_at "le")) rfl T.f_near_of.m T.f_near_of.F.kp T.f_near_of.b .nil pass0 (pa_cons (pv 0) (pa_cons (pv 1) pa_nil)))
    · walk_at "or"
  refine pss_cons ?_ ?_
  · refine ps_if ?_ ?_ ?_
    · exact (pt_val (pe_call (ok_share_a_name T) (hr.mono (by walk_at "le")) rfl T.f_share_a_name.m T.f_share_a_name.F.kp T.f_share_a_name.b .nil pass0 (pa_cons (pv 4) (pa_cons (pe_ix (ix_any' (hu_of hr)) (pv 3) (pe_glob rfl T.g_SHUTS.1 T.g_SHUTS.2) (fun _ _ => rfl)) pa_nil))))
    · refine pss_one ?_
      exact (ps_ret pe_str)
    · exact pss_nil
  refine pss_one ?_
  exact (ps_ret (pe_ifExp (pt_val (pe_call (ok_share_a_name T) (hr.mono (by walk_at "le")) rfl T.f_share_a_name.m T.f_share_a_name.F.kp T.f_share_a_name.b .nil pass0 (pa_cons (pv 4) (pa_cons (pe_ix (ix_any' (hu_of hr)) (pv 3) (pe_glob rfl T.g_BARS.1 T.g_BARS.2) (fun _ _ => rfl)) pa_nil)))) pe_str pe_non))
theorem ok__law_first (T : Txt K mg t) : FnOk P w K mg base CX0 5 t.f__law_first.a t.f__law_first.d ["_law_book_here", "_law_tree"] (sp__law_first K) := by
  refine T.f__law_first.F.ok sc__law_first (len__law_first K) (fun cdv A outer s H vs Q E hr h => ⟨R__law_first K, ?_, rd__law_first h⟩)
  have S := sc__law_first
  refine pss_cons ?_ ?_
  · refine ps_for PassesOwn.never rfl ?_ ?_ ?_
    · exact (pi_any (pe_call (ok__law_faults T) (hr.mono (by walk_at "le")) rfl T.f__law_faults.m T.f__law_faults.F.kp T.f__law_faults.b .nil pass0 (pa_cons (pv 0) (pa_cons (pv 1) pa_nil))))
    · exact (pg_tup rfl (pgs_cons (pg_name (i := 2) S.nd rfl (Or.inl rfl)) (pgs_cons (pg_name (i := 3) S.nd rfl (Or.inl rfl)) pgs_nil)))
    · refine pss_one ?_
      refine ps_if ?_ ?_ ?_
      · exact (pt_cmpR op_isnotA (pv 2) pe_non (nomark _))
      · refine pss_one ?_
        exact (ps_ret (pe_tup (pa_cons (pv 2) (pa_cons (pv 3) pa_nil))))
      · exact pss_nil
  refine pss_one ?_
  exact (ps_ret pe_non)
theorem ok_tree_fault (T : Txt K mg t) : FnOk P w K mg base CX0 6 t.f_tree_fault.a t.f_tree_fault.d ["book", "names", "tree"] (sp_tree_fault K) := by
  refine T.f_tree_fault.F.ok sc_tree_fault (len_tree_fault K) (fun cdv A outer s H vs Q E hr h => ⟨R_tree_fault K, ?_, rd_tree_fault h⟩)
  have S := sc_tree_fault
  refine pss_cons ?_ ?_
  · refine ps_set (i := 3) S.nd rfl (Or.inl rfl) ?_ rfl ?_
    · refine pe_call (ok_sort_of T) (hr.mono (by walk_at "le")) rfl T.f_sort_of.m T.f_sort_of.F.kp T.f_sort_of.b .nil pass0 ?_
      refine pa_cons ?_ ?_
      · exact (pv 0)
      refine pa_cons ?_ ?_
      · exact (pe_call (ok_name_of T) (hr.mono (by walk_at "le")) rfl T.f_name_of.m T.f_name_of.F.kp T.f_name_of.b .nil pass0 (pa_cons (pv 2) pa_nil))
      exact pa_nil
    · walk_at "or"
  refine pss_cons ?_ ?_
  · refine ps_if ?_ ?_ ?_
    · exact (pt_cmpR op_isA (pv 3) pe_non (nomark _))
    · refine pss_one ?_
      exact (ps_ret pe_str)
    · exact pss_nil
  refine pss_cons ?_ ?_
  · refine ps_if ?_ ?_ ?_
    · exact (PW.pt (pw_and (pt_cmpR (op_eqA (u190 hr)) (pv 3) pe_str (nomark _)) (pw_and1 (pt_cmpR op_gtA (pe_callB call_lenA rfl T.z_len boot_len (pa_cons (pe_call (ok_parts_of T) (hr.mono (by walk_at "le")) rfl T.f_parts_of.m T.f_parts_of.F.kp T.f_parts_of.b .nil pass0 (pa_cons (pv 2) pa_nil)) pa_nil)) pe_int (nomark _)))))
    · refine pss_one ?_
      exact (ps_ret pe_str)
    · exact pss_nil
  refine pss_cons ?_ ?_
  · refine ps_if ?_ ?_ ?_
    · exact (pt_cmpR op_gtA (pe_callB call_lenA rfl T.z_len boot_len (pa_cons (pv 1) pa_nil)) (pe_glob rfl T.g_MOST_ABOVE.1 T.g_MOST_ABOVE.2) (nomark _))
    · refine pss_one ?_
      exact (ps_ret pe_str)
    · exact pss_nil
  refine pss_one ?_
  refine ps_ret ?_
  exact (pe_orT (pe_call (ok_frame_fault T) (hr.mono (by walk_at "le")) rfl T.f_frame_fault.m T.f_frame_fault.F.kp T.f_frame_fault.b .nil pass0 (pa_cons (pv 0) (pa_cons (pv 1) (pa_cons (pe_call (ok_name_of T) (hr.mono (by walk_at "le")) rfl T.f_name_of.m T.f_name_of.F.kp T.f_name_of.b .nil pass0 (pa_cons (pv 2) pa_nil)) pa_nil)))) (pe_one (pe_call (ok_near_fault T) (hr.mono (by walk_at "le")) rfl T.f_near_fault.m T.f_near_fault.F.kp T.f_near_fault.b .nil pass0 (pa_cons (pv 0) (pa_cons (pv 1) (pa_cons (pe_call (ok_name_of T) (hr.mono (by walk_at "le")) rfl T.f_name_of.m T.f_name_of.F.kp T.f_name_of.b .nil pass0 (pa_cons (pv 2) pa_nil)) pa_nil))))))
theorem ok_fault_at (T : Txt K mg t) : FnOk P w K mg base CX0 7 t.f_fault_at.a t.f_fault_at.d ["book", "tree", "place"] (sp_fault_at K) := by
  refine T.f_fault_at.F.ok sc_fault_at (len_fault_at K) (fun cdv A outer s H vs Q E hr h => ⟨R_fault_at K, ?_, rd_fault_at h⟩)
  have S := sc_fault_at
  refine pss_cons ?_ ?_
  · refine ps_set (i := 3) S.nd rfl (Or.inl rfl) ?_ rfl ?_
    · exact (pe_call (ok_part_at T) (hr.mono (by walk_at "le")) rfl T.f_part_at.m T.f_part_at.F.kp T.f_part_at.b .nil pass0 (pa_cons (pv 1) (pa_cons (pv 2) pa_nil)))
    · walk_at "or"
  refine pss_cons ?_ ?_
  · refine ps_set (i := 4) S.nd rfl (Or.inl rfl) ?_ rfl ?_
    · exact (pe_call (ok_names_above T) (hr.mono (by walk_at "le")) rfl T.f_names_above.m T.f_names_above.F.kp T.f_names_above.b .nil pass0 (pa_cons (pv 1) (pa_cons (pv 2) pa_nil)))
    · walk_at "or"
  refine pss_cons ?_ ?_
  · refine ps_if ?_ ?_ ?_
    · exact (pt_val (pe_call (ok_is_text T) (hr.mono (by walk_at "le")) rfl T.f_is_text.m T.f_is_text.F.kp T.f_is_text.b .nil pass0 (pa_cons (pv 3) pa_nil)))
    · refine pss_one ?_
      exact (ps_ret (pe_call (ok_text_fault T) (hr.mono (by walk_at "le")) rfl T.f_text_fault.m T.f_text_fault.F.kp T.f_text_fault.b .nil pass0 (pa_cons (pv 0) (pa_cons (pv 4) (pa_cons (pv 3) (pa_cons (pe_call (ok_follows_text T) (hr.mono (by walk_at "le")) rfl T.f_follows_text.m T.f_follows_text.F.kp T.f_follows_text.b .nil pass0 (pa_cons (pv 1) (pa_cons (pv 2) pa_nil))) pa_nil))))))
    · exact pss_nil
  refine pss_one ?_
  exact (ps_ret (pe_call (ok_tree_fault T) (hr.mono (by walk_at "le")) rfl T.f_tree_fault.m T.f_tree_fault.F.kp T.f_tree_fault.b .nil pass0 (pa_cons (pv 0) (pa_cons (pv 4) (pa_cons (pv 3) pa_nil)))))
theorem ok_fault_of (T : Txt K mg t) : FnOk P w K mg base CX0 8 t.f_fault_of.a t.f_fault_of.d ["book", "tree"] (sp_fault_of K) := by
  refine T.f_fault_of.F.ok sc_fault_of (len_fault_of K) (fun cdv A outer s H vs Q E hr h => ⟨R_fault_of K, ?_, rd_fault_of h⟩)
  have S := sc_fault_of
  refine pss_cons ?_ ?_
  · refine ps_for PassesOwn.never rfl ?_ ?_ ?_
    · exact (pi_any (pe_call (ok_places_in T) (hr.mono (by walk_at "le")) rfl T.f_places_in.m T.f_places_in.F.kp T.f_places_in.b .nil pass0 (pa_cons (pv 1) pa_nil)))
    · exact (pg_name (i := 2) S.nd rfl (Or.inl rfl))
    · refine pss_cons ?_ ?_
      · refine ps_set (i := 3) S.nd rfl (Or.inl rfl) ?_ rfl ?_
        · exact (pe_ifExp (pt_cmpR (op_eqA (u190 hr)) (pv 2) (pe_tup pa_nil) (nomark _)) pe_non (pe_call (ok_fault_at T) (hr.mono (by walk_at "le")) rfl T.f_fault_at.m T.f_fault_at.F.kp T.f_fault_at.b .nil pass0 (pa_cons (pv 0) (pa_cons (pv 1) (pa_cons (pv 2) pa_nil)))))
        · walk_at "or"
      refine pss_one ?_
      refine ps_if ?_ ?_ ?_
      · exact (pt_cmpR op_isnotA (pv 3) pe_non (nomark _))
      · refine pss_one ?_
        exact (ps_ret (pe_tup (pa_cons (pv 3) (pa_cons (pv 2) pa_nil))))
      · exact pss_nil
  refine pss_one ?_
  exact (ps_ret pe_non)
theorem okn__law_grown (T : Txt K mg t) : ∀ n : Nat, FnOk P w K mg base CX0 (4 + n) t.f__law_grown.a t.f__law_grown.d ["_law_deck", "_law_book_here", "_law_names", "_law_deep"] (spn__law_grown n K)
  | 0 => by
    have FR : FnOk P w K mg base CX0 3 t.f__law_grown.a t.f__law_grown.d ["_law_deck", "_law_book_here", "_law_names", "_law_deep"] (prev__law_grown K 0) := ⟨fun _ _ _ _ h => h.elim, fun _ _ _ _ _ _ _ _ _ _ _ _ _ h => h.elim⟩
    refine T.f__law_grown.F.ok (k := 3) sc__law_grown (len__law_grown K 0) (fun cdv A outer s H vs Q E hr h => ⟨R__law_grown K (prev__law_grown K 0), ?_, rd__law_grown 0 h⟩)
    have S := sc__law_grown
    refine pss_cons ?_ ?_
    · refine ps_set (i := 4) S.nd rfl (Or.inl rfl) ?_ rfl ?_
      · exact (pe_lst pa_nil)
      · walk_at "or"
    refine pss_cons ?_ ?_
    · refine ps_set (i := 5) S.nd rfl (Or.inl rfl) ?_ rfl ?_
      · exact (pe_tup (pa_cons pe_str (pa_cons pe_str (pa_cons pe_str (pa_cons (pe_tup pa_nil) (pa_cons (pe_tup pa_nil) pa_nil))))))
      · walk_at "or"
    refine pss_cons ?_ ?_
    · refine ps_if ?_ ?_ ?_
      · exact (pt_cmpR (op_neA (u190 hr)) (pv 2) (pe_tup pa_nil) (nomark _))
      · refine pss_one ?_
        refine ps_set (i := 5) S.nd rfl (Or.inl rfl) ?_ rfl ?_
        · exact (pe_call (ok__law_row T) (hr.mono (by walk_at "le")) rfl T.f__law_row.m T.f__law_row.F.kp T.f__law_row.b .nil pass0 (pa_cons (pv 1) (pa_cons (pe_ix (ix_any' (hu_of hr)) (pv 2) (pe_un un_neg pe_int) (fun _ _ => rfl)) pa_nil)))
        · walk_at "or"
      · exact pss_nil
    refine pss_cons ?_ ?_
    · refine ps_for PassesOwn.never rfl ?_ ?_ ?_
      · exact (pi_range1 rfl T.z_range (pa_cons (pe_op op_addB (pe_call (ok__law_draw T) (hr.mono (by walk_at "le")) rfl T.f__law_draw.m T.f__law_draw.F.kp T.f__law_draw.b .nil pass0 (pa_cons (pv 0) (pa_cons pe_int pa_nil))) (pe_callTy call_intA rfl T.z_int boot_int (pa_cons (pe_cmpR (op_eqA (u190 hr)) (pv 2) (pe_tup pa_nil) (nomark _)) pa_nil))) pa_nil))
      · exact (pg_name (i := 6) S.nd rfl (Or.inl rfl))
      · refine pss_cons ?_ ?_
        · refine ps_set (i := 7) S.nd rfl (Or.inl rfl) ?_ rfl ?_
          · refine pe_ix ?_ ?_ ?_ ?_
            · exact ix_any' (hu_of hr)
            · exact (pv 1)
            · refine pe_call (ok__law_draw T) (hr.mono (by walk_at "le")) rfl T.f__law_draw.m T.f__law_draw.F.kp T.f__law_draw.b .nil pass0 ?_
              refine pa_cons ?_ ?_
              · exact (pv 0)
              refine pa_cons ?_ ?_
              · exact (pe_callB call_lenA rfl T.z_len boot_len (pa_cons (pv 1) pa_nil))
              exact pa_nil
            · exact fun _ _ => rfl
          · walk_at "or"
        refine pss_cons ?_ ?_
        · refine ps_if ?_ ?_ ?_
          · exact (pt_cmpR (op_eqA (u190 hr)) (pe_ix (ix_any' (hu_of hr)) (pv 5) pe_int (fun _ _ => rfl)) pe_str (nomark _))
          · refine pss_one ?_
            refine ps_set (i := 7) S.nd rfl (Or.inl rfl) ?_ rfl ?_
            · exact (pe_call (ok__law_row T) (hr.mono (by walk_at "le")) rfl T.f__law_row.m T.f__law_row.F.kp T.f__law_row.b .nil pass0 (pa_cons (pv 1) (pa_cons (pe_ix (ix_any' (hu_of hr)) (pv 5) pe_int (fun _ _ => rfl)) pa_nil)))
            · walk_at "or"
          · exact pss_nil
        refine pss_cons ?_ ?_
        · refine ps_if ?_ ?_ ?_
          · exact (PW.pt (pw_and (pt_cmpR (op_neA (u190 hr)) (pe_ix (ix_any' (hu_of hr)) (pv 5) pe_int (fun _ _ => rfl)) pe_str (nomark _)) (pw_and1 (pt_cmpR (op_eqA (u190 hr)) (pe_call (ok__law_draw T) (hr.mono (by walk_at "le")) rfl T.f__law_draw.m T.f__law_draw.F.kp T.f__law_draw.b .nil pass0 (pa_cons (pv 0) (pa_cons pe_int pa_nil))) pe_int (nomark _)))))
          · refine pss_one ?_
            refine ps_set (i := 8) S.nd rfl (Or.inl rfl) ?_ rfl ?_
            · exact (pe_call (ok__law_text T) (hr.mono (by walk_at "le")) rfl T.f__law_text.m T.f__law_text.F.kp T.f__law_text.b .nil pass0 (pa_cons (pv 0) pa_nil))
            · walk_at "or"
          · refine pss_cons ?_ ?_
            · refine ps_set (i := 9) S.nd rfl (Or.inl rfl) ?_ rfl ?_
              · exact (pe_tup pa_nil)
              · walk_at "or"
            refine pss_cons ?_ ?_
            · refine ps_if ?_ ?_ ?_
              · exact (PW.pt (pw_and (pt_cmpR (op_neA (u190 hr)) (pe_ix (ix_any' (hu_of hr)) (pv 7) pe_int (fun _ _ => rfl)) pe_str (nomark _)) (pw_and1 (pt_cmpR op_gtA (pv 3) pe_int (nomark _)))))
              · refine pss_one ?_
                refine ps_set (i := 9) S.nd rfl (Or.inl rfl) ?_ rfl ?_
                · exact (pe_call FR (hr.mono (by omega)) rfl T.f__law_grown.m T.f__law_grown.F.kp T.f__law_grown.b .nil pass0 (pa_cons (pv 0) (pa_cons (pv 1) (pa_cons (pe_op op_addB (pv 2) (pe_tup (pa_cons (pe_ix (ix_any' (hu_of hr)) (pv 7) pe_int (fun _ _ => rfl)) pa_nil))) (pa_cons (pe_op op_sub (pv 3) pe_int) pa_nil)))))
                · walk_at "or"
              · exact pss_nil
            refine pss_one ?_
            refine ps_set (i := 8) S.nd rfl (Or.inl rfl) ?_ rfl ?_
            · exact (pe_tup (pa_cons (pe_ix (ix_any' (hu_of hr)) (pv 7) pe_int (fun _ _ => rfl)) (pa_cons (pv 9) pa_nil)))
            · walk_at "or"
        refine pss_one ?_
        refine ps_if ?_ ?_ ?_
        · exact (pt_cmpR op_isA (pe_call (ok__law_fault T) (hr.mono (by walk_at "le")) rfl T.f__law_fault.m T.f__law_fault.F.kp T.f__law_fault.b .nil pass0 (pa_cons (pv 1) (pa_cons (pv 2) (pa_cons (pv 8) (pa_cons (pe_ix (ix_any' (hu_of hr)) (pe_op op_addB (pv 4) (pe_lst (pa_cons pe_non pa_nil))) (pe_op op_sub (pe_callB call_lenA rfl T.z_len boot_len (pa_cons (pv 4) pa_nil)) pe_int) (fun _ _ => rfl)) pa_nil))))) pe_non (nomark _))
        · refine pss_one ?_
          exact (ps_expr (pe_bm PySem.F.plainAttrs_list PySem.F.slot_list_append PySem.F.type_list_append mt_append (pv 4) (pa_cons (pv 8) pa_nil)))
        · exact pss_nil
    refine pss_one ?_
    exact (ps_ret (pe_callTy call_tupleA rfl T.z_tuple boot_tuple (pa_cons (pv 4) pa_nil)))
  | n + 1 => by
    have FR : FnOk P w K mg base CX0 (4 + n) t.f__law_grown.a t.f__law_grown.d ["_law_deck", "_law_book_here", "_law_names", "_law_deep"] (prev__law_grown K (n + 1)) := okn__law_grown T n
    refine T.f__law_grown.F.ok (k := (4 + n)) sc__law_grown (len__law_grown K (n + 1)) (fun cdv A outer s H vs Q E hr h => ⟨R__law_grown K (prev__law_grown K (n + 1)), ?_, rd__law_grown (n + 1) h⟩)
    have S := sc__law_grown
    refine pss_cons ?_ ?_
    · refine ps_set (i := 4) S.nd rfl (Or.inl rfl) ?_ rfl ?_
      · exact (pe_lst pa_nil)
      · walk_at "or"
    refine pss_cons ?_ ?_
    · refine ps_set (i := 5) S.nd rfl (Or.inl rfl) ?_ rfl ?_
      · exact (pe_tup (pa_cons pe_str (pa_cons pe_str (pa_cons pe_str (pa_cons (pe_tup pa_nil) (pa_cons (pe_tup pa_nil) pa_nil))))))
      · walk_at "or"
    refine pss_cons ?_ ?_
    · refine ps_if ?_ ?_ ?_
      · exact (pt_cmpR (op_neA (u190 hr)) (pv 2) (pe_tup pa_nil) (nomark _))
      · refine pss_one ?_
        refine ps_set (i := 5) S.nd rfl (Or.inl rfl) ?_ rfl ?_
        · exact (pe_call (ok__law_row T) (hr.mono (by walk_at "le")) rfl T.f__law_row.m T.f__law_row.F.kp T.f__law_row.b .nil pass0 (pa_cons (pv 1) (pa_cons (pe_ix (ix_any' (hu_of hr)) (pv 2) (pe_un un_neg pe_int) (fun _ _ => rfl)) pa_nil)))
        · walk_at "or"
      · exact pss_nil
    refine pss_cons ?_ ?_
    · refine ps_for PassesOwn.never rfl ?_ ?_ ?_
      · exact (pi_range1 rfl T.z_range (pa_cons (pe_op op_addB (pe_call (ok__law_draw T) (hr.mono (by walk_at "le")) rfl T.f__law_draw.m T.f__law_draw.F.kp T.f__law_draw.b .nil pass0 (pa_cons (pv 0) (pa_cons pe_int pa_nil))) (pe_callTy call_intA rfl T.z_int boot_int (pa_cons (pe_cmpR (op_eqA (u190 hr)) (pv 2) (pe_tup pa_nil) (nomark _)) pa_nil))) pa_nil))
      · exact (pg_name (i := 6) S.nd rfl (Or.inl rfl))
      · refine pss_cons ?_ ?_
        · refine ps_set (i := 7) S.nd rfl (Or.inl rfl) ?_ rfl ?_
          · refine pe_ix ?_ ?_ ?_ ?_
            · exact ix_any' (hu_of hr)
            · exact (pv 1)
            · refine pe_call (ok__law_draw T) (hr.mono (by walk_at "le")) rfl T.f__law_draw.m T.f__law_draw.F.kp T.f__law_draw.b .nil pass0 ?_
              refine pa_cons ?_ ?_
              · exact (pv 0)
              refine pa_cons ?_ ?_
              · exact (pe_callB call_lenA rfl T.z_len boot_len (pa_cons (pv 1) pa_nil))
              exact pa_nil
            · exact fun _ _ => rfl
          · walk_at "or"
        refine pss_cons ?_ ?_
        · refine ps_if ?_ ?_ ?_
          · exact (pt_cmpR (op_eqA (u190 hr)) (pe_ix (ix_any' (hu_of hr)) (pv 5) pe_int (fun _ _ => rfl)) pe_str (nomark _))
          · refine pss_one ?_
            refine ps_set (i := 7) S.nd rfl (Or.inl rfl) ?_ rfl ?_
            · exact (pe_call (ok__law_row T) (hr.mono (by walk_at "le")) rfl T.f__law_row.m T.f__law_row.F.kp T.f__law_row.b .nil pass0 (pa_cons (pv 1) (pa_cons (pe_ix (ix_any' (hu_of hr)) (pv 5) pe_int (fun _ _ => rfl)) pa_nil)))
            · walk_at "or"
          · exact pss_nil
        refine pss_cons ?_ ?_
        · refine ps_if ?_ ?_ ?_
          · exact (PW.pt (pw_and (pt_cmpR (op_neA (u190 hr)) (pe_ix (ix_any' (hu_of hr)) (pv 5) pe_int (fun _ _ => rfl)) pe_str (nomark _)) (pw_and1 (pt_cmpR (op_eqA (u190 hr)) (pe_call (ok__law_draw T) (hr.mono (by walk_at "le")) rfl T.f__law_draw.m T.f__law_draw.F.kp T.f__law_draw.b .nil pass0 (pa_cons (pv 0) (pa_cons pe_int pa_nil))) pe_int (nomark _)))))
          · refine pss_one ?_
            refine ps_set (i := 8) S.nd rfl (Or.inl rfl) ?_ rfl ?_
            · exact (pe_call (ok__law_text T) (hr.mono (by walk_at "le")) rfl T.f__law_text.m T.f__law_text.F.kp T.f__law_text.b .nil pass0 (pa_cons (pv 0) pa_nil))
            · walk_at "or"
          · refine pss_cons ?_ ?_
            · refine ps_set (i := 9) S.nd rfl (Or.inl rfl) ?_ rfl ?_
              · exact (pe_tup pa_nil)
              · walk_at "or"
            refine pss_cons ?_ ?_
            · refine ps_if ?_ ?_ ?_
              · exact (PW.pt (pw_and (pt_cmpR (op_neA (u190 hr)) (pe_ix (ix_any' (hu_of hr)) (pv 7) pe_int (fun _ _ => rfl)) pe_str (nomark _)) (pw_and1 (pt_cmpR op_gtA (pv 3) pe_int (nomark _)))))
              · refine pss_one ?_
                refine ps_set (i := 9) S.nd rfl (Or.inl rfl) ?_ rfl ?_
                · exact (pe_call FR (hr.mono (by omega)) rfl T.f__law_grown.m T.f__law_grown.F.kp T.f__law_grown.b .nil pass0 (pa_cons (pv 0) (pa_cons (pv 1) (pa_cons (pe_op op_addB (pv 2) (pe_tup (pa_cons (pe_ix (ix_any' (hu_of hr)) (pv 7) pe_int (fun _ _ => rfl)) pa_nil))) (pa_cons (pe_op op_sub (pv 3) pe_int) pa_nil)))))
                · walk_at "or"
              · exact pss_nil
            refine pss_one ?_
            refine ps_set (i := 8) S.nd rfl (Or.inl rfl) ?_ rfl ?_
            · exact (pe_tup (pa_cons (pe_ix (ix_any' (hu_of hr)) (pv 7) pe_int (fun _ _ => rfl)) (pa_cons (pv 9) pa_nil)))
            · walk_at "or"
        refine pss_one ?_
        refine ps_if ?_ ?_ ?_
        · exact (pt_cmpR op_isA (pe_call (ok__law_fault T) (hr.mono (by walk_at "le")) rfl T.f__law_fault.m T.f__law_fault.F.kp T.f__law_fault.b .nil pass0 (pa_cons (pv 1) (pa_cons (pv 2) (pa_cons (pv 8) (pa_cons (pe_ix (ix_any' (hu_of hr)) (pe_op op_addB (pv 4) (pe_lst (pa_cons pe_non pa_nil))) (pe_op op_sub (pe_callB call_lenA rfl T.z_len boot_len (pa_cons (pv 4) pa_nil)) pe_int) (fun _ _ => rfl)) pa_nil))))) pe_non (nomark _))
        · refine pss_one ?_
          exact (ps_expr (pe_bm PySem.F.plainAttrs_list PySem.F.slot_list_append PySem.F.type_list_append mt_append (pv 4) (pa_cons (pv 8) pa_nil)))
        · exact pss_nil
    refine pss_one ?_
    exact (ps_ret (pe_callTy call_tupleA rfl T.z_tuple boot_tuple (pa_cons (pv 4) pa_nil)))
theorem ok__law_grown (T : Txt K mg t) : FnOk P w K mg base CX0 10 t.f__law_grown.a t.f__law_grown.d ["_law_deck", "_law_book_here", "_law_names", "_law_deep"] (sp__law_grown K) := okn__law_grown T 6
theorem okn__law_put_parts (T : Txt K mg t) : ∀ n : Nat, FnOk P w K mg base CX0 (1 + n) t.f__law_put_parts.a t.f__law_put_parts.d ["_law_tree", "_law_place", "_law_parts"] (spn__law_put_parts n K)
  | 0 => by
    have FR : FnOk P w K mg base CX0 0 t.f__law_put_parts.a t.f__law_put_parts.d ["_law_tree", "_law_place", "_law_parts"] (prev__law_put_parts K 0) := ⟨fun _ _ _ _ h => h.elim, fun _ _ _ _ _ _ _ _ _ _ _ _ _ h => h.elim⟩
    refine T.f__law_put_parts.F.ok (k := 0) sc__law_put_parts (len__law_put_parts K 0) (fun cdv A outer s H vs Q E hr h => ⟨R__law_put_parts K (prev__law_put_parts K 0), ?_, rd__law_put_parts 0 h⟩)
    have S := sc__law_put_parts
    refine pss_cons ?_ ?_
    · refine ps_if ?_ ?_ ?_
      · exact (pt_cmpR (op_eqA (u190 hr)) (pv 1) (pe_tup pa_nil) (nomark _))
      · refine pss_one ?_
        exact (ps_ret (pe_tup (pa_cons (pe_ix (ix_any' (hu_of hr)) (pv 0) pe_int (fun _ _ => rfl)) (pa_cons (pv 2) pa_nil))))
      · exact pss_nil
    refine pss_cons ?_ ?_
    · refine ps_set (i := 3) S.nd rfl (Or.inl rfl) ?_ rfl ?_
      · exact (pe_ix (ix_any' (hu_of hr)) (pv 1) pe_int (fun _ _ => rfl))
      · walk_at "or"
    refine pss_cons ?_ ?_
    · refine ps_set (i := 4) S.nd rfl (Or.inl rfl) ?_ rfl ?_
      · exact (pe_call FR (hr.mono (by omega)) rfl T.f__law_put_parts.m T.f__law_put_parts.F.kp T.f__law_put_parts.b .nil pass0 (pa_cons (pe_ix (ix_any' (hu_of hr)) (pe_ix (ix_any' (hu_of hr)) (pv 0) pe_int (fun _ _ => rfl)) (pv 3) (fun _ _ => rfl)) (pa_cons (pe_slice sl_anyB (pv 1) (po_some pe_int) po_none) (pa_cons (pv 2) pa_nil))))
      · walk_at "or"
    refine pss_one ?_
    exact (ps_ret (pe_tup (pa_cons (pe_ix (ix_any' (hu_of hr)) (pv 0) pe_int (fun _ _ => rfl)) (pa_cons (pe_op op_addB (pe_op op_addB (pe_slice sl_anyB (pe_ix (ix_any' (hu_of hr)) (pv 0) pe_int (fun _ _ => rfl)) po_none (po_some (pv 3))) (pe_tup (pa_cons (pv 4) pa_nil))) (pe_slice sl_anyB (pe_ix (ix_any' (hu_of hr)) (pv 0) pe_int (fun _ _ => rfl)) (po_some (pe_op op_addB (pv 3) pe_int)) po_none)) pa_nil))))
  | n + 1 => by
    have FR : FnOk P w K mg base CX0 (1 + n) t.f__law_put_parts.a t.f__law_put_parts.d ["_law_tree", "_law_place", "_law_parts"] (prev__law_put_parts K (n + 1)) := okn__law_put_parts T n
    refine T.f__law_put_parts.F.ok (k := (1 + n)) sc__law_put_parts (len__law_put_parts K (n + 1)) (fun cdv A outer s H vs Q E hr h => ⟨R__law_put_parts K (prev__law_put_parts K (n + 1)), ?_, rd__law_put_parts (n + 1) h⟩)
    have S := sc__law_put_parts
    refine pss_cons ?_ ?_
    · refine ps_if ?_ ?_ ?_
      · exact (pt_cmpR (op_eqA (u190 hr)) (pv 1) (pe_tup pa_nil) (nomark _))
      · refine pss_one ?_
        exact (ps_ret (pe_tup (pa_cons (pe_ix (ix_any' (hu_of hr)) (pv 0) pe_int (fun _ _ => rfl)) (pa_cons (pv 2) pa_nil))))
      · exact pss_nil
    refine pss_cons ?_ ?_
    · refine ps_set (i := 3) S.nd rfl (Or.inl rfl) ?_ rfl ?_
      · exact (pe_ix (ix_any' (hu_of hr)) (pv 1) pe_int (fun _ _ => rfl))
      · walk_at "or"
    refine pss_cons ?_ ?_
    · refine ps_set (i := 4) S.nd rfl (Or.inl rfl) ?_ rfl ?_
      · exact (pe_call FR (hr.mono (by omega)) rfl T.f__law_put_parts.m T.f__law_put_parts.F.kp T.f__law_put_parts.b .nil pass0 (pa_cons (pe_ix (ix_any' (hu_of hr)) (pe_ix (ix_any' (hu_of hr)) (pv 0) pe_int (fun _ _ => rfl)) (pv 3) (fun _ _ => rfl)) (pa_cons (pe_slice sl_anyB (pv 1) (po_some pe_int) po_none) (pa_cons (pv 2) pa_nil))))
      · walk_at "or"
    refine pss_one ?_
    exact (ps_ret (pe_tup (pa_cons (pe_ix (ix_any' (hu_of hr)) (pv 0) pe_int (fun _ _ => rfl)) (pa_cons (pe_op op_addB (pe_op op_addB (pe_slice sl_anyB (pe_ix (ix_any' (hu_of hr)) (pv 0) pe_int (fun _ _ => rfl)) po_none (po_some (pv 3))) (pe_tup (pa_cons (pv 4) pa_nil))) (pe_slice sl_anyB (pe_ix (ix_any' (hu_of hr)) (pv 0) pe_int (fun _ _ => rfl)) (po_some (pe_op op_addB (pv 3) pe_int)) po_none)) pa_nil))))
theorem ok__law_put_parts (T : Txt K mg t) : FnOk P w K mg base CX0 13 t.f__law_put_parts.a t.f__law_put_parts.d ["_law_tree", "_law_place", "_law_parts"] (sp__law_put_parts K) := okn__law_put_parts T 12
theorem ok__law_bent (T : Txt K mg t) : FnOk P w K mg base CX0 14 t.f__law_bent.a t.f__law_bent.d ["_law_deck", "_law_code", "_law_tree"] (sp__law_bent K) := by
  refine T.f__law_bent.F.ok sc__law_bent (len__law_bent K) (fun cdv A outer s H vs Q E hr h => ⟨R__law_bent K, ?_, rd__law_bent h⟩)
  have S := sc__law_bent
  refine pss_cons ?_ ?_
  · exact (ps_setC (i := 3) S.nd rfl rfl rfl (comp_scope (osc := defScope s__law_bent) (ON := ["_law_deck", "_law_code", "_law_tree", "_law_walked", "_law_place", "_law_names", "_law_part", "_law_parts", "_law_k", "_law_way"]) (N := ["_law_one"]) (fr := [none]) (by decide +kernel) rfl rfl) (pi_any (pe_call (ok__law_walk T) (hr.mono (by walk_at "le")) rfl T.f__law_walk.m T.f__law_walk.F.kp T.f__law_walk.b .nil pass0 (pa_cons (pv 2) pa_nil))) (fun _ _ _ _ _ _ => (pg_name (i := 0) (show List.Nodup (["_law_one"] : List Str) by decide +kernel) rfl (Or.inl rfl))) tg_name (fun _ _ _ _ _ _ => (pts_one (pt_not (pt_val (pe_callB call_isinstanceA rfl T.z_isinstance boot_isinstance (pa_cons (pe_ix (ix_any' (hu_of hr)) (pv 0) pe_int (fun _ _ => rfl)) (pa_cons (pe_bltn rfl T.z_str boot_str rfl) pa_nil))))))) (fun _ _ _ _ _ _ => (pv 0)))
  refine pss_cons ?_ ?_
  · exact (ps_asg (pe_ix (ix_any' (hu_of hr)) (pv 3) (pe_call (ok__law_draw T) (hr.mono (by walk_at "le")) rfl T.f__law_draw.m T.f__law_draw.F.kp T.f__law_draw.b .nil pass0 (pa_cons (pv 0) (pa_cons (pe_callB call_lenA rfl T.z_len boot_len (pa_cons (pv 3) pa_nil)) pa_nil))) (fun _ _ => rfl)) (pg_tup rfl (pgs_cons (pg_name (i := 4) S.nd rfl (Or.inl rfl)) (pgs_cons (pg_name (i := 5) S.nd rfl (Or.inl rfl)) (pgs_cons (pg_name (i := 6) S.nd rfl (Or.inl rfl)) pgs_nil)))))
  refine pss_cons ?_ ?_
  · refine ps_set (i := 7) S.nd rfl (Or.inl rfl) ?_ rfl ?_
    · exact (pe_ix (ix_any' (hu_of hr)) (pv 6) pe_int (fun _ _ => rfl))
    · walk_at "or"
  refine pss_cons ?_ ?_
  · refine ps_set (i := 8) S.nd rfl (Or.inl rfl) ?_ rfl ?_
    · exact (pe_call (ok__law_draw T) (hr.mono (by walk_at "le")) rfl T.f__law_draw.m T.f__law_draw.F.kp T.f__law_draw.b .nil pass0 (pa_cons (pv 0) (pa_cons (pe_op op_addB (pe_callB call_lenA rfl T.z_len boot_len (pa_cons (pv 7) pa_nil)) pe_int) pa_nil)))
    · walk_at "or"
  refine pss_cons ?_ ?_
  · refine ps_set (i := 9) S.nd rfl (Or.inl rfl) ?_ rfl ?_
    · exact (pe_call (ok__law_draw T) (hr.mono (by walk_at "le")) rfl T.f__law_draw.m T.f__law_draw.F.kp T.f__law_draw.b .nil pass0 (pa_cons (pv 0) (pa_cons pe_int pa_nil)))
    · walk_at "or"
  refine pss_cons ?_ ?_
  · refine ps_if ?_ ?_ ?_
    · exact (pt_cmpR (op_eqA (u190 hr)) (pv 9) pe_int (nomark _))
    · refine pss_one ?_
      exact (ps_ret (pe_call (ok__law_put_parts T) (hr.mono (by walk_at "le")) rfl T.f__law_put_parts.m T.f__law_put_parts.F.kp T.f__law_put_parts.b .nil pass0 (pa_cons (pv 2) (pa_cons (pv 4) (pa_cons (pe_op op_addB (pe_op op_addB (pe_slice sl_anyB (pv 7) po_none (po_some (pv 8))) (pe_tup (pa_cons pe_str pa_nil))) (pe_slice sl_anyB (pv 7) (po_some (pv 8)) po_none)) pa_nil)))))
    · exact pss_nil
  refine pss_cons ?_ ?_
  · refine ps_if ?_ ?_ ?_
    · exact (pt_cmpR (op_eqA (u190 hr)) (pv 9) pe_int (nomark _))
    · refine pss_one ?_
      refine ps_ret ?_
      refine pe_call (ok__law_put_parts T) (hr.mono (by walk_at "le")) rfl T.f__law_put_parts.m T.f__law_put_parts.F.kp T.f__law_put_parts.b .nil pass0 ?_
      refine pa_cons ?_ ?_
      · exact (pv 2)
      refine pa_cons ?_ ?_
      · exact (pv 4)
      refine pa_cons ?_ ?_
      · refine pe_op op_addB ?_ ?_
        · refine pe_op op_addB ?_ ?_
          · exact (pe_slice sl_anyB (pv 7) po_none (po_some (pv 8)))
          · exact (pe_tup (pa_cons (pe_call (ok__law_text T) (hr.mono (by walk_at "le")) rfl T.f__law_text.m T.f__law_text.F.kp T.f__law_text.b .nil pass0 (pa_cons (pv 0) pa_nil)) pa_nil))
        · exact (pe_slice sl_anyB (pv 7) (po_some (pv 8)) po_none)
      exact pa_nil
    · exact pss_nil
  refine pss_cons ?_ ?_
  · refine ps_if ?_ ?_ ?_
    · exact (pt_cmpR (op_eqA (u190 hr)) (pv 9) pe_int (nomark _))
    · refine pss_one ?_
      exact (ps_ret (pe_call (ok__law_put_parts T) (hr.mono (by walk_at "le")) rfl T.f__law_put_parts.m T.f__law_put_parts.F.kp T.f__law_put_parts.b .nil pass0 (pa_cons (pv 2) (pa_cons (pv 4) (pa_cons (pe_op op_addB (pe_op op_addB (pe_slice sl_anyB (pv 7) po_none (po_some (pv 8))) (pe_slice sl_anyB (pv 7) (po_some (pv 8)) (po_some (pe_op op_addB (pv 8) pe_int)))) (pe_slice sl_anyB (pv 7) (po_some (pv 8)) po_none)) pa_nil)))))
    · exact pss_nil
  refine pss_cons ?_ ?_
  · refine ps_if ?_ ?_ ?_
    · exact (pt_cmpR (op_eqA (u190 hr)) (pv 9) pe_int (nomark _))
    · refine pss_one ?_
      refine ps_ret ?_
      refine pe_call (ok__law_put_parts T) (hr.mono (by walk_at "le")) rfl T.f__law_put_parts.m T.f__law_put_parts.F.kp T.f__law_put_parts.b .nil pass0 ?_
      refine pa_cons ?_ ?_
      · exact (pv 2)
      refine pa_cons ?_ ?_
      · exact (pv 4)
      refine pa_cons ?_ ?_
      · refine pe_op op_addB ?_ ?_
        · refine pe_tup ?_
          refine pa_cons ?_ ?_
          · refine pe_tup ?_
            refine pa_cons ?_ ?_
            · refine pe_call (ok__law_name T) (hr.mono (by walk_at "le")) rfl T.f__law_name.m T.f__law_name.F.kp T.f__law_name.b .nil pass0 ?_
              refine pa_cons ?_ ?_
              · exact (pv 1)
              refine pa_cons ?_ ?_
              · exact (pe_call (ok__law_draw T) (hr.mono (by walk_at "le")) rfl T.f__law_draw.m T.f__law_draw.F.kp T.f__law_draw.b .nil pass0 (pa_cons (pv 0) (pa_cons pe_int pa_nil)))
              exact pa_nil
            refine pa_cons ?_ ?_
            · exact (pe_slice sl_anyB (pv 7) po_none (po_some (pv 8)))
            exact pa_nil
          exact pa_nil
        · exact (pe_slice sl_anyB (pv 7) (po_some (pv 8)) po_none)
      exact pa_nil
    · exact pss_nil
  refine pss_cons ?_ ?_
  · refine ps_if ?_ ?_ ?_
    · exact (pt_cmpR (op_eqA (u190 hr)) (pv 9) pe_int (nomark _))
    · refine pss_one ?_
      refine ps_ret ?_
      refine pe_call (ok__law_put_parts T) (hr.mono (by walk_at "le")) rfl T.f__law_put_parts.m T.f__law_put_parts.F.kp T.f__law_put_parts.b .nil pass0 ?_
      refine pa_cons ?_ ?_
      · exact (pv 2)
      refine pa_cons ?_ ?_
      · exact (pv 4)
      refine pa_cons ?_ ?_
      · refine pe_op op_addB ?_ ?_
        · refine pe_op op_addB ?_ ?_
          · exact (pe_slice sl_anyB (pv 7) po_none (po_some (pv 8)))
          · refine pe_tup ?_
            refine pa_cons ?_ ?_
            · refine pe_tup ?_
              refine pa_cons ?_ ?_
              · refine pe_call (ok__law_name T) (hr.mono (by walk_at "le")) rfl T.f__law_name.m T.f__law_name.F.kp T.f__law_name.b .nil pass0 ?_
                refine pa_cons ?_ ?_
                · exact (pv 1)
                refine pa_cons ?_ ?_
                · exact (pe_call (ok__law_draw T) (hr.mono (by walk_at "le")) rfl T.f__law_draw.m T.f__law_draw.F.kp T.f__law_draw.b .nil pass0 (pa_cons (pv 0) (pa_cons pe_int pa_nil)))
                exact pa_nil
              refine pa_cons ?_ ?_
              · exact (pe_tup pa_nil)
              exact pa_nil
            exact pa_nil
        · exact (pe_slice sl_anyB (pv 7) (po_some (pv 8)) po_none)
      exact pa_nil
    · exact pss_nil
  refine pss_one ?_
  exact (ps_ret (pe_call (ok__law_put_parts T) (hr.mono (by walk_at "le")) rfl T.f__law_put_parts.m T.f__law_put_parts.F.kp T.f__law_put_parts.b .nil pass0 (pa_cons (pv 2) (pa_cons (pv 4) (pa_cons (pe_op op_addB (pe_slice sl_anyB (pv 7) (po_some (pv 8)) po_none) (pe_slice sl_anyB (pv 7) po_none (po_some (pv 8)))) pa_nil)))))
theorem ok_law (T : Txt K mg t) : FnOk P w K mg base CX0 15 t.f_law.a t.f_law.d ["_law_script"] (sp_law K) := by
  refine T.f_law.F.ok sc_law (len_law K) (fun cdv A outer s H vs Q E hr h => ⟨R_law K, ?_, rd_law h⟩)
  have S := sc_law
  refine pss_cons ?_ ?_
  · refine ps_set (i := 1) S.nd rfl (Or.inl rfl) ?_ rfl ?_
    · exact (pe_call (ok__law_numbers T) (hr.mono (by walk_at "le")) rfl T.f__law_numbers.m T.f__law_numbers.F.kp T.f__law_numbers.b .nil pass0 (pa_cons (pv 0) (pa_cons pe_int pa_nil)))
    · walk_at "or"
  refine pss_cons ?_ ?_
  · refine ps_set (i := 2) S.nd rfl (Or.inl rfl) ?_ rfl ?_
    · exact (pe_call (ok__law_draw T) (hr.mono (by walk_at "le")) rfl T.f__law_draw.m T.f__law_draw.F.kp T.f__law_draw.b .nil pass0 (pa_cons (pv 1) (pa_cons (pe_op op_pow pe_int pe_int) pa_nil)))
    · walk_at "or"
  refine pss_cons ?_ ?_
  · refine ps_set (i := 3) S.nd rfl (Or.inl rfl) ?_ rfl ?_
    · exact (pe_call (ok__law_book T) (hr.mono (by walk_at "le")) rfl T.f__law_book.m T.f__law_book.F.kp T.f__law_book.b .nil pass0 (pa_cons (pv 1) (pa_cons (pv 2) (pa_cons pe_int pa_nil))))
    · walk_at "or"
  refine pss_cons ?_ ?_
  · refine ps_set (i := 4) S.nd rfl (Or.inl rfl) ?_ rfl ?_
    · refine pe_tup ?_
      refine pa_cons ?_ ?_
      · exact pe_str
      refine pa_cons ?_ ?_
      · refine pe_call (ok__law_grown T) (hr.mono (by walk_at "le")) rfl T.f__law_grown.m T.f__law_grown.F.kp T.f__law_grown.b .nil pass0 ?_
        refine pa_cons ?_ ?_
        · exact (pv 1)
        refine pa_cons ?_ ?_
        · exact (pv 3)
        refine pa_cons ?_ ?_
        · exact (pe_tup pa_nil)
        refine pa_cons ?_ ?_
        · exact pe_int
        exact pa_nil
      exact pa_nil
    · walk_at "or"
  refine pss_cons ?_ ?_
  · refine ps_if ?_ ?_ ?_
    · exact (pt_cmpR op_isnotA (pe_call (ok_fault_of T) (hr.mono (by walk_at "le")) rfl T.f_fault_of.m T.f_fault_of.F.kp T.f_fault_of.b .nil pass0 (pa_cons (pv 3) (pa_cons (pv 4) pa_nil))) pe_non (nomark _))
    · refine pss_one ?_
      exact (ps_ret pe_bl)
    · exact pss_nil
  refine pss_cons ?_ ?_
  · refine ps_for PassesOwn.never rfl ?_ ?_ ?_
    · exact (pi_range1 rfl T.z_range (pa_cons (pe_call (ok__law_draw T) (hr.mono (by walk_at "le")) rfl T.f__law_draw.m T.f__law_draw.F.kp T.f__law_draw.b .nil pass0 (pa_cons (pv 1) (pa_cons pe_int pa_nil))) pa_nil))
    · exact (pg_name (i := 5) S.nd rfl (Or.inl rfl))
    · refine pss_one ?_
      refine ps_set (i := 4) S.nd rfl (Or.inl rfl) ?_ rfl ?_
      · exact (pe_call (ok__law_bent T) (hr.mono (by walk_at "le")) rfl T.f__law_bent.m T.f__law_bent.F.kp T.f__law_bent.b .nil pass0 (pa_cons (pv 1) (pa_cons (pv 2) (pa_cons (pv 4) pa_nil))))
      · walk_at "or"
  refine pss_cons ?_ ?_
  · refine ps_set (i := 6) S.nd rfl (Or.inl rfl) ?_ rfl ?_
    · exact (pe_call (ok__law_first T) (hr.mono (by walk_at "le")) rfl T.f__law_first.m T.f__law_first.F.kp T.f__law_first.b .nil pass0 (pa_cons (pv 3) (pa_cons (pv 4) pa_nil)))
    · walk_at "or"
  refine pss_cons ?_ ?_
  · refine ps_set (i := 7) S.nd rfl (Or.inl rfl) ?_ rfl ?_
    · exact (pe_call (ok_fault_of T) (hr.mono (by walk_at "le")) rfl T.f_fault_of.m T.f_fault_of.F.kp T.f_fault_of.b .nil pass0 (pa_cons (pv 3) (pa_cons (pv 4) pa_nil)))
    · walk_at "or"
  refine pss_cons ?_ ?_
  · refine ps_if ?_ ?_ ?_
    · exact (pt_cmpR op_isA (pv 6) pe_non (nomark _))
    · refine pss_one ?_
      exact (ps_ret (pe_cmpR op_isA (pv 7) pe_non (nomark _)))
    · exact pss_nil
  refine pss_cons ?_ ?_
  · refine ps_if ?_ ?_ ?_
    · exact (PW.pt (pw_or (pt_not (pt_val (pe_callB call_isinstanceA rfl T.z_isinstance boot_isinstance (pa_cons (pv 7) (pa_cons (pe_bltn rfl T.z_tuple boot_tuple rfl) pa_nil))))) (pw_or (pt_cmpR (op_neA (u190 hr)) (pe_callB call_lenA rfl T.z_len boot_len (pa_cons (pv 7) pa_nil)) pe_int (nomark _)) (pw_or (pt_not (pt_val (pe_callB call_isinstanceA rfl T.z_isinstance boot_isinstance (pa_cons (pe_ix (ix_any' (hu_of hr)) (pv 7) pe_int (fun _ _ => rfl)) (pa_cons (pe_bltn rfl T.z_str boot_str rfl) pa_nil))))) (pw_or1 (pt_not (pt_val (pe_callB call_isinstanceA rfl T.z_isinstance boot_isinstance (pa_cons (pe_ix (ix_any' (hu_of hr)) (pv 7) pe_int (fun _ _ => rfl)) (pa_cons (pe_bltn rfl T.z_tuple boot_tuple rfl) pa_nil))))))))))
    · refine pss_one ?_
      exact (ps_ret pe_bl)
    · exact pss_nil
  refine pss_one ?_
  refine ps_ret ?_
  exact (pe_and (pe_cmpR (op_eqA (u190 hr)) (pv 7) (pv 6) (nomark _)) (pe_one (pe_cmpR (op_notinB (hu_of hr)) pe_bl (pe_comp rfl (comp_scope (osc := defScope s_law) (ON := ["_law_script", "_law_deck", "_law_code", "_law_book_here", "_law_tree", "_law_k", "_law_due", "_law_told"]) (N := ["_law_step"]) (fr := [none]) (by decide +kernel) rfl rfl) (pi_any (pe_ix (ix_any' (hu_of hr)) (pv 7) pe_int (fun _ _ => rfl))) (fun _ _ _ _ _ _ => (pg_name (i := 0) (show List.Nodup (["_law_step"] : List Str) by decide +kernel) rfl (Or.inl rfl))) tg_name (fun _ _ _ _ _ _ => pts_nil) (fun _ _ _ _ _ _ => (pe_call (ok__law_whole T) (hr.mono (by walk_at "le")) rfl T.f__law_whole.m T.f__law_whole.F.kp T.f__law_whole.b .nil pass0 (pa_cons (pv 0) pa_nil)))) (by with_unfolding_all rfl))))
end
theorem ln1 {us : List Value} (h : us.length = 1) : ∃ x0, us = [x0] := by
  match us, h with
  | [x0], _ => exact ⟨x0, rfl⟩
theorem ln2 {us : List Value} (h : us.length = 2) : ∃ x0 x1, us = [x0, x1] := by
  match us, h with
  | [x0, x1], _ => exact ⟨x0, x1, rfl⟩
theorem ln3 {us : List Value} (h : us.length = 3) : ∃ x0 x1 x2, us = [x0, x1, x2] := by
  match us, h with
  | [x0, x1, x2], _ => exact ⟨x0, x1, x2, rfl⟩
theorem ln4 {us : List Value} (h : us.length = 4) : ∃ x0 x1 x2 x3, us = [x0, x1, x2, x3] := by
  match us, h with
  | [x0, x1, x2, x3], _ => exact ⟨x0, x1, x2, x3, rfl⟩
theorem all_mk {l : PySem.W.OpenLaw} {w : World} {K : PySem.W.Frag} {h : Heap} {mg : Str → Option Value} {fa f0 f1 f2 f3 f4 f5 f6 f7 f8 f9 f10 f11 f12 f13 f14 f15 f16 f17 f18 f19 f20 f21 f22 f23 f24 f25 f26 f27 f28 f29 f30 f31 f32 f33 f34 f35 f36 f37 f38 f39 f40 f41 : Addr} (X : K.In h) (G : h.Ns mainGlobals mg) (hfa : mg "law" = some (.ref fa))
    {od0 an0 od1 an1 od2 an2 od3 an3 od4 an4 od5 an5 od6 an6 od7 an7 od8 an8 od9 an9 od10 an10 od11 an11 od12 an12 od13 an13 od14 an14 od15 an15 od16 an16 od17 an17 od18 an18 od19 an19 od20 an20 od21 an21 od22 an22 od23 an23 od24 an24 od25 an25 od26 an26 od27 an27 od28 an28 od29 an29 od30 an30 od31 an31 od32 an32 od33 an33 od34 an34 od35 an35 od36 an36 od37 an37 od38 an38 od39 an39 od40 an40 od41 an41 : Option Addr} {sl0 sl1 sl2 sl3 sl4 sl5 sl6 sl7 sl8 sl9 sl10 sl11 sl12 sl13 sl14 sl15 sl16 sl17 sl18 sl19 sl20 sl21 sl22 sl23 sl24 sl25 sl26 sl27 sl28 sl29 sl30 sl31 sl32 sl33 sl34 sl35 sl36 sl37 sl38 sl39 sl40 sl41 : Array (Option Value)} {oc0 kV0 dc0 pm0 cd0 ct0 oc1 kV1 dc1 pm1 cd1 ct1 oc2 kV2 dc2 pm2 cd2 ct2 oc3 kV3 dc3 pm3 cd3 ct3 oc4 kV4 dc4 pm4 cd4 ct4 oc5 kV5 dc5 pm5 cd5 ct5 oc6 kV6 dc6 pm6 cd6 ct6 oc7 kV7 dc7 pm7 cd7 ct7 oc8 kV8 dc8 pm8 cd8 ct8 oc9 kV9 dc9 pm9 cd9 ct9 oc10 kV10 dc10 pm10 cd10 ct10 oc11 kV11 dc11 pm11 cd11 ct11 oc12 kV12 dc12 pm12 cd12 ct12 oc13 kV13 dc13 pm13 cd13 ct13 oc14 kV14 dc14 pm14 cd14 ct14 oc15 kV15 dc15 pm15 cd15 ct15 oc16 kV16 dc16 pm16 cd16 ct16 oc17 kV17 dc17 pm17 cd17 ct17 oc18 kV18 dc18 pm18 cd18 ct18 oc19 kV19 dc19 pm19 cd19 ct19 oc20 kV20 dc20 pm20 cd20 ct20 oc21 kV21 dc21 pm21 cd21 ct21 oc22 kV22 dc22 pm22 cd22 ct22 oc23 kV23 dc23 pm23 cd23 ct23 oc24 kV24 dc24 pm24 cd24 ct24 oc25 kV25 dc25 pm25 cd25 ct25 oc26 kV26 dc26 pm26 cd26 ct26 oc27 kV27 dc27 pm27 cd27 ct27 oc28 kV28 dc28 pm28 cd28 ct28 oc29 kV29 dc29 pm29 cd29 ct29 oc30 kV30 dc30 pm30 cd30 ct30 oc31 kV31 dc31 pm31 cd31 ct31 oc32 kV32 dc32 pm32 cd32 ct32 oc33 kV33 dc33 pm33 cd33 ct33 oc34 kV34 dc34 pm34 cd34 ct34 oc35 kV35 dc35 pm35 cd35 ct35 oc36 kV36 dc36 pm36 cd36 ct36 oc37 kV37 dc37 pm37 cd37 ct37 oc38 kV38 dc38 pm38 cd38 ct38 oc39 kV39 dc39 pm39 cd39 ct39 oc40 kV40 dc40 pm40 cd40 ct40 oc41 kV41 dc41 pm41 cd41 ct41 : Value}
    {k_NAME k_SORT k_HOST k_SHUTS k_BARS k_ROOT_NAME k_MOST_ABOVE : Tok}
    {c_WALL_SORTS : Addr} {d_WALL_SORTS : Option Addr} {n_WALL_SORTS : Nat} {sl_WALL_SORTS : Array (Option Value)} {k_WALL_SORTS_0 k_WALL_SORTS_1 : Tok}
    (a0 : PySem.W.nsIn K mainGlobals "row_of" = some (some (.ref f0))) (l0 : K.lookup f0 = some ⟨oc0, od0, .func (PySem.W.fnOf "row_of" "row_of" (defArgs s_row_of) (defBody s_row_of) (defScope s_row_of) .none kV0 dc0 pm0 an0 cd0 ct0), sl0⟩) (c0 : PySem.W.codeIn K cd0 "row_of" = true) (k0 : PySem.W.keepIn K (.ref f0) = true)
    (a1 : PySem.W.nsIn K mainGlobals "sort_of" = some (some (.ref f1))) (l1 : K.lookup f1 = some ⟨oc1, od1, .func (PySem.W.fnOf "sort_of" "sort_of" (defArgs s_sort_of) (defBody s_sort_of) (defScope s_sort_of) .none kV1 dc1 pm1 an1 cd1 ct1), sl1⟩) (c1 : PySem.W.codeIn K cd1 "sort_of" = true) (k1 : PySem.W.keepIn K (.ref f1) = true)
    (a2 : PySem.W.nsIn K mainGlobals "is_wall" = some (some (.ref f2))) (l2 : K.lookup f2 = some ⟨oc2, od2, .func (PySem.W.fnOf "is_wall" "is_wall" (defArgs s_is_wall) (defBody s_is_wall) (defScope s_is_wall) .none kV2 dc2 pm2 an2 cd2 ct2), sl2⟩) (c2 : PySem.W.codeIn K cd2 "is_wall" = true) (k2 : PySem.W.keepIn K (.ref f2) = true)
    (a3 : PySem.W.nsIn K mainGlobals "host_of" = some (some (.ref f3))) (l3 : K.lookup f3 = some ⟨oc3, od3, .func (PySem.W.fnOf "host_of" "host_of" (defArgs s_host_of) (defBody s_host_of) (defScope s_host_of) .none kV3 dc3 pm3 an3 cd3 ct3), sl3⟩) (c3 : PySem.W.codeIn K cd3 "host_of" = true) (k3 : PySem.W.keepIn K (.ref f3) = true)
    (a4 : PySem.W.nsIn K mainGlobals "frame_of" = some (some (.ref f4))) (l4 : K.lookup f4 = some ⟨oc4, od4, .func (PySem.W.fnOf "frame_of" "frame_of" (defArgs s_frame_of) (defBody s_frame_of) (defScope s_frame_of) .none kV4 dc4 pm4 an4 cd4 ct4), sl4⟩) (c4 : PySem.W.codeIn K cd4 "frame_of" = true) (k4 : PySem.W.keepIn K (.ref f4) = true)
    (a5 : PySem.W.nsIn K mainGlobals "is_text" = some (some (.ref f5))) (l5 : K.lookup f5 = some ⟨oc5, od5, .func (PySem.W.fnOf "is_text" "is_text" (defArgs s_is_text) (defBody s_is_text) (defScope s_is_text) .none kV5 dc5 pm5 an5 cd5 ct5), sl5⟩) (c5 : PySem.W.codeIn K cd5 "is_text" = true) (k5 : PySem.W.keepIn K (.ref f5) = true)
    (a6 : PySem.W.nsIn K mainGlobals "name_of" = some (some (.ref f6))) (l6 : K.lookup f6 = some ⟨oc6, od6, .func (PySem.W.fnOf "name_of" "name_of" (defArgs s_name_of) (defBody s_name_of) (defScope s_name_of) .none kV6 dc6 pm6 an6 cd6 ct6), sl6⟩) (c6 : PySem.W.codeIn K cd6 "name_of" = true) (k6 : PySem.W.keepIn K (.ref f6) = true)
    (a7 : PySem.W.nsIn K mainGlobals "parts_of" = some (some (.ref f7))) (l7 : K.lookup f7 = some ⟨oc7, od7, .func (PySem.W.fnOf "parts_of" "parts_of" (defArgs s_parts_of) (defBody s_parts_of) (defScope s_parts_of) .none kV7 dc7 pm7 an7 cd7 ct7), sl7⟩) (c7 : PySem.W.codeIn K cd7 "parts_of" = true) (k7 : PySem.W.keepIn K (.ref f7) = true)
    (a8 : PySem.W.nsIn K mainGlobals "part_at" = some (some (.ref f8))) (l8 : K.lookup f8 = some ⟨oc8, od8, .func (PySem.W.fnOf "part_at" "part_at" (defArgs s_part_at) (defBody s_part_at) (defScope s_part_at) .none kV8 dc8 pm8 an8 cd8 ct8), sl8⟩) (c8 : PySem.W.codeIn K cd8 "part_at" = true) (k8 : PySem.W.keepIn K (.ref f8) = true)
    (a9 : PySem.W.nsIn K mainGlobals "names_above" = some (some (.ref f9))) (l9 : K.lookup f9 = some ⟨oc9, od9, .func (PySem.W.fnOf "names_above" "names_above" (defArgs s_names_above) (defBody s_names_above) (defScope s_names_above) .none kV9 dc9 pm9 an9 cd9 ct9), sl9⟩) (c9 : PySem.W.codeIn K cd9 "names_above" = true) (k9 : PySem.W.keepIn K (.ref f9) = true)
    (a10 : PySem.W.nsIn K mainGlobals "way_to" = some (some (.ref f10))) (l10 : K.lookup f10 = some ⟨oc10, od10, .func (PySem.W.fnOf "way_to" "way_to" (defArgs s_way_to) (defBody s_way_to) (defScope s_way_to) .none kV10 dc10 pm10 an10 cd10 ct10), sl10⟩) (c10 : PySem.W.codeIn K cd10 "way_to" = true) (k10 : PySem.W.keepIn K (.ref f10) = true)
    (a11 : PySem.W.nsIn K mainGlobals "places_in" = some (some (.ref f11))) (l11 : K.lookup f11 = some ⟨oc11, od11, .func (PySem.W.fnOf "places_in" "places_in" (defArgs s_places_in) (defBody s_places_in) (defScope s_places_in) .none kV11 dc11 pm11 an11 cd11 ct11), sl11⟩) (c11 : PySem.W.codeIn K cd11 "places_in" = true) (k11 : PySem.W.keepIn K (.ref f11) = true)
    (a12 : PySem.W.nsIn K mainGlobals "placed_parts" = some (some (.ref f12))) (l12 : K.lookup f12 = some ⟨oc12, od12, .func (PySem.W.fnOf "placed_parts" "placed_parts" (defArgs s_placed_parts) (defBody s_placed_parts) (defScope s_placed_parts) .none kV12 dc12 pm12 an12 cd12 ct12), sl12⟩) (c12 : PySem.W.codeIn K cd12 "placed_parts" = true) (k12 : PySem.W.keepIn K (.ref f12) = true)
    (a13 : PySem.W.nsIn K mainGlobals "steps_below" = some (some (.ref f13))) (l13 : K.lookup f13 = some ⟨oc13, od13, .func (PySem.W.fnOf "steps_below" "steps_below" (defArgs s_steps_below) (defBody s_steps_below) (defScope s_steps_below) .none kV13 dc13 pm13 an13 cd13 ct13), sl13⟩) (c13 : PySem.W.codeIn K cd13 "steps_below" = true) (k13 : PySem.W.keepIn K (.ref f13) = true)
    (a14 : PySem.W.nsIn K mainGlobals "straight_above" = some (some (.ref f14))) (l14 : K.lookup f14 = some ⟨oc14, od14, .func (PySem.W.fnOf "straight_above" "straight_above" (defArgs s_straight_above) (defBody s_straight_above) (defScope s_straight_above) .none kV14 dc14 pm14 an14 cd14 ct14), sl14⟩) (c14 : PySem.W.codeIn K cd14 "straight_above" = true) (k14 : PySem.W.keepIn K (.ref f14) = true)
    (a15 : PySem.W.nsIn K mainGlobals "near_of" = some (some (.ref f15))) (l15 : K.lookup f15 = some ⟨oc15, od15, .func (PySem.W.fnOf "near_of" "near_of" (defArgs s_near_of) (defBody s_near_of) (defScope s_near_of) .none kV15 dc15 pm15 an15 cd15 ct15), sl15⟩) (c15 : PySem.W.codeIn K cd15 "near_of" = true) (k15 : PySem.W.keepIn K (.ref f15) = true)
    (a16 : PySem.W.nsIn K mainGlobals "fault_of" = some (some (.ref f16))) (l16 : K.lookup f16 = some ⟨oc16, od16, .func (PySem.W.fnOf "fault_of" "fault_of" (defArgs s_fault_of) (defBody s_fault_of) (defScope s_fault_of) .none kV16 dc16 pm16 an16 cd16 ct16), sl16⟩) (c16 : PySem.W.codeIn K cd16 "fault_of" = true) (k16 : PySem.W.keepIn K (.ref f16) = true)
    (a17 : PySem.W.nsIn K mainGlobals "fault_at" = some (some (.ref f17))) (l17 : K.lookup f17 = some ⟨oc17, od17, .func (PySem.W.fnOf "fault_at" "fault_at" (defArgs s_fault_at) (defBody s_fault_at) (defScope s_fault_at) .none kV17 dc17 pm17 an17 cd17 ct17), sl17⟩) (c17 : PySem.W.codeIn K cd17 "fault_at" = true) (k17 : PySem.W.keepIn K (.ref f17) = true)
    (a18 : PySem.W.nsIn K mainGlobals "follows_text" = some (some (.ref f18))) (l18 : K.lookup f18 = some ⟨oc18, od18, .func (PySem.W.fnOf "follows_text" "follows_text" (defArgs s_follows_text) (defBody s_follows_text) (defScope s_follows_text) .none kV18 dc18 pm18 an18 cd18 ct18), sl18⟩) (c18 : PySem.W.codeIn K cd18 "follows_text" = true) (k18 : PySem.W.keepIn K (.ref f18) = true)
    (a19 : PySem.W.nsIn K mainGlobals "text_fault" = some (some (.ref f19))) (l19 : K.lookup f19 = some ⟨oc19, od19, .func (PySem.W.fnOf "text_fault" "text_fault" (defArgs s_text_fault) (defBody s_text_fault) (defScope s_text_fault) .none kV19 dc19 pm19 an19 cd19 ct19), sl19⟩) (c19 : PySem.W.codeIn K cd19 "text_fault" = true) (k19 : PySem.W.keepIn K (.ref f19) = true)
    (a20 : PySem.W.nsIn K mainGlobals "tree_fault" = some (some (.ref f20))) (l20 : K.lookup f20 = some ⟨oc20, od20, .func (PySem.W.fnOf "tree_fault" "tree_fault" (defArgs s_tree_fault) (defBody s_tree_fault) (defScope s_tree_fault) .none kV20 dc20 pm20 an20 cd20 ct20), sl20⟩) (c20 : PySem.W.codeIn K cd20 "tree_fault" = true) (k20 : PySem.W.keepIn K (.ref f20) = true)
    (a21 : PySem.W.nsIn K mainGlobals "frame_fault" = some (some (.ref f21))) (l21 : K.lookup f21 = some ⟨oc21, od21, .func (PySem.W.fnOf "frame_fault" "frame_fault" (defArgs s_frame_fault) (defBody s_frame_fault) (defScope s_frame_fault) .none kV21 dc21 pm21 an21 cd21 ct21), sl21⟩) (c21 : PySem.W.codeIn K cd21 "frame_fault" = true) (k21 : PySem.W.keepIn K (.ref f21) = true)
    (a22 : PySem.W.nsIn K mainGlobals "near_fault" = some (some (.ref f22))) (l22 : K.lookup f22 = some ⟨oc22, od22, .func (PySem.W.fnOf "near_fault" "near_fault" (defArgs s_near_fault) (defBody s_near_fault) (defScope s_near_fault) .none kV22 dc22 pm22 an22 cd22 ct22), sl22⟩) (c22 : PySem.W.codeIn K cd22 "near_fault" = true) (k22 : PySem.W.keepIn K (.ref f22) = true)
    (a23 : PySem.W.nsIn K mainGlobals "share_a_name" = some (some (.ref f23))) (l23 : K.lookup f23 = some ⟨oc23, od23, .func (PySem.W.fnOf "share_a_name" "share_a_name" (defArgs s_share_a_name) (defBody s_share_a_name) (defScope s_share_a_name) .none kV23 dc23 pm23 an23 cd23 ct23), sl23⟩) (c23 : PySem.W.codeIn K cd23 "share_a_name" = true) (k23 : PySem.W.keepIn K (.ref f23) = true)
    (a24 : PySem.W.nsIn K mainGlobals "_law_numbers" = some (some (.ref f24))) (l24 : K.lookup f24 = some ⟨oc24, od24, .func (PySem.W.fnOf "_law_numbers" "_law_numbers" (defArgs s__law_numbers) (defBody s__law_numbers) (defScope s__law_numbers) .none kV24 dc24 pm24 an24 cd24 ct24), sl24⟩) (c24 : PySem.W.codeIn K cd24 "_law_numbers" = true) (k24 : PySem.W.keepIn K (.ref f24) = true)
    (a25 : PySem.W.nsIn K mainGlobals "_law_draw" = some (some (.ref f25))) (l25 : K.lookup f25 = some ⟨oc25, od25, .func (PySem.W.fnOf "_law_draw" "_law_draw" (defArgs s__law_draw) (defBody s__law_draw) (defScope s__law_draw) .none kV25 dc25 pm25 an25 cd25 ct25), sl25⟩) (c25 : PySem.W.codeIn K cd25 "_law_draw" = true) (k25 : PySem.W.keepIn K (.ref f25) = true)
    (a26 : PySem.W.nsIn K mainGlobals "_law_name" = some (some (.ref f26))) (l26 : K.lookup f26 = some ⟨oc26, od26, .func (PySem.W.fnOf "_law_name" "_law_name" (defArgs s__law_name) (defBody s__law_name) (defScope s__law_name) .none kV26 dc26 pm26 an26 cd26 ct26), sl26⟩) (c26 : PySem.W.codeIn K cd26 "_law_name" = true) (k26 : PySem.W.keepIn K (.ref f26) = true)
    (a27 : PySem.W.nsIn K mainGlobals "_law_sorts" = some (some (.ref f27))) (l27 : K.lookup f27 = some ⟨oc27, od27, .func (PySem.W.fnOf "_law_sorts" "_law_sorts" (defArgs s__law_sorts) (defBody s__law_sorts) (defScope s__law_sorts) .none kV27 dc27 pm27 an27 cd27 ct27), sl27⟩) (c27 : PySem.W.codeIn K cd27 "_law_sorts" = true) (k27 : PySem.W.keepIn K (.ref f27) = true)
    (a28 : PySem.W.nsIn K mainGlobals "_law_some" = some (some (.ref f28))) (l28 : K.lookup f28 = some ⟨oc28, od28, .func (PySem.W.fnOf "_law_some" "_law_some" (defArgs s__law_some) (defBody s__law_some) (defScope s__law_some) .none kV28 dc28 pm28 an28 cd28 ct28), sl28⟩) (c28 : PySem.W.codeIn K cd28 "_law_some" = true) (k28 : PySem.W.keepIn K (.ref f28) = true)
    (a29 : PySem.W.nsIn K mainGlobals "_law_book" = some (some (.ref f29))) (l29 : K.lookup f29 = some ⟨oc29, od29, .func (PySem.W.fnOf "_law_book" "_law_book" (defArgs s__law_book) (defBody s__law_book) (defScope s__law_book) .none kV29 dc29 pm29 an29 cd29 ct29), sl29⟩) (c29 : PySem.W.codeIn K cd29 "_law_book" = true) (k29 : PySem.W.keepIn K (.ref f29) = true)
    (a30 : PySem.W.nsIn K mainGlobals "_law_text" = some (some (.ref f30))) (l30 : K.lookup f30 = some ⟨oc30, od30, .func (PySem.W.fnOf "_law_text" "_law_text" (defArgs s__law_text) (defBody s__law_text) (defScope s__law_text) .none kV30 dc30 pm30 an30 cd30 ct30), sl30⟩) (c30 : PySem.W.codeIn K cd30 "_law_text" = true) (k30 : PySem.W.keepIn K (.ref f30) = true)
    (a31 : PySem.W.nsIn K mainGlobals "_law_walk" = some (some (.ref f31))) (l31 : K.lookup f31 = some ⟨oc31, od31, .func (PySem.W.fnOf "_law_walk" "_law_walk" (defArgs s__law_walk) (defBody s__law_walk) (defScope s__law_walk) .none kV31 dc31 pm31 an31 cd31 ct31), sl31⟩) (c31 : PySem.W.codeIn K cd31 "_law_walk" = true) (k31 : PySem.W.keepIn K (.ref f31) = true)
    (a32 : PySem.W.nsIn K mainGlobals "_law_row" = some (some (.ref f32))) (l32 : K.lookup f32 = some ⟨oc32, od32, .func (PySem.W.fnOf "_law_row" "_law_row" (defArgs s__law_row) (defBody s__law_row) (defScope s__law_row) .none kV32 dc32 pm32 an32 cd32 ct32), sl32⟩) (c32 : PySem.W.codeIn K cd32 "_law_row" = true) (k32 : PySem.W.keepIn K (.ref f32) = true)
    (a33 : PySem.W.nsIn K mainGlobals "_law_near" = some (some (.ref f33))) (l33 : K.lookup f33 = some ⟨oc33, od33, .func (PySem.W.fnOf "_law_near" "_law_near" (defArgs s__law_near) (defBody s__law_near) (defScope s__law_near) .none kV33 dc33 pm33 an33 cd33 ct33), sl33⟩) (c33 : PySem.W.codeIn K cd33 "_law_near" = true) (k33 : PySem.W.keepIn K (.ref f33) = true)
    (a34 : PySem.W.nsIn K mainGlobals "_law_fault" = some (some (.ref f34))) (l34 : K.lookup f34 = some ⟨oc34, od34, .func (PySem.W.fnOf "_law_fault" "_law_fault" (defArgs s__law_fault) (defBody s__law_fault) (defScope s__law_fault) .none kV34 dc34 pm34 an34 cd34 ct34), sl34⟩) (c34 : PySem.W.codeIn K cd34 "_law_fault" = true) (k34 : PySem.W.keepIn K (.ref f34) = true)
    (a35 : PySem.W.nsIn K mainGlobals "_law_faults" = some (some (.ref f35))) (l35 : K.lookup f35 = some ⟨oc35, od35, .func (PySem.W.fnOf "_law_faults" "_law_faults" (defArgs s__law_faults) (defBody s__law_faults) (defScope s__law_faults) .none kV35 dc35 pm35 an35 cd35 ct35), sl35⟩) (c35 : PySem.W.codeIn K cd35 "_law_faults" = true) (k35 : PySem.W.keepIn K (.ref f35) = true)
    (a36 : PySem.W.nsIn K mainGlobals "_law_grown" = some (some (.ref f36))) (l36 : K.lookup f36 = some ⟨oc36, od36, .func (PySem.W.fnOf "_law_grown" "_law_grown" (defArgs s__law_grown) (defBody s__law_grown) (defScope s__law_grown) .none kV36 dc36 pm36 an36 cd36 ct36), sl36⟩) (c36 : PySem.W.codeIn K cd36 "_law_grown" = true) (k36 : PySem.W.keepIn K (.ref f36) = true)
    (a37 : PySem.W.nsIn K mainGlobals "_law_put_parts" = some (some (.ref f37))) (l37 : K.lookup f37 = some ⟨oc37, od37, .func (PySem.W.fnOf "_law_put_parts" "_law_put_parts" (defArgs s__law_put_parts) (defBody s__law_put_parts) (defScope s__law_put_parts) .none kV37 dc37 pm37 an37 cd37 ct37), sl37⟩) (c37 : PySem.W.codeIn K cd37 "_law_put_parts" = true) (k37 : PySem.W.keepIn K (.ref f37) = true)
    (a38 : PySem.W.nsIn K mainGlobals "_law_first" = some (some (.ref f38))) (l38 : K.lookup f38 = some ⟨oc38, od38, .func (PySem.W.fnOf "_law_first" "_law_first" (defArgs s__law_first) (defBody s__law_first) (defScope s__law_first) .none kV38 dc38 pm38 an38 cd38 ct38), sl38⟩) (c38 : PySem.W.codeIn K cd38 "_law_first" = true) (k38 : PySem.W.keepIn K (.ref f38) = true)
    (a39 : PySem.W.nsIn K mainGlobals "_law_whole" = some (some (.ref f39))) (l39 : K.lookup f39 = some ⟨oc39, od39, .func (PySem.W.fnOf "_law_whole" "_law_whole" (defArgs s__law_whole) (defBody s__law_whole) (defScope s__law_whole) .none kV39 dc39 pm39 an39 cd39 ct39), sl39⟩) (c39 : PySem.W.codeIn K cd39 "_law_whole" = true) (k39 : PySem.W.keepIn K (.ref f39) = true)
    (a40 : PySem.W.nsIn K mainGlobals "_law_bent" = some (some (.ref f40))) (l40 : K.lookup f40 = some ⟨oc40, od40, .func (PySem.W.fnOf "_law_bent" "_law_bent" (defArgs s__law_bent) (defBody s__law_bent) (defScope s__law_bent) .none kV40 dc40 pm40 an40 cd40 ct40), sl40⟩) (c40 : PySem.W.codeIn K cd40 "_law_bent" = true) (k40 : PySem.W.keepIn K (.ref f40) = true)
    (a41 : PySem.W.nsIn K mainGlobals "law" = some (some (.ref f41))) (l41 : K.lookup f41 = some ⟨oc41, od41, .func (PySem.W.fnOf "law" "law" (defArgs s_law) (defBody s_law) (defScope s_law) .none kV41 dc41 pm41 an41 cd41 ct41), sl41⟩) (c41 : PySem.W.codeIn K cd41 "law" = true) (k41 : PySem.W.keepIn K (.ref f41) = true)
    (uNAME : PySem.W.nsIn K mainGlobals "NAME" = some (some (.int 0 k_NAME)))
    (uSORT : PySem.W.nsIn K mainGlobals "SORT" = some (some (.int 1 k_SORT)))
    (uHOST : PySem.W.nsIn K mainGlobals "HOST" = some (some (.int 2 k_HOST)))
    (uSHUTS : PySem.W.nsIn K mainGlobals "SHUTS" = some (some (.int 3 k_SHUTS)))
    (uBARS : PySem.W.nsIn K mainGlobals "BARS" = some (some (.int 4 k_BARS)))
    (uROOT_NAME : PySem.W.nsIn K mainGlobals "ROOT_NAME" = some (some (.str ("" : Str) k_ROOT_NAME)))
    (uMOST_ABOVE : PySem.W.nsIn K mainGlobals "MOST_ABOVE" = some (some (.int 19 k_MOST_ABOVE)))
    (uWALL_SORTS : PySem.W.nsIn K mainGlobals "WALL_SORTS" = some (some (.ref c_WALL_SORTS))) (wWALL_SORTS : K.lookup c_WALL_SORTS = some ⟨.type "tuple", d_WALL_SORTS, .seq #[.str ("room" : Str) k_WALL_SORTS_0, .str ("frame" : Str) k_WALL_SORTS_1] n_WALL_SORTS, sl_WALL_SORTS⟩)
    (zany : PySem.W.nsIn K mainGlobals "any" = some none) (zbool : PySem.W.nsIn K mainGlobals "bool" = some none) (zenumerate : PySem.W.nsIn K mainGlobals "enumerate" = some none) (zint : PySem.W.nsIn K mainGlobals "int" = some none) (zisinstance : PySem.W.nsIn K mainGlobals "isinstance" = some none) (zlen : PySem.W.nsIn K mainGlobals "len" = some none) (zlist : PySem.W.nsIn K mainGlobals "list" = some none) (zrange : PySem.W.nsIn K mainGlobals "range" = some none) (zsorted : PySem.W.nsIn K mainGlobals "sorted" = some none) (zstr : PySem.W.nsIn K mainGlobals "str" = some none) (zsum : PySem.W.nsIn K mainGlobals "sum" = some none) (ztuple : PySem.W.nsIn K mainGlobals "tuple" = some none) :
    ∃ fd : FuncData, (∀ (s : Shared) (v : Value), BindsTo s fd ⟨[v], []⟩ [("_law_script", v)]) ∧ ∀ base : Heap, K.In base → base.Ns mainGlobals mg → FnOk l.prog w K mg base CX0 15 fa fd ["_law_script"] (sp_law K) := by
  have e := hfa.symm.trans (PySem.W.mg_of X G a41)
  have e : f41 = fa := by cases e; rfl
  subst e
  have F0 := fun_mk (st := s_row_of) l0 c0 k0
  have b0 := F0.binds (ps := ["rows", "name"]) fun _ _ _ _ _ _ us hl => by obtain ⟨_, _, rfl⟩ := ln2 hl; rfl
  have F1 := fun_mk (st := s_sort_of) l1 c1 k1
  have b1 := F1.binds (ps := ["book", "name"]) fun _ _ _ _ _ _ us hl => by obtain ⟨_, _, rfl⟩ := ln2 hl; rfl
  have F2 := fun_mk (st := s_is_wall) l2 c2 k2
  have b2 := F2.binds (ps := ["book", "name"]) fun _ _ _ _ _ _ us hl => by obtain ⟨_, _, rfl⟩ := ln2 hl; rfl
  have F3 := fun_mk (st := s_host_of) l3 c3 k3
  have b3 := F3.binds (ps := ["book", "name"]) fun _ _ _ _ _ _ us hl => by obtain ⟨_, _, rfl⟩ := ln2 hl; rfl
  have F4 := fun_mk (st := s_frame_of) l4 c4 k4
  have b4 := F4.binds (ps := ["book", "name"]) fun _ _ _ _ _ _ us hl => by obtain ⟨_, _, rfl⟩ := ln2 hl; rfl
  have F5 := fun_mk (st := s_is_text) l5 c5 k5
  have b5 := F5.binds (ps := ["part"]) fun _ _ _ _ _ _ us hl => by obtain ⟨_, rfl⟩ := ln1 hl; rfl
  have F6 := fun_mk (st := s_name_of) l6 c6 k6
  have b6 := F6.binds (ps := ["tree"]) fun _ _ _ _ _ _ us hl => by obtain ⟨_, rfl⟩ := ln1 hl; rfl
  have F7 := fun_mk (st := s_parts_of) l7 c7 k7
  have b7 := F7.binds (ps := ["part"]) fun _ _ _ _ _ _ us hl => by obtain ⟨_, rfl⟩ := ln1 hl; rfl
  have F8 := fun_mk (st := s_part_at) l8 c8 k8
  have b8 := F8.binds (ps := ["tree", "place"]) fun _ _ _ _ _ _ us hl => by obtain ⟨_, _, rfl⟩ := ln2 hl; rfl
  have F9 := fun_mk (st := s_names_above) l9 c9 k9
  have b9 := F9.binds (ps := ["tree", "place"]) fun _ _ _ _ _ _ us hl => by obtain ⟨_, _, rfl⟩ := ln2 hl; rfl
  have F10 := fun_mk (st := s_way_to) l10 c10 k10
  have b10 := F10.binds (ps := ["tree", "place"]) fun _ _ _ _ _ _ us hl => by obtain ⟨_, _, rfl⟩ := ln2 hl; rfl
  have F11 := fun_mk (st := s_places_in) l11 c11 k11
  have b11 := F11.binds (ps := ["tree"]) fun _ _ _ _ _ _ us hl => by obtain ⟨_, rfl⟩ := ln1 hl; rfl
  have F12 := fun_mk (st := s_placed_parts) l12 c12 k12
  have b12 := F12.binds (ps := ["tree"]) fun _ _ _ _ _ _ us hl => by obtain ⟨_, rfl⟩ := ln1 hl; rfl
  have F13 := fun_mk (st := s_steps_below) l13 c13 k13
  have b13 := F13.binds (ps := ["place", "part"]) fun _ _ _ _ _ _ us hl => by obtain ⟨_, _, rfl⟩ := ln2 hl; rfl
  have F14 := fun_mk (st := s_straight_above) l14 c14 k14
  have b14 := F14.binds (ps := ["names"]) fun _ _ _ _ _ _ us hl => by obtain ⟨_, rfl⟩ := ln1 hl; rfl
  have F15 := fun_mk (st := s_near_of) l15 c15 k15
  have b15 := F15.binds (ps := ["book", "names"]) fun _ _ _ _ _ _ us hl => by obtain ⟨_, _, rfl⟩ := ln2 hl; rfl
  have F16 := fun_mk (st := s_fault_of) l16 c16 k16
  have b16 := F16.binds (ps := ["book", "tree"]) fun _ _ _ _ _ _ us hl => by obtain ⟨_, _, rfl⟩ := ln2 hl; rfl
  have F17 := fun_mk (st := s_fault_at) l17 c17 k17
  have b17 := F17.binds (ps := ["book", "tree", "place"]) fun _ _ _ _ _ _ us hl => by obtain ⟨_, _, _, rfl⟩ := ln3 hl; rfl
  have F18 := fun_mk (st := s_follows_text) l18 c18 k18
  have b18 := F18.binds (ps := ["tree", "place"]) fun _ _ _ _ _ _ us hl => by obtain ⟨_, _, rfl⟩ := ln2 hl; rfl
  have F19 := fun_mk (st := s_text_fault) l19 c19 k19
  have b19 := F19.binds (ps := ["book", "names", "text", "beside"]) fun _ _ _ _ _ _ us hl => by obtain ⟨_, _, _, _, rfl⟩ := ln4 hl; rfl
  have F20 := fun_mk (st := s_tree_fault) l20 c20 k20
  have b20 := F20.binds (ps := ["book", "names", "tree"]) fun _ _ _ _ _ _ us hl => by obtain ⟨_, _, _, rfl⟩ := ln3 hl; rfl
  have F21 := fun_mk (st := s_frame_fault) l21 c21 k21
  have b21 := F21.binds (ps := ["book", "names", "name"]) fun _ _ _ _ _ _ us hl => by obtain ⟨_, _, _, rfl⟩ := ln3 hl; rfl
  have F22 := fun_mk (st := s_near_fault) l22 c22 k22
  have b22 := F22.binds (ps := ["book", "names", "name"]) fun _ _ _ _ _ _ us hl => by obtain ⟨_, _, _, rfl⟩ := ln3 hl; rfl
  have F23 := fun_mk (st := s_share_a_name) l23 c23 k23
  have b23 := F23.binds (ps := ["names", "others"]) fun _ _ _ _ _ _ us hl => by obtain ⟨_, _, rfl⟩ := ln2 hl; rfl
  have F24 := fun_mk (st := s__law_numbers) l24 c24 k24
  have b24 := F24.binds (ps := ["_law_script", "_law_most"]) fun _ _ _ _ _ _ us hl => by obtain ⟨_, _, rfl⟩ := ln2 hl; rfl
  have F25 := fun_mk (st := s__law_draw) l25 c25 k25
  have b25 := F25.binds (ps := ["_law_deck", "_law_most"]) fun _ _ _ _ _ _ us hl => by obtain ⟨_, _, rfl⟩ := ln2 hl; rfl
  have F26 := fun_mk (st := s__law_name) l26 c26 k26
  have b26 := F26.binds (ps := ["_law_code", "_law_k"]) fun _ _ _ _ _ _ us hl => by obtain ⟨_, _, rfl⟩ := ln2 hl; rfl
  have F27 := fun_mk (st := s__law_sorts) l27 c27 k27
  have b27 := F27.binds (ps := ["_law_deck", "_law_count"]) fun _ _ _ _ _ _ us hl => by obtain ⟨_, _, rfl⟩ := ln2 hl; rfl
  have F28 := fun_mk (st := s__law_some) l28 c28 k28
  have b28 := F28.binds (ps := ["_law_deck", "_law_names"]) fun _ _ _ _ _ _ us hl => by obtain ⟨_, _, rfl⟩ := ln2 hl; rfl
  have F29 := fun_mk (st := s__law_book) l29 c29 k29
  have b29 := F29.binds (ps := ["_law_deck", "_law_code", "_law_most"]) fun _ _ _ _ _ _ us hl => by obtain ⟨_, _, _, rfl⟩ := ln3 hl; rfl
  have F30 := fun_mk (st := s__law_text) l30 c30 k30
  have b30 := F30.binds (ps := ["_law_deck"]) fun _ _ _ _ _ _ us hl => by obtain ⟨_, rfl⟩ := ln1 hl; rfl
  have F31 := fun_mk (st := s__law_walk) l31 c31 k31
  have b31 := F31.binds (ps := ["_law_tree"]) fun _ _ _ _ _ _ us hl => by obtain ⟨_, rfl⟩ := ln1 hl; rfl
  have F32 := fun_mk (st := s__law_row) l32 c32 k32
  have b32 := F32.binds (ps := ["_law_book_here", "_law_name_here"]) fun _ _ _ _ _ _ us hl => by obtain ⟨_, _, rfl⟩ := ln2 hl; rfl
  have F33 := fun_mk (st := s__law_near) l33 c33 k33
  have b33 := F33.binds (ps := ["_law_book_here", "_law_names"]) fun _ _ _ _ _ _ us hl => by obtain ⟨_, _, rfl⟩ := ln2 hl; rfl
  have F34 := fun_mk (st := s__law_fault) l34 c34 k34
  have b34 := F34.binds (ps := ["_law_book_here", "_law_names", "_law_part", "_law_ahead"]) fun _ _ _ _ _ _ us hl => by obtain ⟨_, _, _, _, rfl⟩ := ln4 hl; rfl
  have F35 := fun_mk (st := s__law_faults) l35 c35 k35
  have b35 := F35.binds (ps := ["_law_book_here", "_law_tree"]) fun _ _ _ _ _ _ us hl => by obtain ⟨_, _, rfl⟩ := ln2 hl; rfl
  have F36 := fun_mk (st := s__law_grown) l36 c36 k36
  have b36 := F36.binds (ps := ["_law_deck", "_law_book_here", "_law_names", "_law_deep"]) fun _ _ _ _ _ _ us hl => by obtain ⟨_, _, _, _, rfl⟩ := ln4 hl; rfl
  have F37 := fun_mk (st := s__law_put_parts) l37 c37 k37
  have b37 := F37.binds (ps := ["_law_tree", "_law_place", "_law_parts"]) fun _ _ _ _ _ _ us hl => by obtain ⟨_, _, _, rfl⟩ := ln3 hl; rfl
  have F38 := fun_mk (st := s__law_first) l38 c38 k38
  have b38 := F38.binds (ps := ["_law_book_here", "_law_tree"]) fun _ _ _ _ _ _ us hl => by obtain ⟨_, _, rfl⟩ := ln2 hl; rfl
  have F39 := fun_mk (st := s__law_whole) l39 c39 k39
  have b39 := F39.binds (ps := ["_law_found"]) fun _ _ _ _ _ _ us hl => by obtain ⟨_, rfl⟩ := ln1 hl; rfl
  have F40 := fun_mk (st := s__law_bent) l40 c40 k40
  have b40 := F40.binds (ps := ["_law_deck", "_law_code", "_law_tree"]) fun _ _ _ _ _ _ us hl => by obtain ⟨_, _, _, rfl⟩ := ln3 hl; rfl
  have F41 := fun_mk (st := s_law) l41 c41 k41
  have b41 := F41.binds (ps := ["_law_script"]) fun _ _ _ _ _ _ us hl => by obtain ⟨_, rfl⟩ := ln1 hl; rfl
  let t : Adr := { f_row_of := ⟨f0, PySem.W.fnOf "row_of" "row_of" (defArgs s_row_of) (defBody s_row_of) (defScope s_row_of) .none kV0 dc0 pm0 an0 cd0 ct0⟩, f_sort_of := ⟨f1, PySem.W.fnOf "sort_of" "sort_of" (defArgs s_sort_of) (defBody s_sort_of) (defScope s_sort_of) .none kV1 dc1 pm1 an1 cd1 ct1⟩, f_is_wall := ⟨f2, PySem.W.fnOf "is_wall" "is_wall" (defArgs s_is_wall) (defBody s_is_wall) (defScope s_is_wall) .none kV2 dc2 pm2 an2 cd2 ct2⟩, f_host_of := ⟨f3, PySem.W.fnOf "host_of" "host_of" (defArgs s_host_of) (defBody s_host_of) (defScope s_host_of) .none kV3 dc3 pm3 an3 cd3 ct3⟩, f_frame_of := ⟨f4, PySem.W.fnOf "frame_of" "frame_of" (defArgs s_frame_of) (defBody s_frame_of) (defScope s_frame_of) .none kV4 dc4 pm4 an4 cd4 ct4⟩, f_is_text := ⟨f5, PySem.W.fnOf "is_text" "is_text" (defArgs s_is_text) (defBody s_is_text) (defScope s_is_text) .none kV5 dc5 pm5 an5 cd5 ct5⟩, f_name_of := ⟨f6, PySem.W.fnOf "name_of" "name_of" (defArgs s_name_of) (defBody s_name_of) (defScope s_name_of) .none kV6 dc6 pm6 an6 cd6 ct6⟩, f_parts_of := ⟨f7, PySem.W.fnOf "parts_of" "parts_of" (defArgs s_parts_of) (defBody s_parts_of) (defScope s_parts_of) .none kV7 dc7 pm7 an7 cd7 ct7⟩, f_part_at := ⟨f8, PySem.W.fnOf "part_at" "part_at" (defArgs s_part_at) (defBody s_part_at) (defScope s_part_at) .none kV8 dc8 pm8 an8 cd8 ct8⟩, f_names_above := ⟨f9, PySem.W.fnOf "names_above" "names_above" (defArgs s_names_above) (defBody s_names_above) (defScope s_names_above) .none kV9 dc9 pm9 an9 cd9 ct9⟩, f_way_to := ⟨f10, PySem.W.fnOf "way_to" "way_to" (defArgs s_way_to) (defBody s_way_to) (defScope s_way_to) .none kV10 dc10 pm10 an10 cd10 ct10⟩, f_places_in := ⟨f11, PySem.W.fnOf "places_in" "places_in" (defArgs s_places_in) (defBody s_places_in) (defScope s_places_in) .none kV11 dc11 pm11 an11 cd11 ct11⟩, f_placed_parts := ⟨f12, PySem.W.fnOf "placed_parts" "placed_parts" (defArgs s_placed_parts) (defBody s_placed_parts) (defScope s_placed_parts) .none kV12 dc12 pm12 an12 cd12 ct12⟩, f_steps_below := ⟨f13, PySem.W.fnOf "steps_below" "steps_below" (defArgs s_steps_below) (defBody s_steps_below) (defScope s_steps_below) .none kV13 dc13 pm13 an13 cd13 ct13⟩, f_straight_above := ⟨f14, PySem.W.fnOf "straight_above" "straight_above" (defArgs s_straight_above) (defBody s_straight_above) (defScope s_straight_above) .none kV14 dc14 pm14 an14 cd14 ct14⟩, f_near_of := ⟨f15, PySem.W.fnOf "near_of" "near_of" (defArgs s_near_of) (defBody s_near_of) (defScope s_near_of) .none kV15 dc15 pm15 an15 cd15 ct15⟩, f_fault_of := ⟨f16, PySem.W.fnOf "fault_of" "fault_of" (defArgs s_fault_of) (defBody s_fault_of) (defScope s_fault_of) .none kV16 dc16 pm16 an16 cd16 ct16⟩, f_fault_at := ⟨f17, PySem.W.fnOf "fault_at" "fault_at" (defArgs s_fault_at) (defBody s_fault_at) (defScope s_fault_at) .none kV17 dc17 pm17 an17 cd17 ct17⟩, f_follows_text := ⟨f18, PySem.W.fnOf "follows_text" "follows_text" (defArgs s_follows_text) (defBody s_follows_text) (defScope s_follows_text) .none kV18 dc18 pm18 an18 cd18 ct18⟩, f_text_fault := ⟨f19, PySem.W.fnOf "text_fault" "text_fault" (defArgs s_text_fault) (defBody s_text_fault) (defScope s_text_fault) .none kV19 dc19 pm19 an19 cd19 ct19⟩, f_tree_fault := ⟨f20, PySem.W.fnOf "tree_fault" "tree_fault" (defArgs s_tree_fault) (defBody s_tree_fault) (defScope s_tree_fault) .none kV20 dc20 pm20 an20 cd20 ct20⟩, f_frame_fault := ⟨f21, PySem.W.fnOf "frame_fault" "frame_fault" (defArgs s_frame_fault) (defBody s_frame_fault) (defScope s_frame_fault) .none kV21 dc21 pm21 an21 cd21 ct21⟩, f_near_fault := ⟨f22, PySem.W.fnOf "near_fault" "near_fault" (defArgs s_near_fault) (defBody s_near_fault) (defScope s_near_fault) .none kV22 dc22 pm22 an22 cd22 ct22⟩, f_share_a_name := ⟨f23, PySem.W.fnOf "share_a_name" "share_a_name" (defArgs s_share_a_name) (defBody s_share_a_name) (defScope s_share_a_name) .none kV23 dc23 pm23 an23 cd23 ct23⟩, f__law_numbers := ⟨f24, PySem.W.fnOf "_law_numbers" "_law_numbers" (defArgs s__law_numbers) (defBody s__law_numbers) (defScope s__law_numbers) .none kV24 dc24 pm24 an24 cd24 ct24⟩, f__law_draw := ⟨f25, PySem.W.fnOf "_law_draw" "_law_draw" (defArgs s__law_draw) (defBody s__law_draw) (defScope s__law_draw) .none kV25 dc25 pm25 an25 cd25 ct25⟩, f__law_name := ⟨f26, PySem.W.fnOf "_law_name" "_law_name" (defArgs s__law_name) (defBody s__law_name) (defScope s__law_name) .none kV26 dc26 pm26 an26 cd26 ct26⟩, f__law_sorts := ⟨f27, PySem.W.fnOf "_law_sorts" "_law_sorts" (defArgs s__law_sorts) (defBody s__law_sorts) (defScope s__law_sorts) .none kV27 dc27 pm27 an27 cd27 ct27⟩, f__law_some := ⟨f28, PySem.W.fnOf "_law_some" "_law_some" (defArgs s__law_some) (defBody s__law_some) (defScope s__law_some) .none kV28 dc28 pm28 an28 cd28 ct28⟩, f__law_book := ⟨f29, PySem.W.fnOf "_law_book" "_law_book" (defArgs s__law_book) (defBody s__law_book) (defScope s__law_book) .none kV29 dc29 pm29 an29 cd29 ct29⟩, f__law_text := ⟨f30, PySem.W.fnOf "_law_text" "_law_text" (defArgs s__law_text) (defBody s__law_text) (defScope s__law_text) .none kV30 dc30 pm30 an30 cd30 ct30⟩, f__law_walk := ⟨f31, PySem.W.fnOf "_law_walk" "_law_walk" (defArgs s__law_walk) (defBody s__law_walk) (defScope s__law_walk) .none kV31 dc31 pm31 an31 cd31 ct31⟩, f__law_row := ⟨f32, PySem.W.fnOf "_law_row" "_law_row" (defArgs s__law_row) (defBody s__law_row) (defScope s__law_row) .none kV32 dc32 pm32 an32 cd32 ct32⟩, f__law_near := ⟨f33, PySem.W.fnOf "_law_near" "_law_near" (defArgs s__law_near) (defBody s__law_near) (defScope s__law_near) .none kV33 dc33 pm33 an33 cd33 ct33⟩, f__law_fault := ⟨f34, PySem.W.fnOf "_law_fault" "_law_fault" (defArgs s__law_fault) (defBody s__law_fault) (defScope s__law_fault) .none kV34 dc34 pm34 an34 cd34 ct34⟩, f__law_faults := ⟨f35, PySem.W.fnOf "_law_faults" "_law_faults" (defArgs s__law_faults) (defBody s__law_faults) (defScope s__law_faults) .none kV35 dc35 pm35 an35 cd35 ct35⟩, f__law_grown := ⟨f36, PySem.W.fnOf "_law_grown" "_law_grown" (defArgs s__law_grown) (defBody s__law_grown) (defScope s__law_grown) .none kV36 dc36 pm36 an36 cd36 ct36⟩, f__law_put_parts := ⟨f37, PySem.W.fnOf "_law_put_parts" "_law_put_parts" (defArgs s__law_put_parts) (defBody s__law_put_parts) (defScope s__law_put_parts) .none kV37 dc37 pm37 an37 cd37 ct37⟩, f__law_first := ⟨f38, PySem.W.fnOf "_law_first" "_law_first" (defArgs s__law_first) (defBody s__law_first) (defScope s__law_first) .none kV38 dc38 pm38 an38 cd38 ct38⟩, f__law_whole := ⟨f39, PySem.W.fnOf "_law_whole" "_law_whole" (defArgs s__law_whole) (defBody s__law_whole) (defScope s__law_whole) .none kV39 dc39 pm39 an39 cd39 ct39⟩, f__law_bent := ⟨f40, PySem.W.fnOf "_law_bent" "_law_bent" (defArgs s__law_bent) (defBody s__law_bent) (defScope s__law_bent) .none kV40 dc40 pm40 an40 cd40 ct40⟩, f_law := ⟨f41, PySem.W.fnOf "law" "law" (defArgs s_law) (defBody s_law) (defScope s_law) .none kV41 dc41 pm41 an41 cd41 ct41⟩, v_NAME := .int 0 k_NAME, v_SORT := .int 1 k_SORT, v_HOST := .int 2 k_HOST, v_SHUTS := .int 3 k_SHUTS, v_BARS := .int 4 k_BARS, v_ROOT_NAME := .str ("" : Str) k_ROOT_NAME, v_MOST_ABOVE := .int 19 k_MOST_ABOVE, c_WALL_SORTS := c_WALL_SORTS }
  have T : Txt K mg t := ⟨⟨F0, b0, PySem.W.mg_of X G a0⟩, ⟨F1, b1, PySem.W.mg_of X G a1⟩, ⟨F2, b2, PySem.W.mg_of X G a2⟩, ⟨F3, b3, PySem.W.mg_of X G a3⟩, ⟨F4, b4, PySem.W.mg_of X G a4⟩, ⟨F5, b5, PySem.W.mg_of X G a5⟩, ⟨F6, b6, PySem.W.mg_of X G a6⟩, ⟨F7, b7, PySem.W.mg_of X G a7⟩, ⟨F8, b8, PySem.W.mg_of X G a8⟩, ⟨F9, b9, PySem.W.mg_of X G a9⟩, ⟨F10, b10, PySem.W.mg_of X G a10⟩, ⟨F11, b11, PySem.W.mg_of X G a11⟩, ⟨F12, b12, PySem.W.mg_of X G a12⟩, ⟨F13, b13, PySem.W.mg_of X G a13⟩, ⟨F14, b14, PySem.W.mg_of X G a14⟩, ⟨F15, b15, PySem.W.mg_of X G a15⟩, ⟨F16, b16, PySem.W.mg_of X G a16⟩, ⟨F17, b17, PySem.W.mg_of X G a17⟩, ⟨F18, b18, PySem.W.mg_of X G a18⟩, ⟨F19, b19, PySem.W.mg_of X G a19⟩, ⟨F20, b20, PySem.W.mg_of X G a20⟩, ⟨F21, b21, PySem.W.mg_of X G a21⟩, ⟨F22, b22, PySem.W.mg_of X G a22⟩, ⟨F23, b23, PySem.W.mg_of X G a23⟩, ⟨F24, b24, PySem.W.mg_of X G a24⟩, ⟨F25, b25, PySem.W.mg_of X G a25⟩, ⟨F26, b26, PySem.W.mg_of X G a26⟩, ⟨F27, b27, PySem.W.mg_of X G a27⟩, ⟨F28, b28, PySem.W.mg_of X G a28⟩, ⟨F29, b29, PySem.W.mg_of X G a29⟩, ⟨F30, b30, PySem.W.mg_of X G a30⟩, ⟨F31, b31, PySem.W.mg_of X G a31⟩, ⟨F32, b32, PySem.W.mg_of X G a32⟩, ⟨F33, b33, PySem.W.mg_of X G a33⟩, ⟨F34, b34, PySem.W.mg_of X G a34⟩, ⟨F35, b35, PySem.W.mg_of X G a35⟩, ⟨F36, b36, PySem.W.mg_of X G a36⟩, ⟨F37, b37, PySem.W.mg_of X G a37⟩, ⟨F38, b38, PySem.W.mg_of X G a38⟩, ⟨F39, b39, PySem.W.mg_of X G a39⟩, ⟨F40, b40, PySem.W.mg_of X G a40⟩, ⟨F41, b41, PySem.W.mg_of X G a41⟩, PySem.W.mg_of X G uWALL_SORTS, fun _ => .inr ⟨_, _, _, wWALL_SORTS, rfl, rfl, by rw [sizeLine_eq]; show 2 ≤ _; decide, (.cons ⟨_, rfl⟩ (.cons ⟨_, rfl⟩ .nil))⟩, ⟨PySem.W.mg_of X G uNAME, ⟨_, rfl⟩⟩, ⟨PySem.W.mg_of X G uSORT, ⟨_, rfl⟩⟩, ⟨PySem.W.mg_of X G uHOST, ⟨_, rfl⟩⟩, ⟨PySem.W.mg_of X G uSHUTS, ⟨_, rfl⟩⟩, ⟨PySem.W.mg_of X G uBARS, ⟨_, rfl⟩⟩, ⟨PySem.W.mg_of X G uROOT_NAME, ⟨_, rfl⟩⟩, ⟨PySem.W.mg_of X G uMOST_ABOVE, ⟨_, rfl⟩⟩, PySem.W.mg_none_of X G zany, PySem.W.mg_none_of X G zbool, PySem.W.mg_none_of X G zenumerate, PySem.W.mg_none_of X G zint, PySem.W.mg_none_of X G zisinstance, PySem.W.mg_none_of X G zlen, PySem.W.mg_none_of X G zlist, PySem.W.mg_none_of X G zrange, PySem.W.mg_none_of X G zsorted, PySem.W.mg_none_of X G zstr, PySem.W.mg_none_of X G zsum, PySem.W.mg_none_of X G ztuple⟩
  exact ⟨_, fun s v => .of_eq rfl, fun base _ _ => ok_law T⟩
theorem walk {l : PySem.W.OpenLaw} {q : Program} {loose : List Str} {XP : (Str → Option Value) → Heap → Prop} {as : List Addr} {z t : Nat} {d : DefRec} {K : Params → PySem.W.Frag} (hn : l.most = some 63) (hdf : d.params.defaults = [])
    (hk : ∀ P, as = (K P).map (·.1)) (h0 : 0 < t)
    (F : ∀ (w : World) (mg : Str → Option Value) (fa : Addr) (h : Heap), (K w.params).In h → h.Ns mainGlobals mg → mg d.name = some (.ref fa) →
      ∃ fd : FuncData, (∀ (s : Shared) (u : Value), BindsTo s fd ⟨[u], []⟩ [("_law_script", u)]) ∧ ∀ base : Heap, (K w.params).In base → base.Ns mainGlobals mg → FnOk l.prog w (K w.params) mg base CX0 15 fa fd ["_law_script"] (sp_law (K w.params))) :
    PySem.W.WalkX q loose XP (PySem.W.X.obsZ as) (PySem.W.X.valZ K z t) l.row.toRowW d [] (fun f vs => PySem.call f vs) :=
  L2.walk_of (n := 63) (k := 15) (x := "_law_script") (CX := fun _ => CX0) (sp := fun w => sp_law (K w.params)) hn (by decide) hdf ⟨rfl, by decide, by decide⟩ hk h0 F (fun _ _ a ns hl _ hS => ⟨a, ns, rfl, hS, hl, fun _ => rfl⟩) fun _ _ _ _ _ z => z
end My
open PySem PySem.W PyProof.Rows
set_option maxRecDepth 100000 in
set_option maxHeartbeats 0 in
theorem PySem.Challenge.cw_tagmend_k25_the_first_fault_holds : PySem.Challenge.rw_tagmend_k25_the_first_fault.Holds := by
  w_on; o_law; z_head; (case hw => w_witness2)
  k_fill
  refine My.walk (l := PySem.Challenge.rw_tagmend_k25_the_first_fault) rfl rfl (fun _ => rfl) (by decide) ?F
  case F =>
    intro w mg fa h KX G hmg
    refine' My.all_mk KX G hmg ?a0 ?l0 ?c0 ?k0 ?a1 ?l1 ?c1 ?k1 ?a2 ?l2 ?c2 ?k2 ?a3 ?l3 ?c3 ?k3 ?a4 ?l4 ?c4 ?k4 ?a5 ?l5 ?c5 ?k5 ?a6 ?l6 ?c6 ?k6 ?a7 ?l7 ?c7 ?k7 ?a8 ?l8 ?c8 ?k8 ?a9 ?l9 ?c9 ?k9 ?a10 ?l10 ?c10 ?k10 ?a11 ?l11 ?c11 ?k11 ?a12 ?l12 ?c12 ?k12 ?a13 ?l13 ?c13 ?k13 ?a14 ?l14 ?c14 ?k14 ?a15 ?l15 ?c15 ?k15 ?a16 ?l16 ?c16 ?k16 ?a17 ?l17 ?c17 ?k17 ?a18 ?l18 ?c18 ?k18 ?a19 ?l19 ?c19 ?k19 ?a20 ?l20 ?c20 ?k20 ?a21 ?l21 ?c21 ?k21 ?a22 ?l22 ?c22 ?k22 ?a23 ?l23 ?c23 ?k23 ?a24 ?l24 ?c24 ?k24 ?a25 ?l25 ?c25 ?k25 ?a26 ?l26 ?c26 ?k26 ?a27 ?l27 ?c27 ?k27 ?a28 ?l28 ?c28 ?k28 ?a29 ?l29 ?c29 ?k29 ?a30 ?l30 ?c30 ?k30 ?a31 ?l31 ?c31 ?k31 ?a32 ?l32 ?c32 ?k32 ?a33 ?l33 ?c33 ?k33 ?a34 ?l34 ?c34 ?k34 ?a35 ?l35 ?c35 ?k35 ?a36 ?l36 ?c36 ?k36 ?a37 ?l37 ?c37 ?k37 ?a38 ?l38 ?c38 ?k38 ?a39 ?l39 ?c39 ?k39 ?a40 ?l40 ?c40 ?k40 ?a41 ?l41 ?c41 ?k41 ?uWALL_SORTS ?wWALL_SORTS ?uNAME ?uSORT ?uHOST ?uSHUTS ?uBARS ?uROOT_NAME ?uMOST_ABOVE ?zany ?zbool ?zenumerate ?zint ?zisinstance ?zlen ?zlist ?zrange ?zsorted ?zstr ?zsum ?ztuple
    (case a0 => k_is); (case l0 => k_is); (case c0 => k_is); (case k0 => k_is)
    (case a1 => k_is); (case l1 => k_is); (case c1 => k_is); (case k1 => k_is)
    (case a2 => k_is); (case l2 => k_is); (case c2 => k_is); (case k2 => k_is)
    (case a3 => k_is); (case l3 => k_is); (case c3 => k_is); (case k3 => k_is)
    (case a4 => k_is); (case l4 => k_is); (case c4 => k_is); (case k4 => k_is)
    (case a5 => k_is); (case l5 => k_is); (case c5 => k_is); (case k5 => k_is)
    (case a6 => k_is); (case l6 => k_is); (case c6 => k_is); (case k6 => k_is)
    (case a7 => k_is); (case l7 => k_is); (case c7 => k_is); (case k7 => k_is)
    (case a8 => k_is); (case l8 => k_is); (case c8 => k_is); (case k8 => k_is)
    (case a9 => k_is); (case l9 => k_is); (case c9 => k_is); (case k9 => k_is)
    (case a10 => k_is); (case l10 => k_is); (case c10 => k_is); (case k10 => k_is)
    (case a11 => k_is); (case l11 => k_is); (case c11 => k_is); (case k11 => k_is)
    (case a12 => k_is); (case l12 => k_is); (case c12 => k_is); (case k12 => k_is)
    (case a13 => k_is); (case l13 => k_is); (case c13 => k_is); (case k13 => k_is)
    (case a14 => k_is); (case l14 => k_is); (case c14 => k_is); (case k14 => k_is)
    (case a15 => k_is); (case l15 => k_is); (case c15 => k_is); (case k15 => k_is)
    (case a16 => k_is); (case l16 => k_is); (case c16 => k_is); (case k16 => k_is)
    (case a17 => k_is); (case l17 => k_is); (case c17 => k_is); (case k17 => k_is)
    (case a18 => k_is); (case l18 => k_is); (case c18 => k_is); (case k18 => k_is)
    (case a19 => k_is); (case l19 => k_is); (case c19 => k_is); (case k19 => k_is)
    (case a20 => k_is); (case l20 => k_is); (case c20 => k_is); (case k20 => k_is)
    (case a21 => k_is); (case l21 => k_is); (case c21 => k_is); (case k21 => k_is)
    (case a22 => k_is); (case l22 => k_is); (case c22 => k_is); (case k22 => k_is)
    (case a23 => k_is); (case l23 => k_is); (case c23 => k_is); (case k23 => k_is)
    (case a24 => k_is); (case l24 => k_is); (case c24 => k_is); (case k24 => k_is)
    (case a25 => k_is); (case l25 => k_is); (case c25 => k_is); (case k25 => k_is)
    (case a26 => k_is); (case l26 => k_is); (case c26 => k_is); (case k26 => k_is)
    (case a27 => k_is); (case l27 => k_is); (case c27 => k_is); (case k27 => k_is)
    (case a28 => k_is); (case l28 => k_is); (case c28 => k_is); (case k28 => k_is)
    (case a29 => k_is); (case l29 => k_is); (case c29 => k_is); (case k29 => k_is)
    (case a30 => k_is); (case l30 => k_is); (case c30 => k_is); (case k30 => k_is)
    (case a31 => k_is); (case l31 => k_is); (case c31 => k_is); (case k31 => k_is)
    (case a32 => k_is); (case l32 => k_is); (case c32 => k_is); (case k32 => k_is)
    (case a33 => k_is); (case l33 => k_is); (case c33 => k_is); (case k33 => k_is)
    (case a34 => k_is); (case l34 => k_is); (case c34 => k_is); (case k34 => k_is)
    (case a35 => k_is); (case l35 => k_is); (case c35 => k_is); (case k35 => k_is)
    (case a36 => k_is); (case l36 => k_is); (case c36 => k_is); (case k36 => k_is)
    (case a37 => k_is); (case l37 => k_is); (case c37 => k_is); (case k37 => k_is)
    (case a38 => k_is); (case l38 => k_is); (case c38 => k_is); (case k38 => k_is)
    (case a39 => k_is); (case l39 => k_is); (case c39 => k_is); (case k39 => k_is)
    (case a40 => k_is); (case l40 => k_is); (case c40 => k_is); (case k40 => k_is)
    (case a41 => k_is); (case l41 => k_is); (case c41 => k_is); (case k41 => k_is)
    (case uWALL_SORTS => k_is); (case wWALL_SORTS => k_is); (case uNAME => k_is); (case uSORT => k_is)
    (case uHOST => k_is); (case uSHUTS => k_is); (case uBARS => k_is); (case uROOT_NAME => k_is)
    (case uMOST_ABOVE => k_is); (case zany => k_is); (case zbool => k_is); (case zenumerate => k_is)
    (case zint => k_is); (case zisinstance => k_is); (case zlen => k_is); (case zlist => k_is)
    (case zrange => k_is); (case zsorted => k_is); (case zstr => k_is); (case zsum => k_is)
    (case ztuple => k_is)
end
