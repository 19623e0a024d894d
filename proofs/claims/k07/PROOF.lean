import PyProof.Rows.All
import Wide.All
import OpenK.AllK
import Wide.FinOn
import Lean
import PyProof.EqAt
import PyProof.EqKinds
import PyProof.TupleCall
import PyProof.NeData
import PyProof.Rows.StrJoin2
import PyProof.Rows.SortStr
import PyProof.Rows.SortWalk
import KE.KRevIter
import PyProof.Rows.RuleN_isinstance
import PyProof.StrReplace2
import PyProof.StrWalks
import PyProof.Draws
import PyProof.EnumMake
import PyProof.Rows.StrNews2
import PyProof.StrLawsTight
import PyProof.StrLawsReplace
import PyProof.ConsumeWalk
import PyProof.StrLawsFrom
import PyProof.DictValues
import PyProof.Rows.SumAny
import PyProof.SeqI3
import PyProof.NoPylong
import PyProof.Rows.FStrParts
import PyProof.ListRange
import PyProof.ListStr
import PyProof.DictWalks
import PyProof.DictItemsLoops
import PyProof.FactsAll.dict_itemiterator_1
import PyProof.Rows.RegStrFacts
import PySem.Challenge.RW_tagmend_k07_frames_within_frames
set_option Elab.async false
set_option linter.all false
set_option maxRecDepth 100000
local macro_rules | `(tactic| omega) => `(tactic| lia)
namespace L2
open PySem PySem.Spec PyProof.Rows
abbrev Key := Sum Int Str
def keyIs : Key → Value → Bool
  | .inl k, v => Value.isInt k v
  | .inr x, v => Value.isStrOf x v
def keyH (w : World) : Key → Int
  | .inl k => hashInt k
  | .inr x => hashStr w x
theorem keyIs_shape : ∀ {k : Key} {v : Value}, keyIs k v = true → (∃ i t, k = Sum.inl i ∧ v = Value.int i t) ∨ (∃ x t, k = Sum.inr x ∧ v = Value.str x t)
  | .inl i, v, h => by
    obtain ⟨t, e⟩ := Value.isInt_shape (k := i) (v := v) h
    exact .inl ⟨i, t, rfl, e⟩
  | .inr x, v, h => by
    obtain ⟨t, e⟩ := Value.isStrOf_shape (x := x) (v := v) h
    exact .inr ⟨x, t, rfl, e⟩
theorem keyIs_int (i : Int) (t : Tok) : keyIs (.inl i) (.int i t) = true := by simp [keyIs, Value.isInt]
theorem keyIs_str (x : Str) (t : Tok) : keyIs (.inr x) (.str x t) = true := by simp [keyIs, Value.isStrOf]
theorem key_ll (a b : Int) : decide ((Sum.inl a : Key) = Sum.inl b) = (a == b) := by
  by_cases e : a = b
  · subst e; simp
  · have h : ¬ (Sum.inl a : Key) = Sum.inl b := fun q => e (Sum.inl.inj q)
    rw [decide_eq_false h]
    exact (beq_eq_false_iff_ne.mpr e).symm
theorem key_rr (a b : Str) : decide ((Sum.inr a : Key) = Sum.inr b) = decide (a = b) := by
  by_cases e : a = b
  · subst e; simp
  · have h : ¬ (Sum.inr a : Key) = Sum.inr b := fun q => e (Sum.inr.inj q)
    rw [decide_eq_false h, decide_eq_false e]
theorem key_lr (a : Int) (b : Str) : decide ((Sum.inl a : Key) = Sum.inr b) = false := decide_eq_false (fun q => nomatch q)
theorem key_rl (a : Str) (b : Int) : decide ((Sum.inr a : Key) = Sum.inl b) = false := decide_eq_false (fun q => nomatch q)
def mixKind (prog : Program) (w : World) : PySem.KeyKind prog w Key where
  is := keyIs
  hash := keyH w
  inj := fun v a b ha hb => by
    rcases keyIs_shape ha with ⟨i, t, rfl, rfl⟩ | ⟨x, t, rfl, rfl⟩
    · rcases keyIs_shape hb with ⟨j, u, rfl, e⟩ | ⟨y, u, rfl, e⟩
      · injection e with e1 _; rw [e1]
      · exact nomatch e
    · rcases keyIs_shape hb with ⟨j, u, rfl, e⟩ | ⟨y, u, rfl, e⟩
      · exact nomatch e
      · injection e with e1 _; rw [e1]
  byValue := fun k v h => by
    rcases keyIs_shape h with ⟨i, t, rfl, rfl⟩ | ⟨x, t, rfl, rfl⟩ <;> rfl
  pyHash := fun hv h => by
    rcases keyIs_shape hv with ⟨i, t, rfl, rfl⟩ | ⟨x, t, rfl, rfl⟩
    · exact wpAny_pyHash_int h
    · exact wpAny_pyHash_str h
  eqBool := fun hu hv h => by
    rcases keyIs_shape hu with ⟨i, t, rfl, rfl⟩ | ⟨x, t, rfl, rfl⟩
    · rcases keyIs_shape hv with ⟨j, u, rfl, rfl⟩ | ⟨y, u, rfl, rfl⟩
      · rw [key_ll] at h; exact wpAny_eqBool_int h
      · rw [key_lr] at h; exact SeqAt.EqAt.int_str i t y u _ _ _ _ h
    · rcases keyIs_shape hv with ⟨j, u, rfl, rfl⟩ | ⟨y, u, rfl, rfl⟩
      · rw [key_rl] at h; exact SeqAt.EqAt.str_int x t j u _ _ _ _ h
      · rw [key_rr] at h; exact wpAny_eqBool_str h
  «strs» := fun k x t v h => by
    rcases keyIs_shape h with ⟨i, u, rfl, e⟩ | ⟨y, u, rfl, e⟩
    · exact nomatch e
    · injection e with e1 _
      subst e1
      cases v <;> rfl
theorem mixKind_int (prog : Program) (w : World) (i : Int) (t : Tok) : (mixKind prog w).is (.inl i) (.int i t) = true := keyIs_int i t
theorem mixKind_str (prog : Program) (w : World) (x : Str) (t : Tok) : (mixKind prog w).is (.inr x) (.str x t) = true := keyIs_str x t
end L2
namespace L2
open PySem PySem.Spec PyProof.Rows
inductive V where
  | non | bl (b : Bool) | int (i : Int) | str (x : Str) | byt (b : Array UInt8) | flt (b : UInt64) | ref (a : Addr) | ty (n : String)
  deriving DecidableEq
def RelV : V → Value → Prop
  | .non, u => u = Value.none
  | .bl b, u => u = Value.bool b
  | .int i, u => ∃ t, u = Value.int i t
  | .str x, u => ∃ t, u = Value.str x t
  | .byt b, u => ∃ t, u = Value.bytes b t
  | .flt b, u => ∃ t, u = Value.float b t
  | .ref a, u => u = Value.ref a
  | .ty n, u => u = Value.type n
abbrev Vals : List V → List Value → Prop := Paired RelV
theorem Vals.length {xs : List V} {us : List Value} (r : Vals xs us) : xs.length = us.length := Paired.length r
theorem Vals.get : ∀ {xs : List V} {us : List Value} {i : Nat} {x : V}, Vals xs us → xs[i]? = some x → ∃ u, us[i]? = some u ∧ RelV x u
  | _, _, _, _, .nil, e => by simp at e
  | _, _, 0, _, .cons r _, e => by simp at e; subst e; exact ⟨_, rfl, r⟩
  | _, _, i + 1, x, .cons _ t, e => by
    obtain ⟨u, h1, h2⟩ := Vals.get (i := i) (x := x) t (by simpa using e)
    exact ⟨u, by simpa using h1, h2⟩
theorem Vals.set {x : V} {u : Value} (r : RelV x u) : ∀ {xs : List V} {us : List Value} (i : Nat), Vals xs us → Vals (xs.set i x) (us.set i u)
  | _, _, _, .nil => .nil
  | _, _, 0, .cons _ t => .cons r t
  | _, _, i + 1, .cons q t => .cons q (Vals.set r i t)
theorem Vals.append : ∀ {xs ys : List V} {us ws : List Value}, Vals xs us → Vals ys ws → Vals (xs ++ ys) (us ++ ws)
  | _, _, _, _, .nil, s => s
  | _, _, _, _, .cons r t, s => .cons r (Vals.append t s)
theorem Vals.take : ∀ {xs : List V} {us : List Value} (n : Nat), Vals xs us → Vals (xs.take n) (us.take n)
  | _, _, 0, _ => .nil
  | _, _, _ + 1, .nil => .nil
  | _, _, n + 1, .cons r t => .cons r (Vals.take n t)
theorem Vals.drop : ∀ {xs : List V} {us : List Value} (n : Nat), Vals xs us → Vals (xs.drop n) (us.drop n)
  | _, _, 0, r => r
  | _, _, _ + 1, .nil => .nil
  | _, _, n + 1, .cons _ t => Vals.drop n t
def RelO : Option V → Option Value → Prop
  | some v, some u => RelV v u
  | none, none => True
  | _, _ => False
def KV {κ : Type} : List (κ × V) → List (κ × Value) → Prop := Paired fun (p : κ × V) (q : κ × Value) => p.1 = q.1 ∧ RelV p.2 q.2
def kV : Key → V
  | .inl i => .int i
  | .inr x => .str x
inductive HO where
  /-- a list -/
  | lst (xs : List V)
  /-- a tuple (never changes) -/
  | tup (xs : List V)
  /-- a dict whose keys are ints and texts; one whose keys are tuples of ints and texts (the empty one is both) -/
  | dK (kvs : List (Key × V)) | dT (kvs : List (List Key × V))
  /-- a set of ints: its members, its size -/
  | set (S : Int → Bool) (n : Nat)
  /-- an instance of the class at C, its dict at dx, its attributes -/
  | ins (C dx : Addr) (fs : List (Str × V))
  /-- the dict of the instance at x -/
  | own (x : Addr)
  /-- the dict of an exception -/
  | xd (fs : List (Str × V))
  /-- a bound method, f of x -/
  | met (f x : Addr)
  /-- a range object lo, lo + 1, .. below hi -/
  | rng (lo hi : Int)
  /-- a thing that is known to the object (the script; a dict while a loop walks it): read, never written while it is so -/
  | frz (o : Obj) (u : HO)
  /-- a code object's table -/
  | tbl (ps : Array Value)
  /-- any other thing, by what is true of its one object (a def of one's own: SetO a S n := HO.ext fun h => ..) -/
  | ext (φ : Heap → Prop)
abbrev Hp := Addr → Option HO
def upd (H : Hp) (a : Addr) (o : HO) : Hp := fun b => if b = a then some o else H b
theorem upd_same {H : Hp} {a : Addr} {o : HO} : upd H a o a = some o := by unfold upd; rw [if_pos rfl]
theorem upd_ne {H : Hp} {a b : Addr} {o : HO} (h : b ≠ a) : upd H a o b = H b := by unfold upd; rw [if_neg h]
theorem ne_of {H : Hp} {a b : Addr} {o u : HO} (h : H a = some o) (h' : H b = some u) (d : o ≠ u) : a ≠ b := by
  intro e; subst e; rw [h] at h'; exact d (Option.some.inj h')
theorem ne_of_none {H : Hp} {a b : Addr} {o : HO} (h : H a = some o) (h' : H b = none) : a ≠ b := by
  intro e; subst e; rw [h] at h'; cases h'
section
variable (P : Program) (w : World)
def ObjOk (H : Hp) (h : Heap) (a : Addr) : HO → Prop
  | .lst xs => xs.length ≤ sizeLine ∧ ∃ (its : List Value) (n : Nat), Vals xs its ∧ h.get? a = some { cls := .type "list", data := .seq its.toArray n }
  | .tup xs => xs.length ≤ sizeLine ∧ ∃ its : List Value, Vals xs its ∧ IsTup h a its.toArray
  | .dK kvs => kvs.length ≤ sizeLine ∧ (a == sysModules) = false ∧ ∃ vs, KV kvs vs ∧ h.DictOf (mixKind P w) a vs
  | .dT kvs => kvs.length ≤ sizeLine ∧ (a == sysModules) = false ∧ ∃ xs : List (List Key × Addr × Value),
      Paired (fun (p : List Key × V) (q : List Key × Addr × Value) => p.1 = q.1 ∧ H q.2.1 = some (.tup (p.1.map kV)) ∧ RelV p.2 q.2.2) kvs xs ∧
      ∃ o es ep, h.get? a = some o ∧ o.ExactDict ∧ o.data = .dict es ep ∧ es.toList = xs.map (entryOfKey (tupleKind (mixKind P w))) ∧ (xs.map (·.1)).Nodup
  | .set S n => h.SetOf (intKind P w) a S n
  | .ins C dx fs => H dx = some (.own a) ∧ fs.length ≤ 1000 ∧ dx ≠ a ∧ h.get? a = some (PySem.W.instObj C dx) ∧
      ∃ mA, h.Ns1 dx mA ∧ (∀ f, RelO (fs.lookup f) (mA f)) ∧ PySem.Within mA (fs.map (·.1))
  | .own _ => ∃ o, h.get? a = some o
  | .xd fs => ∃ mA, h.Ns1 a mA ∧ ∀ f, RelO (fs.lookup f) (mA f)
  | .rng lo hi => ∃ t u v, h.get? a = some { cls := .type "range", data := .fields #[.int lo t, .int hi u, .int 1 v] }
  | .frz o u => h.get? a = some o ∧ ObjOk H h a u
  | .tbl ps => h.get? a = some { cls := .none, data := .fields ps }
  | .met f x => h.get? a = some (PySem.W.methodObj (.ref f) (.ref x))
  | .ext φ => φ h ∧ (∃ o, h.get? a = some o) ∧ ∀ h1 h2 : Heap, φ h1 → (∀ o, h1.get? a = some o → h2.get? a = some o) → φ h2
def HOk (H : Hp) (h : Heap) : Prop := ∀ a o, H a = some o → ObjOk P w H h a o
end
section
variable {P : Program} {w : World} {H H' : Hp} {h h' : Heap} {a : Addr} {o : HO}
theorem ObjOk.lt (x : ObjOk P w H h a o) : a < h.objs.size := by
  cases o with
  | lst xs => obtain ⟨_, _, _, _, e⟩ := x; exact Heap.lt_size e
  | tup xs => obtain ⟨_, _, _, p⟩ := x; exact p.lt
  | dK kvs => obtain ⟨_, _, _, _, o, _, _, e, _⟩ := x; exact Heap.lt_size e
  | dT kvs => obtain ⟨_, _, _, _, o, _, _, e, _⟩ := x; exact Heap.lt_size e
  | set S n => obtain ⟨o, _, _, _, e, _⟩ := x; exact Heap.lt_size e
  | ins C dx fs => obtain ⟨_, _, _, e, _⟩ := x; exact Heap.lt_size e
  | own y => obtain ⟨_, e⟩ := x; exact Heap.lt_size e
  | xd fs => obtain ⟨_, ⟨_, _, _, e, _⟩, _⟩ := x; exact Heap.lt_size e
  | rng lo hi => obtain ⟨_, _, _, e⟩ := x; exact Heap.lt_size e
  | frz ob u => obtain ⟨e, _⟩ := x; exact Heap.lt_size e
  | tbl ps => exact Heap.lt_size (show h.get? a = some _ from x)
  | met f y => exact Heap.lt_size (show h.get? a = some _ from x)
  | ext φ => obtain ⟨_, ⟨_, e⟩, _⟩ := x; exact Heap.lt_size e
theorem Paired.mapP {α β : Type} {F G : α → β → Prop} : ∀ {l₁ : List α} {l₂ : List β}, Paired F l₁ l₂ → (∀ a b, F a b → G a b) → Paired G l₁ l₂
  | _, _, .nil, _ => .nil
  | _, _, .cons r t, f => .cons (f _ _ r) (Paired.mapP t f)
theorem ObjOk.stay (x : ObjOk P w H h a o) (k : ∀ b u, (b = a ∨ H b = some (.own a)) → h.get? b = some u → h'.get? b = some u)
    (ho : ∀ b, H b = some (.own a) → H' b = some (.own a)) (ht : ∀ b xs, H b = some (.tup xs) → H' b = some (.tup xs)) : ObjOk P w H' h' a o := by
  induction o with
  | lst xs => obtain ⟨z, its, n, r, e⟩ := x; exact ⟨z, its, n, r, k _ _ (.inl rfl) e⟩
  | tup xs => obtain ⟨z, its, r, ob, e, c⟩ := x; exact ⟨z, its, r, ob, k _ _ (.inl rfl) e, c⟩
  | dK kvs => obtain ⟨z, y, vs, r, ob, es, ep, e, c⟩ := x; exact ⟨z, y, vs, r, ob, es, ep, k _ _ (.inl rfl) e, c⟩
  | dT kvs =>
    obtain ⟨z, y, xs, r, ob, es, ep, e, c⟩ := x
    exact ⟨z, y, xs, Paired.mapP r fun p q z => ⟨z.1, ht _ _ z.2.1, z.2.2⟩, ob, es, ep, k _ _ (.inl rfl) e, c⟩
  | set S n => obtain ⟨ob, es, ep, t, e, c⟩ := x; exact ⟨ob, es, ep, t, k _ _ (.inl rfl) e, c⟩
  | ins C dx fs =>
    obtain ⟨d, z, ne, e, mA, ⟨od, es, ep, e2, c⟩, r⟩ := x
    exact ⟨ho _ d, z, ne, k _ _ (.inl rfl) e, mA, ⟨od, es, ep, k _ _ (.inr d) e2, c⟩, r⟩
  | own y => obtain ⟨ob, e⟩ := x; exact ⟨ob, k _ _ (.inl rfl) e⟩
  | xd fs => obtain ⟨mA, ⟨od, es, ep, e, c⟩, r⟩ := x; exact ⟨mA, ⟨od, es, ep, k _ _ (.inl rfl) e, c⟩, r⟩
  | rng lo hi => obtain ⟨t, u, v, e⟩ := x; exact ⟨t, u, v, k _ _ (.inl rfl) e⟩
  | frz ob u ih => obtain ⟨e, q⟩ := x; exact ⟨k _ _ (.inl rfl) e, ih q⟩
  | tbl ps =>
    have e : h.get? a = some { cls := .none, data := .fields ps } := x
    show h'.get? a = some { cls := .none, data := .fields ps }
    exact k a _ (.inl rfl) e
  | met f y =>
    have e : h.get? a = some (PySem.W.methodObj (.ref f) (.ref y)) := x
    show h'.get? a = some (PySem.W.methodObj (.ref f) (.ref y))
    exact k a _ (.inl rfl) e
  | ext φ => obtain ⟨p, ⟨o, e⟩, st⟩ := x; exact ⟨st _ _ p fun o q => k _ _ (.inl rfl) q, ⟨o, k _ _ (.inl rfl) e⟩, st⟩
theorem HOk.lt (x : HOk P w H h) (e : H a = some o) : a < h.objs.size := (x a o e).lt
theorem HOk.fresh (x : HOk P w H h) (e : h.objs.size ≤ a) : H a = none := by
  cases q : H a with
  | none => rfl
  | some u => exact absurd (Nat.lt_of_lt_of_le (x.lt q) e) (Nat.lt_irrefl _)
theorem HOk.kept (x : HOk P w H h) (k : ∀ b u, h.get? b = some u → h'.get? b = some u) : HOk P w H h' := fun a o e =>
  (x a o e).stay (fun b u _ q => k b u q) (fun _ q => q) fun _ _ q => q
theorem HOk.laid (x : HOk P w H h) (k : ∀ b u, h.get? b = some u → h'.get? b = some u) (hp : h.objs.size ≤ a) (new : ObjOk P w (upd H a o) h' a o) : HOk P w (upd H a o) h' := fun b u e => by
  have hn := x.fresh hp
  by_cases hb : b = a
  · subst hb; rw [upd_same] at e; cases e; exact new
  · rw [upd_ne hb] at e
    exact (x b u e).stay (fun c v _ q => k c v q) (fun c q => by rw [upd_ne (ne_of_none q hn)]; exact q) fun c xs q => by rw [upd_ne (ne_of_none q hn)]; exact q
end
def Rd (H : Hp) (a : Addr) (u : HO) : Prop := H a = some u ∨ ∃ o, H a = some (.frz o u)
theorem Rd.ok {P : Program} {w : World} {H : Hp} {h : Heap} {a : Addr} {u : HO} (r : Rd H a u) (x : HOk P w H h) : ObjOk P w H h a u := by
  rcases r with r | ⟨o, r⟩
  · exact x a u r
  · obtain ⟨_, q⟩ := x a _ r
    exact q
def Mut : Option HO → Prop
  | some (.lst _) => True
  | some (.dK _) => True
  | some (.dT _) => True
  | some (.set _ _) => True
  | some (.ins _ _ _) => True
  | some (.ext _) => True
  | _ => False
section
variable {P : Program} {w : World} {H : Hp} {h h' : Heap} {x e : Addr} {o' : HO}
theorem HOk.write (ok : HOk P w H h) (mu : Mut (H x)) (he : e = x ∨ H e = some (.own x)) (k : ∀ b u, b ≠ e → h.get? b = some u → h'.get? b = some u) (heo : ∃ u, h'.get? e = some u)
    (new : ObjOk P w (upd H x o') h' x o') : HOk P w (upd H x o') h' := fun b u q => by
  have nown : ∀ c y, H c = some (.own y) → c ≠ x := fun c y r z => by subst z; rw [r] at mu; exact mu
  have ntup : ∀ c xs, H c = some (.tup xs) → c ≠ x := fun c xs r z => by subst z; rw [r] at mu; exact mu
  by_cases hb : b = x
  · subst hb; rw [upd_same] at q; cases q; exact new
  · rw [upd_ne hb] at q
    by_cases hbe : b = e
    · have q' : H b = some (.own x) := by
        rcases he with z | z
        · exact absurd (hbe.trans z) hb
        · rw [hbe]; exact z
      rw [q] at q'; cases q'
      obtain ⟨v, hv⟩ := heo
      exact ⟨v, by rw [hbe]; exact hv⟩
    · refine (ok b u q).stay (fun c v hc r => k c v ?_ r) (fun c r => by rw [upd_ne (nown c b r)]; exact r) fun c xs r => by rw [upd_ne (ntup c xs r)]; exact r
      rcases hc with rfl | hc
      · exact hbe
      · rintro rfl
        rcases he with z | z
        · exact nown c b hc z
        · rw [hc] at z; cases z; exact hb rfl
end
structure Un (fs ex : List Addr) (H H' : Hp) (h h' : Heap) : Prop where
  keep : ∀ b o, h.get? b = some o → H b = none → b ∉ fs → b ∉ ex → h'.get? b = some o
  slot : ∀ b o, h.get? b = some o → H b = none → b ∈ fs → b ∉ ex → ∃ sl, h'.get? b = some { o with slots := sl }
  free : ∀ b o, h.get? b = some o → H b = none → b ∉ ex → H' b = none
  there : ∀ b o, h.get? b = some o → b ∉ ex → ∃ o', h'.get? b = some o'
  tups : ∀ b xs, H b = some (.tup xs) → H' b = some (.tup xs)
  frzs : ∀ b o u, H b = some (.frz o u) → H' b = some (.frz o u)
  tbls : ∀ b ps, H b = some (.tbl ps) → ∃ more, H' b = some (.tbl (ps ++ more))
section
variable {fs fs' ex ex' : List Addr} {H H1 H2 : Hp} {h h1 h2 h' : Heap} {a x e : Addr} {o : HO}
theorem Un.any (u : Un fs ex H H1 h h1) {b : Addr} {ob : Obj} (q : h.get? b = some ob) (n : H b = none) (hx : b ∉ ex) : ∃ sl, h1.get? b = some { ob with slots := sl } := by
  by_cases hb : b ∈ fs
  · exact u.slot b ob q n hb hx
  · exact ⟨ob.slots, u.keep b ob q n hb hx⟩
theorem Un.kept (k : ∀ b u, h.get? b = some u → h'.get? b = some u) : Un fs ex H H h h' :=
  ⟨fun b ob q _ _ _ => k b ob q, fun b ob q _ _ _ => ⟨ob.slots, k b ob q⟩, fun _ _ _ n _ => n, fun b ob q _ => ⟨ob, k b ob q⟩, fun _ _ q => q, fun _ _ _ q => q, fun _ ps q => ⟨#[], by rw [q]; simp⟩⟩
theorem Un.refl : Un fs ex H H h h := Un.kept fun _ _ q => q
theorem Un.laid (k : ∀ b u, h.get? b = some u → h'.get? b = some u) (hp : h.objs.size ≤ a) (hn : H a = none) : Un fs ex H (upd H a o) h h' where
  keep := fun b u q _ _ _ => k b u q
  slot := fun b u q _ _ _ => ⟨u.slots, k b u q⟩
  free := fun b u q n _ => by rw [upd_ne (Nat.ne_of_lt (Nat.lt_of_lt_of_le (Heap.lt_size q) hp))]; exact n
  there := fun b u q _ => ⟨u, k b u q⟩
  tups := fun b xs q => by rw [upd_ne (ne_of_none q hn)]; exact q
  frzs := fun b u xs q => by rw [upd_ne (ne_of_none q hn)]; exact q
  tbls := fun b ps q => ⟨#[], by rw [upd_ne (ne_of_none q hn), q]; simp⟩
theorem Un.write (mu : Mut (H x)) (he : e = x ∨ H e = some (.own x)) (k : ∀ b u, b ≠ e → h.get? b = some u → h'.get? b = some u) (heo : ∃ u, h'.get? e = some u) : Un fs ex H (upd H x o) h h' := by
  have hx : ∀ b, H b = none → b ≠ x := fun b n z => by subst z; rw [n] at mu; exact mu
  have hb : ∀ b, H b = none → b ≠ e := fun b n z => by
    subst z
    rcases he with r | r
    · exact hx b n r
    · rw [n] at r; cases r
  have hm : ∀ b u, H b = some u → ¬ Mut (some u) → b ≠ x := fun b u q nm z => by subst z; rw [q] at mu; exact nm mu
  refine ⟨fun b u q n _ _ => k b u (hb b n) q, fun b u q n _ _ => ⟨u.slots, k b u (hb b n) q⟩, fun b u q n _ => by rw [upd_ne (hx b n)]; exact n, fun b u q _ => ?_,
    fun b xs q => by rw [upd_ne (hm b _ q fun z => z)]; exact q, fun b u xs q => by rw [upd_ne (hm b _ q fun z => z)]; exact q, fun b ps q => ⟨#[], by rw [upd_ne (hm b _ q fun z => z), q]; simp⟩⟩
  by_cases hbe : b = e
  · subst hbe; exact heo
  · exact ⟨u, k b u hbe q⟩
end
def trk (h : Heap) (H : Hp) : List Addr := (List.range h.objs.size).filter fun a => (H a).isSome
def hidT (h : Heap) (H : Hp) : Heap := PySem.W.hideAll h (trk h H)
theorem hidT_size (h : Heap) (H : Hp) : (hidT h H).objs.size = h.objs.size := PySem.W.hideAll_size _ _
theorem hidT_get {h : Heap} {H : Hp} {b : Addr} {o : Obj} (e : h.get? b = some o) (n : H b = none) : (hidT h H).get? b = some o :=
  PySem.W.hideAll_get _ e fun hm => by
    have q : (H b).isSome = true := (List.mem_filter.mp hm).2
    rw [n] at q; simp at q
theorem of_hidT {h : Heap} {H : Hp} {b : Addr} {o : Obj} (e : (hidT h H).get? b = some o) : h.get? b = some o ∧ H b = none := by
  have e' : h.get? b = some o := PySem.W.of_hideAll (trk h H) e
  refine ⟨e', ?_⟩
  cases q : H b with
  | none => rfl
  | some x =>
    have hm : b ∈ trk h H := List.mem_filter.mpr ⟨List.mem_range.mpr (Heap.lt_size e'), by simp [q]⟩
    have z : (hidT h H).get? b = none := PySem.W.hideAll_none (trk h H) hm
    rw [z] at e; cases e
end L2
namespace L2
open PySem PySem.Spec PyProof.Rows
structure Mod (K : PySem.W.Frag) (mg : Str → Option Value) (base : Heap) : Prop where
  kin : K.In base
  glob : base.Ns mainGlobals mg
  blt : ∃ mb, base.Ns builtinsNs mb ∧ ∀ x : Str, x ≠ "__name__" → mb x = bootBuiltins x
  nolimit : base.NoLimit
structure Cx where
  prog : Program
  w : World
  K : PySem.W.Frag
  mg : Str → Option Value
  base : Heap
  A : Around
  N : List Str
  s₀ : Shared
  H₀ : Hp
  env : Env
  outer : List Env
  stack : List Env
  ex : List Addr
  fn : Str → Bool
  calm : Bool
  pn : List (Addr × Obj)
  xe : Value → Shared → Prop
def frs (l : List Env) : List Addr := l.filterMap (·.frame)
abbrev Cx.fs (X : Cx) : List Addr := frs X.outer
def Vis (sc : Scope) (x : Str) : Prop := sc.names.lookup x = some .local ∨ sc.names.lookup x = some .cell ∨ sc.names.lookup x = some .free
def Loc (sc : Scope) (x : Str) : Prop := sc.names.lookup x = some .local ∨ sc.names.lookup x = some .cell
def Look (env : Env) (h : Heap) (m : Str → Option Value) (x : Str) (u : Value) : Prop :=
  (env.kindOf x = some .local ∧ m x = some u) ∨ ((env.kindOf x = some .cell ∨ env.kindOf x = some .free) ∧ ∃ c, env.cells.lookup x = some c ∧ h.IsCell c (some u))
structure Cx.Ok (X : Cx) : Prop where
  mod : Mod X.K X.mg X.base
  kind : X.env.scope.kind = .function
  glob : X.env.globals = mainGlobals
  blt : X.env.builtins = builtinsNs
  above : X.s₀.heap.objs.size ≤ X.env.locals
  inj : ∀ x y c, X.env.cells.lookup x = some c → X.env.cells.lookup y = some c → x = y
  has : ∀ x, (X.env.kindOf x = some .cell ∨ X.env.kindOf x = some .free) → ∃ c, X.env.cells.lookup x = some c
  cab : ∀ x c, X.fn x = true → X.env.cells.lookup x = some c → X.s₀.heap.objs.size ≤ c
  hd : X.calm = true → X.A.handled = none
  frames : X.A.frames = some X.stack
  stk : X.stack = X.outer ∨ (X.stack = X.env :: X.outer ∧ X.env.frame = some X.env.locals)
  exf : ∀ b ∈ X.ex, b ≠ X.env.locals ∧ ∀ x c, X.env.cells.lookup x = some c → c ≠ b
  bs : ∀ b o, X.base.get? b = some o → X.s₀.heap.get? b = some o ∧ X.H₀ b = none
  bsz : X.base.objs.size ≤ X.s₀.heap.objs.size
  noex : ∀ b o, X.base.get? b = some o → b ∉ X.ex
  exfs : ∀ b ∈ X.ex, b ∉ X.fs
  funs : X.s₀.heap.FunFrames X.base X.outer
  frf : ∀ b ∈ X.fs, X.H₀ b = none
structure Inv (X : Cx) (pins : List (Addr × Obj)) (σ : List (Option V)) (H : Hp) (s : Shared) : Prop where
  ok : X.Ok
  os : s.os = X.s₀.os
  bare : AllBare s.gens
  base : Un X.fs X.ex X.H₀ H X.s₀.heap s.heap
  loc : ∃ m, s.heap.Ns X.env.locals m ∧ ∀ (i : Nat) (x : Str) (v : V), X.N[i]? = some x → σ[i]? = some (some v) → Vis X.env.scope x → ∃ u, RelV v u ∧ Look X.env s.heap m x u
  cell : ∀ x c, X.env.cells.lookup x = some c → ∃ v, s.heap.IsCell c v
  free : H X.env.locals = none
  freeC : ∀ x c, X.env.cells.lookup x = some c → H c = none
  pin : ∀ p ∈ X.pn ++ pins, s.heap.get? p.1 = some p.2 ∧ H p.1 = none ∧ p.1 ≠ X.env.locals ∧ p.1 ∉ X.fs ∧ ∀ v, p.2.data ≠ .cell v
  hok : HOk X.prog X.w H s.heap
  len : σ.length = X.N.length
  tk : 0 < s.toks
section
variable {X : Cx} {pins : List (Addr × Obj)} {σ : List (Option V)} {H H' : Hp} {s : Shared} {h' : Heap}
theorem Cx.Ok.nofr (ok : X.Ok) {b : Addr} {o : Obj} (e : X.base.get? b = some o) : b ∉ X.fs := fun hb => by
  have := (ok.funs.mem hb).1
  rw [e] at this; cases this
theorem Inv.bs (I : Inv X pins σ H s) : ∀ b o, X.base.get? b = some o → s.heap.get? b = some o ∧ H b = none := fun b o e =>
  ⟨I.base.keep b o (I.ok.bs b o e).1 (I.ok.bs b o e).2 (I.ok.nofr e) (I.ok.noex b o e), I.base.free b o (I.ok.bs b o e).1 (I.ok.bs b o e).2 (I.ok.noex b o e)⟩
theorem Inv.bk (I : Inv X pins σ H s) : ∀ b o, X.base.get? b = some o → s.heap.get? b = some o := fun b o e => (I.bs b o e).1
theorem Inv.mod (I : Inv X pins σ H s) : Mod X.K X.mg X.base := I.ok.mod
theorem Inv.kIn (I : Inv X pins σ H s) : X.K.In s.heap := I.ok.mod.kin.keeps I.bk
theorem Inv.lt (I : Inv X pins σ H s) : X.env.locals < s.heap.objs.size := let ⟨_, hn, _⟩ := I.loc; hn.lt
theorem Inv.sz (I : Inv X pins σ H s) : X.s₀.heap.objs.size ≤ s.heap.objs.size := Nat.le_trans I.ok.above (Nat.le_of_lt I.lt)
theorem Inv.nofs (I : Inv X pins σ H s) {a : Addr} (h : s.heap.objs.size ≤ a) : a ∉ X.fs := fun hb => by
  obtain ⟨_, o, ho, _⟩ := I.ok.funs.mem hb
  exact absurd (Nat.lt_of_lt_of_le (Heap.lt_size ho) (Nat.le_trans I.sz h)) (Nat.lt_irrefl _)
theorem Inv.cne (I : Inv X pins σ H s) : ∀ x c, X.env.cells.lookup x = some c → c ≠ X.env.locals := fun x c e z => by
  obtain ⟨v, o, ho, hd⟩ := I.cell x c e
  obtain ⟨m, ⟨o', es, ep, ho', hd', _⟩, _⟩ := I.loc
  rw [z, ho'] at ho; cases ho; rw [hd'] at hd; cases hd
theorem Inv.funs (I : Inv X pins σ H s) : s.heap.FunFrames X.base X.outer := by
  have all : ∀ (l : List Env), (∀ b ∈ frs l, b ∈ X.fs) → X.s₀.heap.FunFrames X.base l → s.heap.FunFrames X.base l := by
    intro l
    induction l with
    | nil => intro _ _; trivial
    | cons env r ih =>
      intro hs hl
      obtain ⟨hk, ⟨L, o, hf, hn, ho, hd⟩, hr⟩ := hl
      have hL : L ∈ X.fs := hs L (by unfold frs; rw [List.filterMap_cons, hf]; exact List.mem_cons_self)
      obtain ⟨sl, e⟩ := I.base.slot L o ho (I.ok.frf L hL) hL fun z => I.ok.exfs L z hL
      exact ⟨hk, ⟨L, _, hf, hn, e, hd⟩, ih (fun b hb => hs b (by unfold frs; rw [List.filterMap_cons, hf]; exact List.mem_cons_of_mem _ hb)) hr⟩
  exact all X.outer (fun _ hb => hb) I.ok.funs
theorem Inv.stack (I : Inv X pins σ H s) : s.heap.FunFrames X.base X.stack := by
  rcases I.ok.stk with e | ⟨e, hf⟩
  · rw [e]; exact I.funs
  · rw [e]
    obtain ⟨m, hn, _⟩ := I.loc
    refine .cons (by rw [I.ok.kind]; decide) hf hn ?_ I.funs
    exact Heap.get?_none_of_le (Nat.le_trans I.ok.bsz I.ok.above)
theorem Inv.stkSub (I : Inv X pins σ H s) : ∀ b ∈ frs X.stack, b ∈ X.env.locals :: X.fs := fun b hb => by
  rcases I.ok.stk with e | ⟨e, hf⟩
  · rw [e] at hb; exact List.mem_cons_of_mem _ hb
  · rw [e] at hb
    unfold frs at hb
    rw [List.filterMap_cons, hf] at hb
    exact hb
theorem Inv.stkFree (I : Inv X pins σ H s) : ∀ b ∈ frs X.stack, H b = none := fun b hb => by
  rcases List.mem_cons.mp (I.stkSub b hb) with e | hb
  · rw [e]; exact I.free
  · obtain ⟨_, o, ho, _⟩ := I.ok.funs.mem hb
    exact I.base.free b o ho (I.ok.frf b hb) fun z => I.ok.exfs b z hb
theorem Inv.step {g' : Array GenState} {t' : Nat} {d' : Drawn} {ch : List Addr} (I : Inv X pins σ H s)
    (hch : ∀ b ∈ ch, (b ∈ X.ex ∨ X.s₀.heap.objs.size ≤ b) ∧ b ≠ X.env.locals ∧ (∀ x c, X.env.cells.lookup x = some c → c ≠ b) ∧ ∀ p ∈ X.pn ++ pins, p.1 ≠ b)
    (keep : ∀ b o, b ≠ X.env.locals → b ∉ X.fs → b ∉ ch → s.heap.get? b = some o → H b = none → h'.get? b = some o)
    (slot : ∀ b o, b ≠ X.env.locals → b ∈ X.fs → b ∉ ch → s.heap.get? b = some o → H b = none → ∃ sl, h'.get? b = some { o with slots := sl }) (free : ∀ b o, b ∉ ch → s.heap.get? b = some o → H b = none → H' b = none)
    (there : ∀ b o, b ∉ ch → s.heap.get? b = some o → ∃ o', h'.get? b = some o')
    (tups : ∀ b xs, H b = some (.tup xs) → H' b = some (.tup xs)) (frzs : ∀ b o u, H b = some (.frz o u) → H' b = some (.frz o u)) (tbls : ∀ b ps, H b = some (.tbl ps) → ∃ more, H' b = some (.tbl (ps ++ more)))
    (ns : ∀ m, s.heap.Ns X.env.locals m → h'.Ns X.env.locals m) (hok : HOk X.prog X.w H' h') (hg : AllBare g') (ht : 0 < t' := by first | exact Nat.succ_pos _ | assumption | exact Inv.tk ‹_› | omega) :
    Inv X pins σ H' { s with heap := h', gens := g', drawn := d', toks := t' } := by
  have neL : ∀ b o, X.s₀.heap.get? b = some o → b ≠ X.env.locals := fun b o e => Nat.ne_of_lt (Nat.lt_of_lt_of_le (Heap.lt_size e) I.ok.above)
  have neC : ∀ b o, X.s₀.heap.get? b = some o → b ∉ X.ex → b ∉ ch := fun b o e hx hb => by
    rcases (hch b hb).1 with z | z
    · exact hx z
    · exact absurd (Nat.lt_of_lt_of_le (Heap.lt_size e) z) (Nat.lt_irrefl _)
  have cellK : ∀ x c, X.env.cells.lookup x = some c → ∀ v, s.heap.IsCell c v → h'.IsCell c v := fun x c e v ⟨o, ho, hd⟩ => by
    have nch : c ∉ ch := fun z => (hch c z).2.2.1 x c e rfl
    by_cases hc : c ∈ X.fs
    · obtain ⟨sl, q⟩ := slot c o (I.cne x c e) hc nch ho (I.freeC x c e)
      exact ⟨_, q, hd⟩
    · exact ⟨o, keep c o (I.cne x c e) hc nch ho (I.freeC x c e), hd⟩
  refine ⟨I.ok, I.os, hg, ⟨fun b o e n hb hx => ?_, fun b o e n hb hx => ?_, fun b o e n hx => ?_, fun b o e hx => ?_, fun b xs e => tups b xs (I.base.tups b xs e), fun b o xs e => frzs b o xs (I.base.frzs b o xs e), fun b ps e => ?_⟩, ?_, fun x c e => ?_, ?_, fun x c e => ?_, fun p hp => ?_, hok, I.len, ht⟩
  · exact keep b o (neL b o e) hb (neC b o e hx) (I.base.keep b o e n hb hx) (I.base.free b o e n hx)
  · obtain ⟨sl, e1⟩ := I.base.slot b o e n hb hx
    obtain ⟨sl', e2⟩ := slot b _ (neL b o e) hb (neC b o e hx) e1 (I.base.free b o e n hx)
    exact ⟨sl', e2⟩
  · obtain ⟨o', e1⟩ := I.base.there b o e hx
    exact free b o' (neC b o e hx) e1 (I.base.free b o e n hx)
  · obtain ⟨o', e1⟩ := I.base.there b o e hx
    exact there b o' (neC b o e hx) e1
  · obtain ⟨m1, e1⟩ := I.base.tbls b ps e
    obtain ⟨m2, e2⟩ := tbls b _ e1
    exact ⟨m1 ++ m2, by rw [e2, Array.append_assoc]⟩
  · obtain ⟨m, hn, hl⟩ := I.loc
    refine ⟨m, ns m hn, fun i x v e1 e2 e3 => ?_⟩
    obtain ⟨u, r, l⟩ := hl i x v e1 e2 e3
    refine ⟨u, r, ?_⟩
    rcases l with l | ⟨k, c, e, z⟩
    · exact .inl l
    · exact .inr ⟨k, c, e, cellK x c e _ z⟩
  · obtain ⟨v, z⟩ := I.cell x c e
    exact ⟨v, cellK x c e v z⟩
  · obtain ⟨m, ⟨o, _, _, ho, _⟩, _⟩ := I.loc
    exact free _ o (fun z => (hch _ z).2.1 rfl) ho I.free
  · obtain ⟨v, o, ho, hd⟩ := I.cell x c e
    exact free c o (fun z => (hch c z).2.2.1 x c e rfl) ho (I.freeC x c e)
  · obtain ⟨e, n, ne, nf, d⟩ := I.pin p hp
    have nch : p.1 ∉ ch := fun z => (hch p.1 z).2.2.2 p hp rfl
    exact ⟨keep p.1 p.2 ne nf nch e n, free p.1 p.2 nch e n, ne, nf, d⟩
theorem Inv.un {t' : Nat} (I : Inv X pins σ H s) (u : Un X.fs [] H H' s.heap h') (hok : HOk X.prog X.w H' h') (ht : 0 < t' := by first | exact Nat.succ_pos _ | assumption | exact Inv.tk ‹_› | omega) : Inv X pins σ H' { s with heap := h', toks := t' } := by
  obtain ⟨m, ⟨o, es, ep, ho, r⟩, _⟩ := id I.loc
  obtain ⟨sl, hL⟩ := u.any ho I.free (by simp)
  exact I.step (g' := s.gens) (d' := s.drawn) (ch := []) (fun _ z => nomatch z) (fun b o _ hb _ e n => u.keep b o e n hb (by simp)) (fun b o _ hb _ e n => u.slot b o e n hb (by simp)) (fun b o _ e n => u.free b o e n (by simp)) (fun b o _ e => u.there b o e (by simp)) u.tups u.frzs u.tbls (fun m' hm => by
    obtain ⟨o', es', ep', ho', r'⟩ := hm
    rw [ho] at ho'; cases ho'
    exact ⟨_, es', ep', hL, r'⟩) hok I.bare
theorem Inv.call {g' : Array GenState} {t' : Nat} {d' : Drawn} {ch : List Addr} (I : Inv X pins σ H s) (u : Un (frs X.stack) ch H H' s.heap h') (hok : HOk X.prog X.w H' h') (hg : AllBare g')
    (hch : ∀ b ∈ ch, (b ∈ X.ex ∨ X.s₀.heap.objs.size ≤ b) ∧ b ≠ X.env.locals ∧ (∀ x c, X.env.cells.lookup x = some c → c ≠ b) ∧ ∀ p ∈ X.pn ++ pins, p.1 ≠ b) (ht : 0 < t' := by first | exact Nat.succ_pos _ | assumption | exact Inv.tk ‹_› | omega) :
    Inv X pins σ H' { s with heap := h', gens := g', drawn := d', toks := t' } := by
  obtain ⟨m, ⟨o, es, ep, ho, r⟩, _⟩ := id I.loc
  obtain ⟨sl, hL⟩ := u.any ho I.free fun z => (hch _ z).2.1 rfl
  exact I.step (ch := ch) hch (fun b o hL hb hc e n => u.keep b o e n (fun z => (List.mem_cons.mp (I.stkSub b z)).elim hL hb) hc) (fun b o _ _ hc e n => u.any e n hc) (fun b o hc e n => u.free b o e n hc) (fun b o hc e => u.there b o e hc) u.tups u.frzs u.tbls (fun m' hm => by
    obtain ⟨o', es', ep', ho', r'⟩ := hm
    rw [ho] at ho'; cases ho'
    exact ⟨_, es', ep', hL, r'⟩) hok hg
theorem Inv.turned {t' : Nat} {it : Addr} (I : Inv X pins σ H s) (k : ∀ b o, b ≠ it → s.heap.get? b = some o → h'.get? b = some o) (hn : H it = none) (hL : it ≠ X.env.locals)
    (h1 : it ∈ X.ex ∨ X.s₀.heap.objs.size ≤ it) (h2 : ∀ x c, X.env.cells.lookup x = some c → c ≠ it) (h3 : ∀ p ∈ X.pn ++ pins, p.1 ≠ it) (ht : 0 < t' := by first | exact Nat.succ_pos _ | assumption | exact Inv.tk ‹_› | omega) : Inv X pins σ H { s with heap := h', toks := t' } := by
  have nit : ∀ b u, H b = some u → b ≠ it := fun b u e z => by rw [z, hn] at e; cases e
  refine I.step (g' := s.gens) (d' := s.drawn) (ch := [it]) (fun b hb => ?_) (fun b o _ _ hc e _ => k b o (fun z => hc (by simp [z])) e) (fun b o _ _ hc e _ => ⟨o.slots, k b o (fun z => hc (by simp [z])) e⟩) (fun _ _ _ _ n => n)
    (fun b o hc e => ⟨o, k b o (fun z => hc (by simp [z])) e⟩) (fun _ _ e => e) (fun _ _ _ e => e) (fun b ps e => ⟨#[], by rw [e]; simp⟩) (fun m hm => ?_) (fun b u e => ?_) I.bare
  · have e : b = it := by simpa using hb
    subst e
    exact ⟨h1, hL, h2, h3⟩
  · obtain ⟨o, es, ep, ho, r⟩ := hm
    exact ⟨o, es, ep, k _ o (Ne.symm hL) ho, r⟩
  · refine (I.hok b u e).stay (fun c v hc q => k c v ?_ q) (fun _ q => q) fun _ _ q => q
    rcases hc with z | z
    · rw [z]; exact nit b u e
    · exact nit c _ z
theorem Inv.tok (I : Inv X pins σ H s) (t' : Nat) (ht : 0 < t' := by first | exact Nat.succ_pos _ | assumption | exact Inv.tk ‹_› | omega) : Inv X pins σ H { s with toks := t' } := I.un (h' := s.heap) (t' := t') Un.refl I.hok
theorem Inv.kept {t' : Nat} (I : Inv X pins σ H s) (k : ∀ b u, s.heap.get? b = some u → h'.get? b = some u) (ht : 0 < t' := by first | exact Nat.succ_pos _ | assumption | exact Inv.tk ‹_› | omega) : Inv X pins σ H { s with heap := h', toks := t' } := I.un (Un.kept k) (I.hok.kept k)
theorem Inv.laid {a : Addr} {o : HO} {t' : Nat} (I : Inv X pins σ H s) (k : ∀ b u, s.heap.get? b = some u → h'.get? b = some u) (hp : s.heap.objs.size ≤ a) (new : ObjOk X.prog X.w (upd H a o) h' a o) (ht : 0 < t' := by first | exact Nat.succ_pos _ | assumption | exact Inv.tk ‹_› | omega) :
    Inv X pins σ (upd H a o) { s with heap := h', toks := t' } := I.un (Un.laid k hp (I.hok.fresh hp)) (I.hok.laid k hp new)
theorem Inv.write {x e : Addr} {o : HO} {t' : Nat} (I : Inv X pins σ H s) (mu : Mut (H x)) (he : e = x ∨ H e = some (.own x)) (k : ∀ b u, b ≠ e → s.heap.get? b = some u → h'.get? b = some u) (heo : ∃ u, h'.get? e = some u)
    (new : ObjOk X.prog X.w (upd H x o) h' x o) (ht : 0 < t' := by first | exact Nat.succ_pos _ | assumption | exact Inv.tk ‹_› | omega) : Inv X pins σ (upd H x o) { s with heap := h', toks := t' } := I.un (Un.write mu he k heo) (I.hok.write mu he k heo new)
theorem Inv.weak {σ' : List (Option V)} (I : Inv X pins σ H s) (hl : σ'.length = σ.length) (w : ∀ (i : Nat) v, σ'[i]? = some (some v) → σ[i]? = some (some v)) : Inv X pins σ' H s :=
  ⟨I.ok, I.os, I.bare, I.base, let ⟨m, hn, hl'⟩ := I.loc; ⟨m, hn, fun i x v e1 e2 e3 => hl' i x v e1 (w i v e2) e3⟩, I.cell, I.free, I.freeC, I.pin, I.hok, hl.trans I.len, I.tk⟩
theorem Inv.pins_of {pins' : List (Addr × Obj)} (I : Inv X pins σ H s) (h : ∀ p ∈ pins', s.heap.get? p.1 = some p.2 ∧ H p.1 = none ∧ p.1 ≠ X.env.locals ∧ p.1 ∉ X.fs ∧ ∀ v, p.2.data ≠ .cell v) : Inv X pins' σ H s :=
  ⟨I.ok, I.os, I.bare, I.base, I.loc, I.cell, I.free, I.freeC, fun p hp => (List.mem_append.mp hp).elim (fun z => I.pin p (List.mem_append_left _ z)) (h p), I.hok, I.len, I.tk⟩
theorem nodup_ix {N : List Str} (hN : N.Nodup) {i j : Nat} {x : Str} (a : N[i]? = some x) (b : N[j]? = some x) : i = j := by
  obtain ⟨h1, e1⟩ := List.getElem?_eq_some_iff.mp a
  obtain ⟨h2, e2⟩ := List.getElem?_eq_some_iff.mp b
  exact (List.getElem_inj hN).mp (e1.trans e2.symm)
theorem store_ok2 {M : Model} {A : Around} {E : Value → Shared → Prop} {i : Nat} {x : Str} {v : V} {u : Value} {Q : Unit → Shared → Prop} (I : Inv X pins σ H s) (hN : X.N.Nodup) (hi : X.N[i]? = some x) (hx : Loc X.env.scope x) (r : RelV v u)
    (h : ∀ s', Inv X pins (σ.set i (some v)) H s' → (∃ a, Heap.SameBut a s.heap s'.heap ∧ (a = X.env.locals ∨ X.env.cells.lookup x = some a)) → Q () s') (hf : X.fn x = true ∨ X.env.scope.names.lookup x = some .local := by first | exact .inl rfl | exact .inr rfl | assumption) : wpAny M A (storeName X.env x u) Q E s := by
  obtain ⟨m, hn, hl⟩ := id I.loc
  have hcls : (X.env.scope.kind == .class || (X.env.scope.kind == .module && X.env.locals != X.env.globals)) = false := by rw [I.ok.kind]; rfl
  have hiσ : i < σ.length := by rw [I.len]; exact (List.getElem?_eq_some_iff.mp hi).1
  have cne := I.cne
  have tracked : ∀ {a : Addr} {h' : Heap}, (∃ o, s.heap.get? a = some o ∧ H a = none) → Heap.SameBut a s.heap h' → HOk X.prog X.w H h' := fun {a h'} ha hs b ob e => by
    obtain ⟨_, _, hfree⟩ := ha
    refine (I.hok b ob e).stay (fun c w' hc q => (hs.2 c ?_).trans q) (fun _ q => q) fun _ _ q => q
    rintro rfl
    rcases hc with rfl | hc
    · rw [hfree] at e; cases e
    · rw [hfree] at hc; cases hc
  rcases hx with hk | hk
  · refine wpAny_storeName_local hk hn (fun h' hn' hs => ?_) hcls
    obtain ⟨oL, _, _, hoL, _⟩ := id hn
    refine h _ ⟨I.ok, I.os, I.bare, ⟨fun b o e n hb hx => ?_, fun b o e n hb hx => ?_, I.base.free, fun b o e hx => ?_, I.base.tups, I.base.frzs, I.base.tbls⟩, ⟨_, hn', fun j y v' e1 e2 e3 => ?_⟩, fun y c e => ?_, I.free, I.freeC, fun p hp => ?_, tracked ⟨oL, hoL, I.free⟩ hs, by simpa using I.len, by first | exact I.tk | exact Nat.succ_pos _⟩ ⟨_, hs, .inl rfl⟩
    · exact (hs.2 b (Nat.ne_of_lt (Nat.lt_of_lt_of_le (Heap.lt_size e) I.ok.above))).trans (I.base.keep b o e n hb hx)
    · obtain ⟨sl, e1⟩ := I.base.slot b o e n hb hx
      exact ⟨sl, (hs.2 b (Nat.ne_of_lt (Nat.lt_of_lt_of_le (Heap.lt_size e) I.ok.above))).trans e1⟩
    · obtain ⟨o', e1⟩ := I.base.there b o e hx
      exact ⟨o', (hs.2 b (Nat.ne_of_lt (Nat.lt_of_lt_of_le (Heap.lt_size e) I.ok.above))).trans e1⟩
    · by_cases hj : j = i
      · subst hj
        rw [hi] at e1; cases e1
        rw [List.getElem?_set_self hiσ] at e2
        cases e2
        exact ⟨u, r, .inl ⟨hk, by simp⟩⟩
      · rw [List.getElem?_set_ne (Ne.symm hj)] at e2
        obtain ⟨u', r', q⟩ := hl j y v' e1 e2 e3
        refine ⟨u', r', ?_⟩
        rcases q with ⟨k, e⟩ | ⟨k, c, e, z⟩
        · refine .inl ⟨k, ?_⟩
          have : y ≠ x := fun e => hj (nodup_ix hN e1 (e ▸ hi))
          simp [this, e]
        · exact .inr ⟨k, c, e, z.sameBut hs (cne y c e)⟩
    · obtain ⟨w', z⟩ := I.cell y c e
      exact ⟨w', z.sameBut hs (cne y c e)⟩
    · obtain ⟨e, n, ne, nf, d⟩ := I.pin p hp
      exact ⟨(hs.2 p.1 ne).trans e, n, ne, nf, d⟩
  · have hfn : X.fn x = true := by
      rcases hf with z | z
      · exact z
      · rw [z] at hk; cases hk
    obtain ⟨c, hc⟩ := I.ok.has x (.inl hk)
    obtain ⟨w', z⟩ := I.cell x c hc
    refine wpAny_storeName_cell I.ok.kind hk hc z (fun h' hc' hs => ?_)
    obtain ⟨oc, hoc, hocd⟩ := id z
    refine h { s with heap := h' } ⟨I.ok, I.os, I.bare, ⟨fun b o e n hb hx => ?_, fun b o e n hb hx => ?_, I.base.free, fun b o e hx => ?_, I.base.tups, I.base.frzs, I.base.tbls⟩, ⟨m, hn.sameBut hs (Ne.symm (cne x c hc)), fun j y v' e1 e2 e3 => ?_⟩, fun y c' e => ?_, I.free, I.freeC, fun p hp => ?_, tracked ⟨oc, hoc, I.freeC x c hc⟩ hs, by simpa using I.len, by first | exact I.tk | exact Nat.succ_pos _⟩ ⟨c, hs, .inr hc⟩
    · exact (hs.2 b (Nat.ne_of_lt (Nat.lt_of_lt_of_le (Heap.lt_size e) (I.ok.cab x c hfn hc)))).trans (I.base.keep b o e n hb hx)
    · obtain ⟨sl, e1⟩ := I.base.slot b o e n hb hx
      exact ⟨sl, (hs.2 b (Nat.ne_of_lt (Nat.lt_of_lt_of_le (Heap.lt_size e) (I.ok.cab x c hfn hc)))).trans e1⟩
    · obtain ⟨o', e1⟩ := I.base.there b o e hx
      exact ⟨o', (hs.2 b (Nat.ne_of_lt (Nat.lt_of_lt_of_le (Heap.lt_size e) (I.ok.cab x c hfn hc)))).trans e1⟩
    · by_cases hj : j = i
      · subst hj
        rw [hi] at e1; cases e1
        rw [List.getElem?_set_self hiσ] at e2
        cases e2
        exact ⟨u, r, .inr ⟨.inl hk, c, hc, hc'⟩⟩
      · rw [List.getElem?_set_ne (Ne.symm hj)] at e2
        obtain ⟨u', r', q⟩ := hl j y v' e1 e2 e3
        refine ⟨u', r', ?_⟩
        rcases q with q | ⟨k, c', e, z'⟩
        · exact .inl q
        · refine .inr ⟨k, c', e, z'.sameBut hs ?_⟩
          rintro rfl
          exact hj (nodup_ix hN e1 (I.ok.inj _ _ _ e hc ▸ hi))
    · by_cases hcc : c' = c
      · subst hcc; exact ⟨_, hc'⟩
      · obtain ⟨w2, z2⟩ := I.cell y c' e
        exact ⟨w2, z2.sameBut hs hcc⟩
    · obtain ⟨e, n, ne, nf, d⟩ := I.pin p hp
      refine ⟨(hs.2 p.1 ?_).trans e, n, ne, nf, d⟩
      intro q
      rw [q, hoc] at e
      have q' : oc = p.2 := Option.some.inj e
      exact d w' (by rw [← q']; exact hocd)
theorem store_ok {M : Model} {A : Around} {E : Value → Shared → Prop} {i : Nat} {x : Str} {v : V} {u : Value} {Q : Unit → Shared → Prop} (I : Inv X pins σ H s) (hN : X.N.Nodup) (hi : X.N[i]? = some x) (hx : Loc X.env.scope x) (r : RelV v u)
    (h : ∀ s', Inv X pins (σ.set i (some v)) H s' → Q () s') (hf : X.fn x = true ∨ X.env.scope.names.lookup x = some .local := by first | exact .inl rfl | exact .inr rfl | assumption) : wpAny M A (storeName X.env x u) Q E s :=
  store_ok2 I hN hi hx r (fun s' I' _ => h s' I') hf
end
abbrev XK := Value → Option Addr → Hp → Prop
abbrev St := List (Option V)
abbrev VK := V → Hp → Prop
abbrev TE := St → Hp → VK → Prop
abbrev TT := St → Hp → (Bool → Hp → Prop) → Prop
abbrev TA := St → Hp → (List V → Hp → Prop) → Prop
structure Ends where
  nx : St → Hp → Prop
  rt : VK
  bk : St → Hp → Prop := fun _ _ => False
  ct : St → Hp → Prop := fun _ _ => False
abbrev TS := Ends → St → Hp → Prop
def EP (X : Cx) (pins : List (Addr × Obj)) (σ : St) (Q : VK) (u : Value) (s' : Shared) : Prop := ∃ v H', Inv X pins σ H' s' ∧ RelV v u ∧ Q v H'
def TP (X : Cx) (pins : List (Addr × Obj)) (σ : St) (Q : Bool → Hp → Prop) (b : Bool) (s' : Shared) : Prop := ∃ H', Inv X pins σ H' s' ∧ Q b H'
def AP (X : Cx) (pins : List (Addr × Obj)) (σ : St) (Q : List V → Hp → Prop) (us : List Value) (s' : Shared) : Prop := ∃ vs H', Inv X pins σ H' s' ∧ Vals vs us ∧ Q vs H'
def SP (X : Cx) (pins : List (Addr × Obj)) (D : Ends) (f : Flow) (s' : Shared) : Prop :=
  match f with
  | .next => ∃ σ' H', Inv X pins σ' H' s' ∧ D.nx σ' H'
  | .brk => ∃ σ' H', Inv X pins σ' H' s' ∧ D.bk σ' H'
  | .cont => ∃ σ' H', Inv X pins σ' H' s' ∧ D.ct σ' H'
  | .ret u => ∃ v σ' H', Inv X pins σ' H' s' ∧ RelV v u ∧ D.rt v H'
def PE (X : Cx) (e : Expr) (t : TE) : Prop :=
  ∀ (pins : List (Addr × Obj)) (s : Shared) (σ : St) (H : Hp) (Q : VK), Inv X pins σ H s → t σ H Q → wpAny (model X.prog X.w) X.A (eval e X.env) (EP X pins σ Q) X.xe s
def PT (X : Cx) (e : Expr) (t : TT) : Prop :=
  ∀ (pins : List (Addr × Obj)) (s : Shared) (σ : St) (H : Hp) (Q : Bool → Hp → Prop), Inv X pins σ H s → t σ H Q → wpAny (model X.prog X.w) X.A (isTrue e X.env (eval e X.env)) (TP X pins σ Q) X.xe s
def PW (X : Cx) (e : Expr) (t : TT) : Prop :=
  ∀ (whole : Sem Value) (pins : List (Addr × Obj)) (s : Shared) (σ : St) (H : Hp) (Q : Bool → Hp → Prop), Inv X pins σ H s → t σ H Q → wpAny (model X.prog X.w) X.A (isTrue e X.env whole) (TP X pins σ Q) X.xe s
theorem PW.pt {X : Cx} {e : Expr} {t : TT} (h : PW X e t) : PT X e t := h _
def PA (X : Cx) (es : List Expr) (t : TA) : Prop :=
  ∀ (pos : Pos) (pins : List (Addr × Obj)) (s : Shared) (σ : St) (H : Hp) (Q : List V → Hp → Prop), Inv X pins σ H s → t σ H Q → wpAny (model X.prog X.w) X.A (spliced (backTo pos (starEach es X.env))) (AP X pins σ Q) X.xe s
def PS (X : Cx) (st : Stmt) (t : TS) : Prop :=
  ∀ (pins : List (Addr × Obj)) (s : Shared) (σ : St) (H : Hp) (D : Ends), Inv X pins σ H s → t D σ H → wpAny (model X.prog X.w) X.A (exec st X.env) (SP X pins D) X.xe s
def PSs (X : Cx) (st : List Stmt) (t : TS) : Prop :=
  ∀ (pins : List (Addr × Obj)) (s : Shared) (σ : St) (H : Hp) (D : Ends), Inv X pins σ H s → t D σ H → wpAny (model X.prog X.w) X.A (execs st X.env) (SP X pins D) X.xe s
theorem thn {α : Type} {t : Sem α} {Q Q' : α → Shared → Prop} {M : Model} {A : Around} {E : Value → Shared → Prop} {s : Shared} (h : wpAny M A t Q E s) (hQ : ∀ a s, Q a s → Q' a s) : wpAny M A t Q' E s := wpAny_mono h hQ fun _ _ x => x
end L2
namespace L2
open PySem PySem.Spec PyProof.Rows
section
variable {X : Cx}
def tVar (i : Nat) : TE := fun σ H Q => ∃ v, σ[i]? = some (some v) ∧ Q v H
def tC (v : V) : TE := fun _ H Q => Q v H
theorem pe_var {i : Nat} {x : Str} {pos : Pos} (hN : X.N[i]? = some x) (hv : Vis X.env.scope x) (hd : (x == ("__debug__" : Str)) = false := by decide) (hcd : (x == ("__classdict__" : Str)) = false := by decide) : PE X (.Name x pos) (tVar i) := by
  intro pins s σ H Q I h
  obtain ⟨v, e, h⟩ := h
  obtain ⟨m, hn, hl⟩ := I.loc
  obtain ⟨u, r, l⟩ := hl i x v hN e hv
  have fin : EP X pins σ Q u s := ⟨v, H, I, r, h⟩
  rcases l with ⟨hk, hm⟩ | ⟨hk, c, hc, hcell⟩
  · exact wpAny_Name (wpAny_loadName_local I.ok.kind hk hn hm fin) hd
  · rcases hk with hk | hk
    · exact wpAny_Name (wpAny_loadName_cell I.ok.kind hk hc hcell fin) hd
    · exact wpAny_Name (wpAny_loadName_free I.ok.kind hk hc hcell fin hcd) hd
theorem pe_int {i j pos} : PE X (.Constant (.int i) j pos) (tC (.int i)) := fun _ _ _ H _ I h => wpAny_Constant_int ⟨.int i, H, I.tok _, ⟨_, rfl⟩, h⟩
theorem pe_bl {b j pos} : PE X (.Constant (.bool b) j pos) (tC (.bl b)) := fun _ _ _ H _ I h => Constant_bool ⟨.bl b, H, I, rfl, h⟩
theorem pe_non {j pos} : PE X (.Constant .none j pos) (tC .non) := fun _ _ _ H _ I h => Constant_none ⟨.non, H, I, rfl, h⟩
theorem pe_str {x j pos} : PE X (.Constant (.str x) j pos) (tC (.str x)) := fun _ _ _ H _ I h => Calls.Constant_str ⟨.str x, H, I.tok _, ⟨_, rfl⟩, h⟩
def Gl (X : Cx) (x : Str) : Prop := X.env.kindOf x = some .globalImplicit
theorem ld_glob {E : Value → Shared → Prop} {pins : List (Addr × Obj)} {s : Shared} {σ : St} {H : Hp} {x : Str} {u : Value} {pos : Pos} {Q : Value → Shared → Prop} (I : Inv X pins σ H s) (hg : Gl X x) (hm : X.mg x = some u) (h : Q u s)
    (hd : (x == ("__debug__" : Str)) = false := by decide) : wpAny (model X.prog X.w) X.A (eval (.Name x pos) X.env) Q E s :=
  Calls.Name_function_global I.ok.kind hg (Calls.loadGlobal_global (by rw [I.ok.glob]; exact I.mod.glob.keeps I.bk) hm h) hd
theorem ld_blt {E : Value → Shared → Prop} {pins : List (Addr × Obj)} {s : Shared} {σ : St} {H : Hp} {x : Str} {u : Value} {pos : Pos} {Q : Value → Shared → Prop} (I : Inv X pins σ H s) (hg : Gl X x) (hm : X.mg x = none) (hv : bootBuiltins x = some u) (h : Q u s)
    (hn : x ≠ "__name__" := by decide) (hd : (x == ("__debug__" : Str)) = false := by decide) : wpAny (model X.prog X.w) X.A (eval (.Name x pos) X.env) Q E s := by
  obtain ⟨mb, h1, h2⟩ := I.mod.blt
  exact Calls.Name_function_global I.ok.kind hg (Calls.loadGlobal_builtin (by rw [I.ok.glob]; exact I.mod.glob.keeps I.bk) hm (by rw [I.ok.blt]; exact h1.keeps I.bk) ((h2 x hn).trans hv) h) hd
theorem pe_glob {x : Str} {v : V} {u : Value} {pos : Pos} (hg : Gl X x) (hm : X.mg x = some u) (r : RelV v u) (hd : (x == ("__debug__" : Str)) = false := by decide) : PE X (.Name x pos) (tC v) :=
  fun _ _ _ H _ I h => ld_glob I hg hm ⟨v, H, I, r, h⟩ hd
theorem pe_bltn {x : Str} {v : V} {u : Value} {pos : Pos} (hg : Gl X x) (hm : X.mg x = none) (hv : bootBuiltins x = some u) (r : RelV v u) (hn : x ≠ "__name__" := by decide) (hd : (x == ("__debug__" : Str)) = false := by decide) : PE X (.Name x pos) (tC v) :=
  fun _ _ _ H _ I h => ld_blt I hg hm hv ⟨v, H, I, r, h⟩ hn hd
variable {a b : Expr} {ta tb : TE} {pos : Pos}
def tB (t : TE) : TT := fun σ H Q => t σ H fun x H1 => ∃ c, x = .bl c ∧ Q c H1
theorem pt_val {e : Expr} {t : TE} (h : PE X e t) (he : ∀ whole, isTrue e X.env whole = (do let v ← whole; standAt e.pos; holding [v] (truthy v)) := by intro _; rfl) : PT X e (tB t) := by
  intro pins s σ H Q I hw
  refine isTrue_plain (thn (h pins s σ H _ I hw) fun v s1 ⟨x, H1, I1, r1, q1⟩ => ?_) (he _)
  obtain ⟨d, rfl, q⟩ := q1
  cases r1
  exact wpAny_truthy_bool ⟨H1, I1, q⟩
variable {tA tB' : TT} {rest : List Expr}
def tAnd (t u : TT) : TT := fun σ H Q => t σ H fun c H1 => if c = true then u σ H1 Q else Q false H1
def tOr (t u : TT) : TT := fun σ H Q => t σ H fun c H1 => if c = true then Q true H1 else u σ H1 Q
def tNot (t : TT) : TT := fun σ H Q => t σ H fun c H1 => Q (!c) H1
theorem pw_and1 (ha : PT X a tA) : PW X (.BoolOp .And [a] pos) tA := by
  intro wh pins s σ H Q I h
  refine isTrue_and (thn (ha pins s σ H Q I h) fun c s1 e => ?_)
  cases c with
  | true => exact isTrue_and_nil e
  | false => exact e
theorem pw_or1 (ha : PT X a tA) : PW X (.BoolOp .Or [a] pos) tA := by
  intro wh pins s σ H Q I h
  refine isTrue_or (thn (ha pins s σ H Q I h) fun c s1 e => ?_)
  cases c with
  | false => exact isTrue_or_nil e
  | true => exact e
theorem pw_and (ha : PT X a tA) (hb : PW X (.BoolOp .And (b :: rest) pos) tB') : PW X (.BoolOp .And (a :: b :: rest) pos) (tAnd tA tB') := by
  intro wh pins s σ H Q I h
  refine isTrue_and (thn (ha pins s σ H _ I h) fun c s1 ⟨H1, I1, q1⟩ => ?_)
  cases c with
  | true => exact hb wh pins s1 σ H1 Q I1 q1
  | false => exact ⟨H1, I1, q1⟩
theorem pw_or (ha : PT X a tA) (hb : PW X (.BoolOp .Or (b :: rest) pos) tB') : PW X (.BoolOp .Or (a :: b :: rest) pos) (tOr tA tB') := by
  intro wh pins s σ H Q I h
  refine isTrue_or (thn (ha pins s σ H _ I h) fun c s1 ⟨H1, I1, q1⟩ => ?_)
  cases c with
  | true => exact ⟨H1, I1, q1⟩
  | false => exact hb wh pins s1 σ H1 Q I1 q1
theorem pt_not (ha : PT X a tA) : PT X (.UnaryOp .Not a pos) (tNot tA) := by
  intro pins s σ H Q I h
  exact isTrue_not (ha pins s σ H (fun c H1 => Q (!c) H1) I h)
def tAndV (ta tb : TE) : TE := fun σ H Q => ta σ H fun x H1 => ∃ c, x = .bl c ∧ if c = true then tb σ H1 Q else Q (.bl false) H1
theorem pe_one {op} {t : TE} (h : PE X a t) : PE X (.BoolOp op [a] pos) t := fun pins s σ H Q I hw => BoolOp_one (h pins s σ H Q I hw)
theorem pe_and (ha : PE X a ta) (hb : PE X (.BoolOp .And (b :: rest) pos) tb) : PE X (.BoolOp .And (a :: b :: rest) pos) (tAndV ta tb) := by
  intro pins s σ H Q I h
  refine BoolOp_and (thn (ha pins s σ H _ I h) fun v s1 ⟨x, H1, I1, r1, q1⟩ => ?_)
  obtain ⟨c, rfl, q1⟩ := q1
  cases r1
  refine wpAny_truthy_bool ?_
  cases c with
  | true => exact hb pins s1 σ H1 Q I1 q1
  | false => exact ⟨.bl false, H1, I1, rfl, q1⟩
def tIf (t : TT) (ta tb : TE) : TE := fun σ H Q => t σ H fun c H1 => if c = true then ta σ H1 Q else tb σ H1 Q
theorem pe_ifExp {c : Expr} (hc : PT X c tA) (ha : PE X a ta) (hb : PE X b tb) : PE X (.IfExp c a b pos) (tIf tA ta tb) := by
  intro pins s σ H Q I h
  refine wpAny_IfExp (thn (hc pins s σ H _ I h) fun d s1 ⟨H1, I1, q1⟩ => ?_)
  cases d with
  | true => exact ha pins s1 σ H1 Q I1 q1
  | false => exact hb pins s1 σ H1 Q I1 q1
end
end L2
namespace L2
open PySem PySem.Spec PyProof.Rows
def SqL (K : PySem.W.Frag) (H : Hp) (a : Addr) (xs : List V) : Prop :=
  Rd H a (.lst xs) ∨
    ∃ (o : Obj) (its : Array Value) (n : Nat), K.lookup a = some o ∧ o.cls = .type "list" ∧ o.dict = none ∧ o.data = .seq its n ∧ its.size ≤ sizeLine ∧ Vals xs its.toList
def SqT (K : PySem.W.Frag) (H : Hp) (a : Addr) (xs : List V) : Prop :=
  Rd H a (.tup xs) ∨
    ∃ (o : Obj) (its : Array Value) (n : Nat), K.lookup a = some o ∧ o.cls = .type "tuple" ∧ o.data = .seq its n ∧ its.size ≤ sizeLine ∧ Vals xs its.toList
def absV : Value → Option V
  | .none => some .non
  | .bool b => some (.bl b)
  | .int i _ => some (.int i)
  | .str x _ => some (.str x)
  | .bytes b _ => some (.byt b)
  | .float b _ => some (.flt b)
  | .ref a => some (.ref a)
  | .type n => some (.ty n)
  | _ => none
theorem RelV.abs {x : V} {u : Value} (r : RelV x u) : absV u = some x := by
  cases x with
  | non => cases r; rfl
  | bl _ => cases r; rfl
  | int _ => obtain ⟨t, rfl⟩ := r; rfl
  | str _ => obtain ⟨t, rfl⟩ := r; rfl
  | byt _ => obtain ⟨t, rfl⟩ := r; rfl
  | flt _ => obtain ⟨t, rfl⟩ := r; rfl
  | ref _ => cases r; rfl
  | ty _ => cases r; rfl
theorem RelV.inj {x y : V} {u : Value} (r : RelV x u) (q : RelV y u) : x = y := Option.some.inj (r.abs.symm.trans q.abs)
theorem Vals.inj : ∀ {xs ys : List V} {us : List Value}, Vals xs us → Vals ys us → xs = ys
  | _, _, _, .nil, .nil => rfl
  | _, _, _, .cons r t, .cons r' t' => by rw [r.inj r', Vals.inj t t']
section
variable {X : Cx} {pins : List (Addr × Obj)} {σ : St} {H : Hp} {s : Shared} {a : Addr} {xs ys : List V}
theorem SqL.of {K : PySem.W.Frag} (h : H a = some (.lst xs)) : SqL K H a xs := .inl (.inl h)
theorem SqT.of {K : PySem.W.Frag} (h : H a = some (.tup xs)) : SqT K H a xs := .inl (.inl h)
theorem Inv.list (I : Inv X pins σ H s) (h : SqL X.K H a xs) : ∃ its : List Value, Vals xs its ∧ PlainL s.heap a its.toArray ∧ xs.length ≤ sizeLine := by
  rcases h with h | ⟨o, its, n, hk, hc, hd, hs, hz, r⟩
  · obtain ⟨z, its, n, r, e⟩ := h.ok I.hok
    exact ⟨its, r, ⟨_, n, e, rfl, rfl, rfl⟩, z⟩
  · refine ⟨its.toList, r, ⟨o, n, I.kIn a o hk, hc, hd, by simpa using hs⟩, ?_⟩
    have e := r.length
    simp only [Array.length_toList] at e
    omega
theorem Inv.tuple (I : Inv X pins σ H s) (h : SqT X.K H a xs) : ∃ its : List Value, Vals xs its ∧ IsTup s.heap a its.toArray ∧ xs.length ≤ sizeLine := by
  rcases h with h | ⟨o, its, n, hk, hc, hs, hz, r⟩
  · obtain ⟨z, its, r, p⟩ := h.ok I.hok
    exact ⟨its, r, p, z⟩
  · refine ⟨its.toList, r, ⟨o, I.kIn a o hk, hc, n, by simpa using hs⟩, ?_⟩
    have e := r.length
    simp only [Array.length_toList] at e
    omega
theorem Inv.list_inj (I : Inv X pins σ H s) (h : SqL X.K H a xs) (h' : SqL X.K H a ys) : xs = ys := by
  obtain ⟨its, r, ⟨o, n, e, _, _, d⟩, _⟩ := I.list h
  obtain ⟨its', r', ⟨o', n', e', _, _, d'⟩, _⟩ := I.list h'
  rw [e] at e'; cases e'
  rw [d] at d'
  injection d' with d1 _
  have : its = its' := by simpa using congrArg Array.toList d1
  subst this
  exact r.inj r'
theorem Inv.tuple_inj (I : Inv X pins σ H s) (h : SqT X.K H a xs) (h' : SqT X.K H a ys) : xs = ys := by
  obtain ⟨its, r, ⟨o, e, _, n, d⟩, _⟩ := I.tuple h
  obtain ⟨its', r', ⟨o', e', _, n', d'⟩, _⟩ := I.tuple h'
  rw [e] at e'; cases e'
  rw [d] at d'
  injection d' with d1 _
  have : its = its' := by simpa using congrArg Array.toList d1
  subst this
  exact r.inj r'
end
abbrev Cx.wish (X : Cx) (E : Value → Shared → Prop) : Cx := { X with xe := E }
abbrev Cx.nox (X : Cx) : Cx := X.wish fun _ _ => False
theorem Cx.Ok.wish {X : Cx} (ok : X.Ok) (E : Value → Shared → Prop) : (X.wish E).Ok :=
  ⟨ok.mod, ok.kind, ok.glob, ok.blt, ok.above, ok.inj, ok.has, ok.cab, ok.hd, ok.frames, ok.stk, ok.exf, ok.bs, ok.bsz, ok.noex, ok.exfs, ok.funs, ok.frf⟩
theorem Cx.Ok.unwish {X : Cx} {E : Value → Shared → Prop} (ok : (X.wish E).Ok) : X.Ok :=
  ⟨ok.mod, ok.kind, ok.glob, ok.blt, ok.above, ok.inj, ok.has, ok.cab, ok.hd, ok.frames, ok.stk, ok.exf, ok.bs, ok.bsz, ok.noex, ok.exfs, ok.funs, ok.frf⟩
section
variable {X : Cx} {pins : List (Addr × Obj)} {σ : St} {H : Hp} {s : Shared} {E : Value → Shared → Prop}
theorem Inv.wish (I : Inv X pins σ H s) (E : Value → Shared → Prop) : Inv (X.wish E) pins σ H s := ⟨I.ok.wish E, I.os, I.bare, I.base, I.loc, I.cell, I.free, I.freeC, I.pin, I.hok, I.len, I.tk⟩
theorem Inv.unwish (I : Inv (X.wish E) pins σ H s) : Inv X pins σ H s := ⟨I.ok.unwish, I.os, I.bare, I.base, I.loc, I.cell, I.free, I.freeC, I.pin, I.hok, I.len, I.tk⟩
theorem SP.unwish {D : Ends} {f : Flow} {s' : Shared} (h : SP (X.wish E) pins D f s') : SP X pins D f s' := by
  cases f with
  | next => obtain ⟨σ', H', I, q⟩ := h; exact ⟨σ', H', I.unwish, q⟩
  | brk => obtain ⟨σ', H', I, q⟩ := h; exact ⟨σ', H', I.unwish, q⟩
  | cont => obtain ⟨σ', H', I, q⟩ := h; exact ⟨σ', H', I.unwish, q⟩
  | ret u => obtain ⟨v, σ', H', I, r, q⟩ := h; exact ⟨v, σ', H', I.unwish, r, q⟩
theorem PSs.nox {st : List Stmt} {t : TS} (h : PSs X.nox st t) : PSs X st t := fun pins s σ H D I hw =>
  wpAny_mono (h pins s σ H D (I.wish _) hw) (fun _ _ q => q.unwish) fun _ _ z => False.elim z
end
section
variable {X : Cx} {st : Stmt} {rest : List Stmt} {t u : TS} {e : Expr} {te : TE} {pos : Pos}
def tNext : TS := fun D σ H => D.nx σ H
def tSeq (t u : TS) : TS := fun D σ H => t { D with nx := u D } σ H
theorem pss_nil : PSs X [] tNext := fun _ _ σ H _ I h => wpAny_execs_nil ⟨σ, H, I, h⟩
theorem pss_cons (h1 : PS X st t) (h2 : PSs X rest u) : PSs X (st :: rest) (tSeq t u) := by
  intro pins s σ H D I h
  refine wpAny_execs_cons (thn (h1 pins s σ H { D with nx := u D } I h) fun f s1 q => ?_)
  cases f with
  | next =>
    obtain ⟨σ', H', I', q⟩ := q
    exact h2 pins s1 σ' H' D I' q
  | ret v => exact q
  | brk => exact q
  | cont => exact q
theorem pss_one (h1 : PS X st t) : PSs X [st] t := by
  intro pins s σ H D I h
  refine wpAny_execs_cons (thn (h1 pins s σ H D I h) fun f s1 q => ?_)
  cases f with
  | next => exact wpAny_execs_nil q
  | ret v => exact q
  | brk => exact q
  | cont => exact q
def tBreak : TS := fun D σ H => D.bk σ H
theorem ps_break : PS X (.Break pos) tBreak := fun _ _ σ H _ I h => wpAny_Break ⟨σ, H, I, h⟩
theorem Inv.quiet {pins : List (Addr × Obj)} {σ : St} {H : Hp} {s : Shared} (I : Inv X pins σ H s) : interactive X.env = false := by simp [interactive, I.ok.kind]
def tDrop (te : TE) : TS := fun D σ H => te σ H fun _ H1 => D.nx σ H1
theorem ps_expr (he : PE X e te) (hs : swapsWith e none pos.line X.env = pure false := by rfl) : PS X (.Expr e pos) (tDrop te) := by
  intro pins s σ H D I h
  exact wpAny_Expr_any (thn (he pins s σ H _ I h) fun v s1 ⟨x, H1, I1, r1, q1⟩ => ⟨σ, H1, I1, q1⟩) I.quiet hs
def tRet (te : TE) : TS := fun D σ H => te σ H D.rt
theorem ps_ret (he : PE X e te) : PS X (.Return (some e) pos) (tRet te) := by
  intro pins s σ H D I h
  exact wpAny_Return_some (thn (he pins s σ H _ I h) fun v s1 ⟨x, H1, I1, r1, q1⟩ => ⟨x, σ, H1, I1, r1, q1⟩)
def tIfS (c : TT) (t u : TS) : TS := fun D σ H => c σ H fun b H1 => if b = true then t D σ H1 else u D σ H1
theorem ps_if {c : Expr} {a b : List Stmt} {tc : TT} (hc : PT X c tc) (ha : PSs X a t) (hb : PSs X b u) : PS X (.If c a b pos) (tIfS tc t u) := by
  intro pins s σ H D I h
  refine wpAny_If (thn (hc pins s σ H _ I h) fun d s1 ⟨H1, I1, q1⟩ => ?_)
  cases d with
  | true => exact ha pins s1 σ H1 D I1 q1
  | false => exact hb pins s1 σ H1 D I1 q1
def tNever : TS := fun _ _ _ => False
theorem ps_never : PS X st tNever := fun _ _ _ _ _ _ h => h.elim
end
abbrev TG := V → St → Hp → (St → Hp → Prop) → Prop
abbrev TGs := List V → St → Hp → (St → Hp → Prop) → Prop
def PG (X : Cx) (target : Expr) (t : TG) : Prop :=
  ∀ (pins : List (Addr × Obj)) (s : Shared) (σ : St) (H : Hp) (v : V) (u : Value) (Q : St → Hp → Prop), Inv X pins σ H s → RelV v u → t v σ H Q →
    wpAny (model X.prog X.w) X.A (assign target X.env u) (fun _ s' => ∃ σ' H', Inv X pins σ' H' s' ∧ Q σ' H') X.xe s
def PGs (X : Cx) (ts : List Expr) (t : TGs) : Prop :=
  ∀ (pins : List (Addr × Obj)) (s : Shared) (σ : St) (H : Hp) (vs : List V) (us : List Value) (Q : St → Hp → Prop), Inv X pins σ H s → Vals vs us → t vs σ H Q →
    wpAny (model X.prog X.w) X.A (assignInOrder ((assignEach ts X.env).map (·.2)) us) (fun _ s' => ∃ σ' H', Inv X pins σ' H' s' ∧ Q σ' H') X.xe s
abbrev TSet := V → V → V → Hp → (Hp → Prop) → Prop
def PSet (X : Cx) (t : TSet) : Prop :=
  ∀ (pins : List (Addr × Obj)) (s : Shared) (σ : St) (H : Hp) (o i v : V) (ov iv u : Value) (Q : Hp → Prop), Inv X pins σ H s → RelV o ov → RelV i iv → RelV v u → t o i v H Q →
    wpAny (model X.prog X.w) X.A (setItem ov iv u) (fun _ s' => ∃ H', Inv X pins σ H' s' ∧ Q H') X.xe s
section
variable {X : Cx} {pos : Pos}
def gName (i : Nat) : TG := fun v σ H Q => Q (σ.set i (some v)) H
theorem pg_name {i : Nat} {x : Str} (hN : X.N.Nodup) (hi : X.N[i]? = some x) (hx : Loc X.env.scope x) (hf : X.fn x = true ∨ X.env.scope.names.lookup x = some .local := by first | exact .inl rfl | exact .inr rfl | assumption) : PG X (.Name x pos) (gName i) := by
  intro pins s σ H v u Q I r h
  exact wpAny_assign_Name (store_ok I hN hi hx r (fun s' I' => ⟨_, H, I', h⟩) hf)
def gNil : TGs := fun vs σ H Q => vs = [] ∧ Q σ H
def gCons (t : TG) (u : TGs) : TGs := fun vs σ H Q => ∃ v r, vs = v :: r ∧ t v σ H fun σ' H' => u r σ' H' Q
theorem pgs_nil : PGs X [] gNil := by
  intro pins s σ H vs us Q I r h
  obtain ⟨e, h⟩ := h
  subst e
  cases r
  exact assignInOrder_nil ⟨σ, H, I, h⟩
theorem pgs_cons {e : Expr} {es : List Expr} {t : TG} {u : TGs} (h1 : PG X e t) (h2 : PGs X es u)
    (hs : (assignEach (e :: es) X.env).map (·.2) = assign e X.env :: (assignEach es X.env).map (·.2) := by rfl) : PGs X (e :: es) (gCons t u) := by
  intro pins s σ H vs us Q I r h
  obtain ⟨v, vr, e1, h⟩ := h
  subst e1
  cases r with
  | cons r rr =>
    rw [hs]
    refine assignInOrder_cons (thn (h1 pins s σ H _ _ _ I r h) fun _ s1 ⟨σ1, H1, I1, q1⟩ => ?_)
    exact h2 pins s1 σ1 H1 _ _ Q I1 rr q1
def gTup (K : PySem.W.Frag) (n : Nat) (t : TGs) : TG := fun v σ H Q => ∃ a xs, v = .ref a ∧ SqT K H a xs ∧ xs.length = n ∧ t xs σ H Q
theorem pg_tup {es : List Expr} {k : Nat} {t : TGs} {n : Nat} (hc : X.calm = true) (h : PGs X es t)
    (hn : (assignEach es X.env).length = n := by rfl) (hst : (assignEach es X.env).findIdx? (·.1) = none := by rfl) : PG X (.Tuple es k pos) (gTup X.K n t) := by
  intro pins s σ H v u Q I r hw
  obtain ⟨a, xs, e1, hq, hl, hw⟩ := hw
  subst e1
  cases r
  obtain ⟨its, rv, ht, hz⟩ := I.tuple hq
  refine assign_Tuple_tuple (I.ok.hd hc) ht (by simp [hn, ← hl, rv.length]) hst fun h' hx => ?_
  have I1 : Inv X pins σ H { s with heap := h' } := I.kept (t' := s.toks) fun b o e => hx b o (Nat.ne_of_lt (Heap.lt_size e)) e
  exact h pins _ σ H xs _ Q I1 (by simpa using rv) hw
def gSub (to ti : TE) (t : TSet) : TG := fun v σ H Q => to σ H fun o H1 => ti σ H1 fun i H2 => t o i v H2 fun H3 => Q σ H3
theorem pg_sub {o i : Expr} {to ti : TE} {t : TSet} (ho : PE X o to) (hi : PE X i ti) (hs : PSet X t)
    (ha : ∀ v, assign (.Subscript o i pos) X.env v = (do
      let ov ← holding [v] (eval o X.env)
      let iv ← holding [v, ov] (eval i X.env)
      standAt pos
      holding [v, ov, iv] (setItem ov iv v)
      release [v, ov, iv] []) := by intro _; rfl) : PG X (.Subscript o i pos) (gSub to ti t) := by
  intro pins s σ H v u Q I r h
  rw [ha]
  refine wpAny_bind (wpAny_holding (thn (ho pins s σ H _ I h) fun ov s1 ⟨x, H1, I1, r1, q1⟩ => ?_))
  refine wpAny_bind (wpAny_holding (thn (hi pins s1 σ H1 _ I1 q1) fun iv s2 ⟨y, H2, I2, r2, q2⟩ => ?_))
  refine wpAny_bind (wpAny_standAt (wpAny_bind (wpAny_holding (thn (hs pins s2 σ H2 x y v ov iv u _ I2 r1 r2 r q2) fun _ s3 ⟨H3, I3, q3⟩ => ?_))))
  exact wpAny_release ⟨σ, H3, I3, q3⟩
def tAsg (te : TE) (g : TG) : TS := fun D σ H => te σ H fun x H1 => g x σ H1 D.nx
theorem ps_asg {tg e : Expr} {te : TE} {g : TG} (he : PE X e te) (hg : PG X tg g) (hs : swapsWithSole [tg] e pos.line X.env = pure false := by rfl) (hw : swappedStores [tg] e X.env = pure none := by rfl)
    (h1 : (assignEach [tg] X.env).map (·.2) = [assign tg X.env] := by rfl) : PS X (.Assign [tg] e pos) (tAsg te g) := by
  intro pins s σ H D I h
  refine wpAny_Assign_stores (thn (he pins s σ H _ I h) fun v s1 ⟨x, H1, I1, r1, q1⟩ => ?_) hs hw
  rw [h1]
  exact thn (hg pins s1 σ H1 x v _ I1 r1 q1) fun _ s2 q => q
theorem ps_set {i : Nat} {x : Str} {e : Expr} {te : TE} {pos' : Pos} (hN : X.N.Nodup) (hi : X.N[i]? = some x) (hx : Loc X.env.scope x) (he : PE X e te) (hs : swapsWith e (some (.Name x pos')) pos.line X.env = pure false := by rfl) (hf : X.fn x = true ∨ X.env.scope.names.lookup x = some .local := by first | exact .inl rfl | exact .inr rfl | assumption) :
    PS X (.Assign [.Name x pos'] e pos) (tAsg te (gName i)) := by
  intro pins s σ H D I h
  refine wpAny_Assign_Name (thn (he pins s σ H _ I h) fun v s1 ⟨y, H1, I1, r1, q1⟩ => ?_) hs
  exact store_ok I1 hN hi hx r1 (fun s2 I2 => ⟨_, H1, I2, q1⟩) hf
end
section
variable {X : Cx} {pos : Pos}
def tWhile (c : TT) (tb : TS) : TS := fun D σ H => ∃ W : Nat → St → Hp → Prop, (∃ m, W m σ H) ∧ ∀ m σ H, W m σ H →
  c σ H fun b H1 => if b = true then ∃ N : St → Hp → Prop, (∀ σ' H', N σ' H' → ∃ m', m' < m ∧ W m' σ' H') ∧ tb { D with nx := N, ct := N, bk := D.nx } σ H1 else D.nx σ H1
theorem ps_while {c : Expr} {body : List Stmt} {tc : TT} {tb : TS} (hp : PassesOwn (model X.prog X.w) X.A X.env X.xe) (hc : PT X c tc) (hb : PSs X body tb) : PS X (.While c body [] pos) (tWhile tc tb) := by
  intro pins s σ H D I h
  obtain ⟨W, ⟨m0, w0⟩, turn⟩ := h
  refine wpAny_While (codeAny_whileLoop (fun n s' => ∃ σ' H', Inv X pins σ' H' s' ∧ W n σ' H') ?_ m0 ⟨σ, H, I, w0⟩)
  rintro n s1 ⟨σ1, H1, I1, w1⟩
  refine wpAny_passesOwn hp (thn (hc pins s1 σ1 H1 _ I1 (turn n σ1 H1 w1)) fun b s2 ⟨H2, I2, q2⟩ => ?_)
  cases b with
  | true =>
    obtain ⟨N, hN, q2⟩ := q2
    rw [if_pos rfl]
    refine wpAny_passesOwn hp (thn (hb pins s2 σ1 H2 _ I2 q2) fun f s3 q3 => ?_)
    cases f with
    | next =>
      obtain ⟨σ3, H3, I3, n3⟩ := q3
      obtain ⟨m', hm, w3⟩ := hN σ3 H3 n3
      exact ⟨m', hm, σ3, H3, I3, w3⟩
    | cont =>
      obtain ⟨σ3, H3, I3, n3⟩ := q3
      obtain ⟨m', hm, w3⟩ := hN σ3 H3 n3
      exact ⟨m', hm, σ3, H3, I3, w3⟩
    | brk => exact q3
    | ret v => exact q3
  | false =>
    rw [if_neg Bool.false_ne_true]
    exact wpAny_execs_nil ⟨σ1, H2, I2, q2⟩
end
structure It where
  go : Nat → Hp → Prop
  yld : Nat → Hp → V → Hp → Prop
  stop : Nat → Hp → Prop
def FpOk (X : Cx) (pins : List (Addr × Obj)) (H : Hp) (b : Addr) : Prop :=
  H b = none ∧ b ≠ X.env.locals ∧ b ∉ X.fs ∧ (b ∈ X.ex ∨ X.s₀.heap.objs.size ≤ b) ∧ (∀ x c, X.env.cells.lookup x = some c → c ≠ b) ∧ ∀ p ∈ X.pn ++ pins, p.1 ≠ b
theorem Inv.fpOk {X : Cx} {pins : List (Addr × Obj)} {σ : St} {H H' : Hp} {s : Shared} {b : Addr} (I : Inv X pins σ H s) (hb : s.heap.objs.size ≤ b) (hn : H' b = none) : FpOk X pins H' b := by
  refine ⟨hn, Nat.ne_of_gt (Nat.lt_of_lt_of_le I.lt hb), I.nofs hb, .inr (Nat.le_trans I.sz hb), fun x c e z => ?_, fun p hp z => ?_⟩
  · obtain ⟨v, q⟩ := I.cell x c e
    exact absurd (Nat.lt_of_lt_of_le q.lt (by rw [z]; exact hb)) (Nat.lt_irrefl _)
  · exact absurd (Nat.lt_of_lt_of_le (Heap.lt_size (I.pin p hp).1) (by rw [z]; exact hb)) (Nat.lt_irrefl _)
structure Turn (P : Program) (w : World) (K : PySem.W.Frag) (tg : Expr) (J : It) (fp : List Addr) (it : Addr) (tn : Nat → Heap → Prop) : Prop where
  mem : it ∈ fp
  obj : ∀ i h, tn i h → ∀ b ∈ fp, ∃ o, h.get? b = some o ∧ ∀ v, o.data ≠ .cell v
  keep : ∀ i h h', tn i h → (∀ b ∈ fp, ∀ o, h.get? b = some o → h'.get? b = some o) → tn i h'
  item : ∀ (X : Cx), X.prog = P → X.w = w → X.K = K → X.calm = true → ∀ (i : Nat) (pins : List (Addr × Obj)) (s : Shared) (σ : St) (H : Hp) (E : Value → Shared → Prop), Inv X pins σ H s → (∀ b ∈ fp, FpOk X pins H b) → tn i s.heap → J.go i H →
    wpAny (model P w) X.A (pyNext (.ref it)) (fun r s1 => ∃ u, r = some u ∧
      wpAny (model P w) X.A (letOwnedTupleGo tg (.ref it) u) (fun _ s2 => ∃ x H', Inv X pins σ H' s2 ∧ RelV x u ∧ J.yld i H x H' ∧ tn (i + 1) s2.heap ∧ ∀ b ∈ fp, H' b = none) E s1) E s
  done : ∀ (X : Cx), X.prog = P → X.w = w → X.K = K → X.calm = true → ∀ (i : Nat) (pins : List (Addr × Obj)) (s : Shared) (σ : St) (H : Hp) (E : Value → Shared → Prop), Inv X pins σ H s → (∀ b ∈ fp, FpOk X pins H b) → tn i s.heap → J.stop i H →
    wpAny (model P w) X.A (pyNext (.ref it)) (fun r s1 => r = none ∧ Inv X pins σ H s1) E s
  self : ∀ (A : Around) (i : Nat) (s : Shared) (Q : Value → Shared → Prop) (E : Value → Shared → Prop), tn i s.heap → Q (.ref it) s → wpAny (model P w) A (pyIter (.ref it)) Q E s
abbrev TI := St → Hp → (It → Hp → Prop) → Prop
def PIE (X : Cx) (pins : List (Addr × Obj)) (σ : St) (tg : Expr) (R : It → Hp → Prop) (itv : Value) (s2 : Shared) : Prop :=
  ∃ (it : Addr) (fp : List Addr) (tn : Nat → Heap → Prop) (J : It) (H' : Hp), itv = .ref it ∧ Inv X pins σ H' s2 ∧ Turn X.prog X.w X.K tg J fp it tn ∧ tn 0 s2.heap ∧ (∀ b ∈ fp, FpOk X pins H' b) ∧ R J H'
def PI (X : Cx) (tg iter : Expr) (wi : TI) : Prop :=
  ∀ (pins : List (Addr × Obj)) (s : Shared) (σ : St) (H : Hp) (R : It → Hp → Prop), Inv X pins σ H s → wi σ H R →
    wpAny (model X.prog X.w) X.A (eval iter X.env) (fun v s1 => wpAny (model X.prog X.w) X.A (pyIter v) (PIE X pins σ tg R) X.xe s1) X.xe s
theorem go_of {M : Model} {A : Around} {E : Value → Shared → Prop} {s : Shared} {tg : Expr} {it : Addr} {u : Value} {o : Obj} {n : String} {vs : Array Value} {Q : Unit → Shared → Prop} (ho : s.heap.get? it = some o) (hc : o.cls = .type n) (hd : o.data = .fields vs)
    (hn : ["enumerate", "zip", "dict_itemiterator", "dict_reverseitemiterator", "odict_iterator", "itertools.zip_longest", "itertools.pairwise"].contains n = false) (hQ : Q () s) : wpAny M A (letOwnedTupleGo tg (.ref it) u) Q E s := by
  unfold letOwnedTupleGo
  cases tg <;> first
    | exact wpAny_pure hQ
    | (cases u <;> first
        | exact wpAny_pure hQ
        | (refine wpAny_bind (wpAny_load ho ?_)
           rw [hc, hd]
           show wpAny M A (if (["enumerate", "zip", "dict_itemiterator", "dict_reverseitemiterator", "odict_iterator", "itertools.zip_longest", "itertools.pairwise"].contains n && vs[0]? == some (rawInt _)) = true then _ else _) Q E s
           rw [if_neg (by intro h; rw [hn, Bool.false_and] at h; cases h)]
           exact wpAny_pure hQ))
def Itl (K : PySem.W.Frag) (a : Addr) : It :=
  ⟨fun i H => ∃ xs x, SqL K H a xs ∧ xs[i]? = some x, fun i H x H' => H' = H ∧ ∀ xs, SqL K H a xs → xs[i]? = some x, fun i H => ∃ xs, SqL K H a xs ∧ xs.length ≤ i⟩
def Itt (K : PySem.W.Frag) (a : Addr) : It :=
  ⟨fun i H => ∃ xs x, SqT K H a xs ∧ xs[i]? = some x, fun i H x H' => H' = H ∧ ∀ xs, SqT K H a xs → xs[i]? = some x, fun i H => ∃ xs, SqT K H a xs ∧ xs.length ≤ i⟩
def Itr (lo : Int) (n : Nat) : It := ⟨fun i _ => i < n, fun i H x H' => H' = H ∧ x = .int (lo + i), fun i _ => n ≤ i⟩
theorem turn_list {P : Program} {w : World} {K : PySem.W.Frag} {tg : Expr} (a it : Addr) : Turn P w K tg (Itl K a) [it] it (fun i h => h.IsListIter it a i) where
  mem := by simp
  obj := fun i h st b hb => by
    have e : b = it := by simpa using hb
    subst e
    obtain ⟨o, e, c, d⟩ := st
    exact ⟨o, e, fun v z => by rw [d] at z; cases z⟩
  keep := fun i h h' st k => st.at fun o e => k it (by simp) o e
  item := by
    intro X hP hw hK hc i pins s σ H E I hf st hg
    subst hP hw hK
    obtain ⟨xs, x, hq, hx⟩ := hg
    obtain ⟨its, rv, p, hz⟩ := I.list hq
    obtain ⟨u, hu, ru⟩ := rv.get hx
    obtain ⟨f0, f1, f2, f3, f4, f5⟩ := hf it (by simp)
    refine wpAny_pyNext_list_item st p.isList (x := u) (by simpa using hu) fun h' st' sb => ?_
    have I1 : Inv X pins σ H { s with heap := h' } := I.turned (t' := s.toks) (fun b o hb e => (sb.2 b hb).trans e) f0 f1 f3 f4 f5
    obtain ⟨o, e, c, d⟩ := id st'
    exact ⟨u, rfl, go_of (s := { s with heap := h' }) e c d (by decide) ⟨x, H, I1, ru, ⟨rfl, fun ys hy => by rw [I.list_inj hy hq]; exact hx⟩, st', fun b hb => (hf b hb).1⟩⟩
  done := by
    intro X hP hw hK hc i pins s σ H E I hf st hg
    subst hP hw hK
    obtain ⟨xs, hq, hx⟩ := hg
    obtain ⟨its, rv, p, hz⟩ := I.list hq
    obtain ⟨f0, f1, f2, f3, f4, f5⟩ := hf it (by simp)
    have hl := rv.length
    exact wpAny_pyNext_list_end (I.ok.hd hc) st p.isList (by simp; omega) fun h' eb => ⟨rfl, I.turned (t' := s.toks) (fun b o hb e => eb b o hb e) f0 f1 f3 f4 f5⟩
  self := fun _ _ _ _ _ st h => wpAny_pyIter_listiter st h
theorem turn_tuple {P : Program} {w : World} {K : PySem.W.Frag} {tg : Expr} (a it : Addr) : Turn P w K tg (Itt K a) [it] it (fun i h => h.IsTupleIter it a i) where
  mem := by simp
  obj := fun i h st b hb => by
    have e : b = it := by simpa using hb
    subst e
    obtain ⟨o, e, c, d⟩ := st
    exact ⟨o, e, fun v z => by rw [d] at z; cases z⟩
  keep := fun i h h' st k => st.at fun o e => k it (by simp) o e
  item := by
    intro X hP hw hK hc i pins s σ H E I hf st hg
    subst hP hw hK
    obtain ⟨xs, x, hq, hx⟩ := hg
    obtain ⟨its, rv, p, hz⟩ := I.tuple hq
    obtain ⟨u, hu, ru⟩ := rv.get hx
    obtain ⟨f0, f1, f2, f3, f4, f5⟩ := hf it (by simp)
    refine wpAny_pyNext_tuple_item st (show s.heap.IsTuple a its.toArray from p) (x := u) (by simpa using hu) fun h' st' sb => ?_
    have I1 : Inv X pins σ H { s with heap := h' } := I.turned (t' := s.toks) (fun b o hb e => (sb.2 b hb).trans e) f0 f1 f3 f4 f5
    obtain ⟨o, e, c, d⟩ := id st'
    exact ⟨u, rfl, go_of (s := { s with heap := h' }) e c d (by decide) ⟨x, H, I1, ru, ⟨rfl, fun ys hy => by rw [I.tuple_inj hy hq]; exact hx⟩, st', fun b hb => (hf b hb).1⟩⟩
  done := by
    intro X hP hw hK hc i pins s σ H E I hf st hg
    subst hP hw hK
    obtain ⟨xs, hq, hx⟩ := hg
    obtain ⟨its, rv, p, hz⟩ := I.tuple hq
    obtain ⟨f0, f1, f2, f3, f4, f5⟩ := hf it (by simp)
    have hl := rv.length
    exact wpAny_pyNext_tuple_end (I.ok.hd hc) st (show s.heap.IsTuple a its.toArray from p) (by simp; omega) fun h' eb => ⟨rfl, I.turned (t' := s.toks) (fun b o hb e => eb b o hb e) f0 f1 f3 f4 f5⟩
  self := fun _ _ _ _ _ st h => wpAny_pyIter_tupleiter st h
theorem turn_range {P : Program} {w : World} {K : PySem.W.Frag} {tg : Expr} (it : Addr) (lo : Int) (n : Nat) : Turn P w K tg (Itr lo n) [it] it (fun i h => IsRangeIter h it (lo + (i : Nat) * 1) ((n : Int) - (i : Nat)) 1) where
  mem := by simp
  obj := fun i h st b hb => by
    have e : b = it := by simpa using hb
    subst e
    exact ⟨_, st, fun v z => by
      have z' : Data.fields _ = Data.cell v := z
      cases z'⟩
  keep := fun i h h' st k => k it (by simp) _ st
  item := by
    intro X hP hw hK hc i pins s σ H E I hf st hg
    subst hP hw hK
    obtain ⟨f0, f1, f2, f3, f4, f5⟩ := hf it (by simp)
    have W := Walks.range (prog := X.prog) (w := X.w) (I.ok.hd hc) it lo 1 n
    refine wpAny_with_toks (n := 1) I.tk (W.item i s _ _ hg st fun v h' tk hv st' kk ht => ?_)
    have ht : 0 < tk := ht
    obtain ⟨t, rfl⟩ := hv
    have I1 : Inv X pins σ H { s with heap := h', toks := tk } := I.turned (fun b o hb e => kk b o (by simpa using hb) e) f0 f1 f3 f4 f5
    refine ⟨_, rfl, go_of (s := { s with heap := h', toks := tk }) (n := "range_iterator") st' rfl rfl (by decide) ⟨.int (lo + i), H, I1, ⟨t, ?_⟩, ⟨rfl, rfl⟩, st', fun b hb => (hf b hb).1⟩⟩
    rw [Int.mul_one]
  done := by
    intro X hP hw hK hc i pins s σ H E I hf st hg
    subst hP hw hK
    obtain ⟨f0, f1, f2, f3, f4, f5⟩ := hf it (by simp)
    exact wpAny_pyNext_range_end (I.ok.hd hc) st (by have : n ≤ i := hg; omega) fun h' eb => ⟨rfl, I.turned (t' := s.toks) (fun b o hb e => eb b o hb e) f0 f1 f3 f4 f5⟩
  self := fun _ _ _ _ _ st h => wpAny_pyIter_rangeiter st h
end L2
namespace L2
open PySem PySem.Spec PyProof.Rows
section
variable {X : Cx} {tg : Expr}
theorem range_it {pins : List (Addr × Obj)} {σ : St} {H : Hp} {s : Shared} {R : It → Hp → Prop} {E : Value → Shared → Prop} {lo hi : Int} {t u v : Tok} {tk : Nat} (I : Inv X pins σ H s) (h1 : -(2 ^ 62) ≤ lo) (h2 : lo < 2 ^ 62) (h3 : -(2 ^ 62) ≤ hi) (h4 : hi < 2 ^ 62)
    (q : R (Itr lo (hi - lo).toNat) H) (ht : 0 < tk := by first | exact Nat.succ_pos _ | assumption | exact Inv.tk ‹_› | omega) : wpAny (model X.prog X.w) X.A (pyIter (.ref s.heap.objs.size)) (PIE X pins σ tg R) E { s with heap := s.heap.push { cls := .type "range", data := .fields #[.int lo t, .int hi u, .int 1 v] }, toks := tk } := by
  refine wpAny_pyIter_range (IsRange.new ..) (small_one h1 h2 h3 h4) ?_
  have I1 : Inv X pins σ H { s with heap := s.heap.push { cls := .type "range", data := .fields #[.int lo t, .int hi u, .int 1 v] }, toks := tk } := I.kept fun b o e => Heap.get?_push_of_some _ e
  refine ⟨(s.heap.push { cls := .type "range", data := .fields #[.int lo t, .int hi u, .int 1 v] }).objs.size, [(s.heap.push { cls := .type "range", data := .fields #[.int lo t, .int hi u, .int 1 v] }).objs.size], _, _, H, rfl,
    I1.kept (t' := tk) fun b o e => Heap.get?_push_of_some _ e, turn_range _ lo (hi - lo).toNat, ?_, fun b hb => ?_, q⟩
  · have e1 : lo + ((0 : Nat) : Int) * 1 = lo := by simp
    have e2 : (((hi - lo).toNat : Nat) : Int) - ((0 : Nat) : Int) = Builtin.Range.rangeSize lo hi 1 := by rw [rangeSize_one]; split <;> omega
    show IsRangeIter _ _ (lo + ((0 : Nat) : Int) * 1) ((((hi - lo).toNat : Nat) : Int) - ((0 : Nat) : Int)) 1
    rw [e1, e2]
    exact Heap.get?_push_size _ rfl
  · have e : b = (s.heap.push { cls := .type "range", data := .fields #[.int lo t, .int hi u, .int 1 v] }).objs.size := by simpa using hb
    subst e
    exact I1.fpOk (Nat.le_refl _) (I1.hok.fresh (Nat.le_refl _))
def iRng1 (ta : TA) : TI := fun σ H R => ta σ H fun vs H1 => ∃ j : Int, vs = [.int j] ∧ -(2 ^ 62) ≤ j ∧ j < 2 ^ 62 ∧ R (Itr 0 j.toNat) H1
theorem pi_range1 {a : Expr} {ta : TA} {p pos : Pos} (hg : Gl X "range") (hm : X.mg "range" = none) (ha : PA X [a] ta) (hs : starEach [a] X.env = [(false, eval a X.env)] := by rfl) : PI X tg (.Call (.Name "range" p) [a] [] pos) (iRng1 ta) := by
  intro pins s σ H R I h
  refine Call_ (ld_blt I hg hm boot_range (PyProof.Rows.callWith_type1 (thn (ha pos pins s σ H _ I h) fun us s1 ⟨vs, H1, I1, r1, q1⟩ => ?_) hs rfl))
  obtain ⟨j, e, q1, q2, q⟩ := q1
  subst e
  cases r1 with
  | cons r rr =>
    cases rr
    obtain ⟨t, rfl⟩ := r
    exact call_range_1 (range_it I1 (by omega) (by omega) q1 q2 (by simpa using q))
def tFor (wi : TI) (g : TG) (tb : TS) : TS := fun D σ H => wi σ H fun J H1 => ∃ W : Nat → Nat → St → Hp → Prop, (∃ m, W 0 m σ H1) ∧ ∀ i m σ H, W i m σ H →
  (J.stop i H ∧ D.nx σ H) ∨ (J.go i H ∧ ∃ N : St → Hp → Prop, (∀ σ' H', N σ' H' → ∃ m', m' < m ∧ W (i + 1) m' σ' H') ∧ ∀ x H', J.yld i H x H' → g x σ H' fun σ2 H2 => tb { D with nx := N, ct := N, bk := D.nx } σ2 H2)
def pinsAt (fp : List Addr) (h : Heap) : List (Addr × Obj) := fp.filterMap fun b => (h.get? b).map fun o => (b, o)
theorem mem_pinsAt {fp : List Addr} {h : Heap} {b : Addr} {o : Obj} (hb : b ∈ fp) (e : h.get? b = some o) : (b, o) ∈ pinsAt fp h := List.mem_filterMap.mpr ⟨b, hb, by rw [e]; rfl⟩
theorem of_pinsAt {fp : List Addr} {h : Heap} {p : Addr × Obj} (hp : p ∈ pinsAt fp h) : p.1 ∈ fp ∧ h.get? p.1 = some p.2 := by
  obtain ⟨b, hb, e⟩ := List.mem_filterMap.mp hp
  cases q : h.get? b with
  | none => rw [q] at e; cases e
  | some o =>
    rw [q] at e
    have e' : (b, o) = p := Option.some.inj e
    subst e'
    exact ⟨hb, q⟩
theorem Inv.pinned {pins : List (Addr × Obj)} {σ : St} {H : Hp} {s : Shared} {fp : List Addr} (I : Inv X pins σ H s) (hf : ∀ b ∈ fp, FpOk X pins H b) (ho : ∀ b ∈ fp, ∃ o, s.heap.get? b = some o ∧ ∀ v, o.data ≠ .cell v) : Inv X (pins ++ pinsAt fp s.heap) σ H s :=
  I.pins_of fun p hp => (List.mem_append.mp hp).elim (fun z => I.pin p (List.mem_append_right _ z)) fun z => by
    obtain ⟨hb, e⟩ := of_pinsAt z
    obtain ⟨f0, f1, f2, _⟩ := hf p.1 hb
    obtain ⟨o, e', d⟩ := ho p.1 hb
    rw [e] at e'; cases e'
    exact ⟨e, f0, f1, f2, d⟩
theorem Inv.unpinned {pins pl : List (Addr × Obj)} {σ : St} {H : Hp} {s : Shared} (I : Inv X (pins ++ pl) σ H s) : Inv X pins σ H s := I.pins_of fun p hp => I.pin p (List.mem_append_right _ (List.mem_append_left _ hp))
theorem ps_for {iter : Expr} {body : List Stmt} {wi : TI} {g : TG} {tb : TS} {pos : Pos} (hp : PassesOwn (model X.prog X.w) X.A X.env X.xe) (hc : X.calm = true) (hi : PI X tg iter wi) (hg : PG X tg g) (hb : PSs X body tb)
    (hs : ∀ x, foldedSetIterable iter X.env x = pure x := by intro _; rfl) : PS X (.For tg iter body [] pos) (tFor wi g tb) := by
  intro pins s σ H D I h
  refine wpAny_For (thn (hi pins s σ H _ I h) fun v s1 h1 => thn h1 fun itv s2 h2 => ?_) hs
  obtain ⟨it, fp, tn, J, H2, e, I2, T, st2, f2, W, ⟨m0, w0⟩, turn⟩ := h2
  subst e
  have stat : ∀ {H' : Hp}, (∀ b ∈ fp, H' b = none) → ∀ b ∈ fp, FpOk X pins H' b := fun hn b hb => ⟨hn b hb, (f2 b hb).2⟩
  refine codeAny_forLoop_any (fun n s' => ∃ i σ' H', Inv X pins σ' H' s' ∧ tn i s'.heap ∧ (∀ b ∈ fp, H' b = none) ∧ W i n σ' H') ?_ m0 ⟨0, σ, H2, I2, st2, fun b hb => (f2 b hb).1, w0⟩
  rintro n s3 ⟨i, σ3, H3, I3, st3, fr3, w3⟩
  rcases turn i n σ3 H3 w3 with ⟨stop, qn⟩ | ⟨go, N, hN, step⟩
  · refine wpAny_passesOwn hp (thn (T.done X rfl rfl rfl hc i pins s3 σ3 H3 X.xe I3 (stat fr3) st3 stop) fun r s4 ⟨hr, I4⟩ => ?_)
    subst hr
    exact wpAny_execs_nil ⟨σ3, H3, I4, qn⟩
  · refine wpAny_passesOwn hp (thn (T.item X rfl rfl rfl hc i pins s3 σ3 H3 X.xe I3 (stat fr3) st3 go) fun r s4 ⟨u, hr, h4⟩ => ?_)
    subst hr
    refine wpAny_passesOwn hp (thn h4 fun _ s5 ⟨x, H5, I5, r5, y5, st5, fr5⟩ => ?_)
    have I5' := I5.pinned (stat fr5) (T.obj _ _ st5)
    refine wpAny_passesOwn hp (thn (hg _ s5 σ3 H5 x u _ I5' r5 (step x H5 y5)) fun _ s6 ⟨σ6, H6, I6, q6⟩ => ?_)
    refine wpAny_passesOwn hp (thn (hb _ s6 σ6 H6 _ I6 q6) fun f s7 q7 => ?_)
    have again : ∀ {σ7 : St} {H7 : Hp}, Inv X (pins ++ pinsAt fp s5.heap) σ7 H7 s7 → N σ7 H7 → ∃ m, m < n ∧ ∃ i σ' H', Inv X pins σ' H' s7 ∧ tn i s7.heap ∧ (∀ b ∈ fp, H' b = none) ∧ W i m σ' H' := fun {σ7 H7} I7 n7 => by
      obtain ⟨m', hm, w7⟩ := hN σ7 H7 n7
      refine ⟨m', hm, i + 1, σ7, H7, I7.unpinned, T.keep _ _ _ st5 fun b hb o e => (I7.pin (b, o) (List.mem_append_right _ (List.mem_append_right _ (mem_pinsAt hb e)))).1, fun b hb => ?_, w7⟩
      obtain ⟨o, e, d⟩ := T.obj _ _ st5 b hb
      exact (I7.pin (b, o) (List.mem_append_right _ (List.mem_append_right _ (mem_pinsAt hb e)))).2.1
    cases f with
    | next => obtain ⟨σ7, H7, I7, n7⟩ := q7; exact again I7 n7
    | cont => obtain ⟨σ7, H7, I7, n7⟩ := q7; exact again I7 n7
    | brk => obtain ⟨σ7, H7, I7, q7⟩ := q7; exact ⟨σ7, H7, I7.unpinned, q7⟩
    | ret v => obtain ⟨x7, σ7, H7, I7, r7, q7⟩ := q7; exact ⟨x7, σ7, H7, I7.unpinned, r7, q7⟩
end
@[reducible] def PAt {α : Type} (P : Nat → α → Hp → Prop) (i : Nat) : α → Hp → Prop := P i
theorem for_list {K : PySem.W.Frag} {a : Addr} {xs : List V} {g : TG} {tb : TS} {D : Ends} {σ : St} {H : Hp} (Pv : Nat → St → Hp → Prop) (h0 : Pv 0 σ H) (hl : ∀ i σ H, i ≤ xs.length → Pv i σ H → SqL K H a xs)
    (hs : ∀ i x σ H, xs[i]? = some x → Pv i σ H → g x σ H fun σ2 H2 => tb { D with nx := PAt Pv (i + 1), ct := PAt Pv (i + 1), bk := D.nx } σ2 H2) (hd : ∀ σ H, Pv xs.length σ H → D.nx σ H) :
    ∃ W : Nat → Nat → St → Hp → Prop, (∃ m, W 0 m σ H) ∧ ∀ i m σ H, W i m σ H →
      ((Itl K a).stop i H ∧ D.nx σ H) ∨ ((Itl K a).go i H ∧ ∃ N : St → Hp → Prop, (∀ σ' H', N σ' H' → ∃ m', m' < m ∧ W (i + 1) m' σ' H') ∧ ∀ x H', (Itl K a).yld i H x H' → g x σ H' fun σ2 H2 => tb { D with nx := N, ct := N, bk := D.nx } σ2 H2) := by
  refine ⟨fun i m σ H => m = xs.length - i ∧ i ≤ xs.length ∧ Pv i σ H, ⟨xs.length, by simp, Nat.zero_le _, h0⟩, ?_⟩
  rintro i m σ H ⟨rfl, hi, p⟩
  have q := hl i σ H hi p
  by_cases hlt : i < xs.length
  · refine .inr ⟨⟨xs, xs[i], q, by simp [hlt]⟩, Pv (i + 1), fun σ' H' p' => ⟨xs.length - (i + 1), by omega, rfl, hlt, p'⟩, fun x H' y => ?_⟩
    obtain ⟨e, y⟩ := y
    subst e
    exact hs i x σ _ (y xs q) p
  · have e : i = xs.length := by omega
    subst e
    exact .inl ⟨⟨xs, q, Nat.le_refl _⟩, hd σ H p⟩
theorem for_tup {K : PySem.W.Frag} {a : Addr} {xs : List V} {g : TG} {tb : TS} {D : Ends} {σ : St} {H : Hp} (Pv : Nat → St → Hp → Prop) (h0 : Pv 0 σ H) (hl : ∀ i σ H, i ≤ xs.length → Pv i σ H → SqT K H a xs)
    (hs : ∀ i x σ H, xs[i]? = some x → Pv i σ H → g x σ H fun σ2 H2 => tb { D with nx := PAt Pv (i + 1), ct := PAt Pv (i + 1), bk := D.nx } σ2 H2) (hd : ∀ σ H, Pv xs.length σ H → D.nx σ H) :
    ∃ W : Nat → Nat → St → Hp → Prop, (∃ m, W 0 m σ H) ∧ ∀ i m σ H, W i m σ H →
      ((Itt K a).stop i H ∧ D.nx σ H) ∨ ((Itt K a).go i H ∧ ∃ N : St → Hp → Prop, (∀ σ' H', N σ' H' → ∃ m', m' < m ∧ W (i + 1) m' σ' H') ∧ ∀ x H', (Itt K a).yld i H x H' → g x σ H' fun σ2 H2 => tb { D with nx := N, ct := N, bk := D.nx } σ2 H2) := by
  refine ⟨fun i m σ H => m = xs.length - i ∧ i ≤ xs.length ∧ Pv i σ H, ⟨xs.length, by simp, Nat.zero_le _, h0⟩, ?_⟩
  rintro i m σ H ⟨rfl, hi, p⟩
  have q := hl i σ H hi p
  by_cases hlt : i < xs.length
  · refine .inr ⟨⟨xs, xs[i], q, by simp [hlt]⟩, Pv (i + 1), fun σ' H' p' => ⟨xs.length - (i + 1), by omega, rfl, hlt, p'⟩, fun x H' y => ?_⟩
    obtain ⟨e, y⟩ := y
    subst e
    exact hs i x σ _ (y xs q) p
  · have e : i = xs.length := by omega
    subst e
    exact .inl ⟨⟨xs, q, Nat.le_refl _⟩, hd σ H p⟩
theorem for_range {lo : Int} {n : Nat} {g : TG} {tb : TS} {D : Ends} {σ : St} {H : Hp} (Pv : Nat → St → Hp → Prop) (h0 : Pv 0 σ H)
    (hs : ∀ i σ H, i < n → Pv i σ H → g (.int (lo + i)) σ H fun σ2 H2 => tb { D with nx := PAt Pv (i + 1), ct := PAt Pv (i + 1), bk := D.nx } σ2 H2) (hd : ∀ σ H, Pv n σ H → D.nx σ H) :
    ∃ W : Nat → Nat → St → Hp → Prop, (∃ m, W 0 m σ H) ∧ ∀ i m σ H, W i m σ H →
      ((Itr lo n).stop i H ∧ D.nx σ H) ∨ ((Itr lo n).go i H ∧ ∃ N : St → Hp → Prop, (∀ σ' H', N σ' H' → ∃ m', m' < m ∧ W (i + 1) m' σ' H') ∧ ∀ x H', (Itr lo n).yld i H x H' → g x σ H' fun σ2 H2 => tb { D with nx := N, ct := N, bk := D.nx } σ2 H2) := by
  refine ⟨fun i m σ H => m = n - i ∧ i ≤ n ∧ Pv i σ H, ⟨n, by simp, Nat.zero_le _, h0⟩, ?_⟩
  rintro i m σ H ⟨rfl, hi, p⟩
  by_cases hlt : i < n
  · refine .inr ⟨hlt, Pv (i + 1), fun σ' H' p' => ⟨n - (i + 1), by omega, rfl, hlt, p'⟩, fun x H' y => ?_⟩
    obtain ⟨e, y⟩ := y
    subst e y
    exact hs i σ _ hlt p
  · have e : i = n := by omega
    subst e
    exact .inl ⟨Nat.le_refl _, hd σ H p⟩
theorem while_by {c : TT} {tb : TS} {D : Ends} {σ : St} {H : Hp} (Pv : St → Hp → Prop) (μ : St → Hp → Nat) (h0 : Pv σ H)
    (hs : ∀ σ H, Pv σ H → c σ H fun b H1 => if b = true then tb { D with nx := fun σ' H' => Pv σ' H' ∧ μ σ' H' < μ σ H, ct := fun σ' H' => Pv σ' H' ∧ μ σ' H' < μ σ H, bk := D.nx } σ H1 else D.nx σ H1)
    (mono : ∀ σ H Q Q', (∀ b H1, Q b H1 → Q' b H1) → c σ H Q → c σ H Q') : tWhile c tb D σ H := by
  refine ⟨fun m σ H => m = μ σ H ∧ Pv σ H, ⟨_, rfl, h0⟩, ?_⟩
  rintro m σ H ⟨rfl, p⟩
  refine mono σ H _ _ (fun b H1 q => ?_) (hs σ H p)
  cases b with
  | true => exact ⟨_, fun σ' H' ⟨p', l⟩ => ⟨_, l, rfl, p'⟩, q⟩
  | false => exact q
end L2
namespace L2
open PySem PySem.Spec PyProof.Rows
abbrev R2 := V → V → Hp → VK → Prop
def OpR (X : Cx) (f : Value → Value → Sem Value) (r : R2) : Prop :=
  ∀ (pins : List (Addr × Obj)) (s : Shared) (σ : St) (H : Hp) (x y : V) (v u : Value) (Q : VK), Inv X pins σ H s → RelV x v → RelV y u → r x y H Q →
    wpAny (model X.prog X.w) X.A (f v u) (EP X pins σ Q) X.xe s
def UnR (X : Cx) (f : Value → Sem Value) (r : V → Hp → VK → Prop) : Prop :=
  ∀ (pins : List (Addr × Obj)) (s : Shared) (σ : St) (H : Hp) (x : V) (v : Value) (Q : VK), Inv X pins σ H s → RelV x v → r x H Q →
    wpAny (model X.prog X.w) X.A (f v) (EP X pins σ Q) X.xe s
def CallR (X : Cx) (f : Value) (r : List V → Hp → VK → Prop) : Prop :=
  ∀ (pins : List (Addr × Obj)) (s : Shared) (σ : St) (H : Hp) (xs : List V) (us : List Value) (Q : VK), Inv X pins σ H s → Vals xs us → r xs H Q →
    wpAny (model X.prog X.w) X.A (call f us) (EP X pins σ Q) X.xe s
def tOp (r : R2) (ta tb : TE) : TE := fun σ H Q => ta σ H fun x H1 => tb σ H1 fun y H2 => r x y H2 Q
def tUn (r : V → Hp → VK → Prop) (ta : TE) : TE := fun σ H Q => ta σ H fun x H1 => r x H1 Q
def rI (C : Int → Int → Prop) (g : Int → Int → V) : R2 := fun x y H Q => ∃ i j, x = .int i ∧ y = .int j ∧ C i j ∧ Q (g i j) H
def rI0 (g : Int → Int → V) : R2 := fun x y H Q => ∃ i j, x = .int i ∧ y = .int j ∧ Q (g i j) H
def rU (g : Int → V) : V → Hp → VK → Prop := fun x H Q => ∃ i, x = .int i ∧ Q (g i) H
section
variable {X : Cx} {a b c : Expr} {ta tb tc : TE} {pos : Pos}
theorem binT (ha : PE X a ta) (hb : PE X b tb) {pins : List (Addr × Obj)} {s : Shared} {σ : St} {H : Hp} {R : V → V → Hp → Prop} (I : Inv X pins σ H s)
    (h : ta σ H fun x H1 => tb σ H1 fun y H2 => R x y H2) {Q : Value → Shared → Prop} {f : Value → Value → Sem Value}
    (hf : ∀ v u s2 x y H2, Inv X pins σ H2 s2 → RelV x v → RelV y u → R x y H2 → wpAny (model X.prog X.w) X.A (f v u) Q X.xe s2) :
    wpAny (model X.prog X.w) X.A (eval a X.env) (fun v s₁ => wpAny (model X.prog X.w) X.A (eval b X.env) (fun u s₂ => wpAny (model X.prog X.w) X.A (f v u) Q X.xe s₂) X.xe s₁) X.xe s := by
  refine thn (ha pins s σ H _ I h) fun v s1 ⟨x, H1, I1, r1, q1⟩ => ?_
  refine thn (hb pins s1 σ H1 _ I1 q1) fun u s2 ⟨y, H2, I2, r2, q2⟩ => ?_
  exact hf v u s2 x y H2 I2 r1 r2 q2
theorem pe_op {op : Operator} {r : R2} (ho : OpR X (binaryOp op) r) (ha : PE X a ta) (hb : PE X b tb) : PE X (.BinOp a op b pos) (tOp r ta tb) := by
  intro pins s σ H Q I h
  exact wpAny_BinOp (binT ha hb I h fun v u s2 x y H2 I2 rx ry q => ho pins s2 σ H2 x y v u Q I2 rx ry q)
theorem pe_un {op : UnaryOp} {r : V → Hp → VK → Prop} (ho : UnR X (unaryOp op) r) (ha : PE X a ta) : PE X (.UnaryOp op a pos) (tUn r ta) := by
  intro pins s σ H Q I h
  exact UnaryOp_ (thn (ha pins s σ H _ I h) fun v s1 ⟨x, H1, I1, r1, q1⟩ => ho pins s1 σ H1 x v Q I1 r1 q1)
theorem opI {f : Value → Value → Sem Value} {C : Int → Int → Prop} {g : Int → Int → Int}
    (rule : ∀ (i j : Int) (t u : Tok) (s : Shared) (Q : Value → Shared → Prop) (E : Value → Shared → Prop), C i j → Q (.int (g i j) s.toks) { s with toks := s.toks + 1 } → wpAny (model X.prog X.w) X.A (f (.int i t) (.int j u)) Q E s) :
    OpR X f (rI C fun i j => .int (g i j)) := by
  intro pins s σ H x y v u Q I rx ry h
  obtain ⟨i, j, rfl, rfl, hc, q⟩ := h
  obtain ⟨t, rfl⟩ := rx
  obtain ⟨t', rfl⟩ := ry
  exact rule i j t t' s _ _ hc ⟨.int (g i j), H, I.tok _, ⟨_, rfl⟩, q⟩
theorem opI0 {f : Value → Value → Sem Value} {g : Int → Int → Int}
    (rule : ∀ (i j : Int) (t u : Tok) (s : Shared) (Q : Value → Shared → Prop) (E : Value → Shared → Prop), Q (.int (g i j) s.toks) { s with toks := s.toks + 1 } → wpAny (model X.prog X.w) X.A (f (.int i t) (.int j u)) Q E s) :
    OpR X f (rI0 fun i j => .int (g i j)) := by
  intro pins s σ H x y v u Q I rx ry h
  obtain ⟨i, j, rfl, rfl, q⟩ := h
  obtain ⟨t, rfl⟩ := rx
  obtain ⟨t', rfl⟩ := ry
  exact rule i j t t' s _ _ ⟨.int (g i j), H, I.tok _, ⟨_, rfl⟩, q⟩
theorem opB0 {f : Value → Value → Sem Value} {g : Int → Int → Bool}
    (rule : ∀ (i j : Int) (t u : Tok) (s : Shared) (Q : Value → Shared → Prop) (E : Value → Shared → Prop), Q (.bool (g i j)) s → wpAny (model X.prog X.w) X.A (f (.int i t) (.int j u)) Q E s) :
    OpR X f (rI0 fun i j => .bl (g i j)) := by
  intro pins s σ H x y v u Q I rx ry h
  obtain ⟨i, j, rfl, rfl, q⟩ := h
  obtain ⟨t, rfl⟩ := rx
  obtain ⟨t', rfl⟩ := ry
  exact rule i j t t' s _ _ ⟨.bl (g i j), H, I, rfl, q⟩
def CDiv (i j : Int) : Prop := 0 < j ∧ j < 1073741824
def CMul (i j : Int) : Prop := (-(2 ^ 64) < i ∧ i < 2 ^ 64) ∨ (-(2 ^ 64) < j ∧ j < 2 ^ 64)
theorem CMul.ok {i j : Int} (h : CMul i j) : IntMulOk i j := by
  rcases h with ⟨h1, h2⟩ | ⟨h1, h2⟩
  · exact .of_left (intBits_le_64 h1 h2)
  · exact .of_right (intBits_le_64 h1 h2)
theorem op_add : OpR X (binaryOp .Add) (rI0 fun i j => .int (i + j)) := opI0 fun _ _ _ _ _ _ _ q => add_int q
theorem op_sub : OpR X (binaryOp .Sub) (rI0 fun i j => .int (i - j)) := opI0 fun _ _ _ _ _ _ _ q => sub_int q
theorem op_mul : OpR X (binaryOp .Mult) (rI CMul fun i j => .int (i * j)) := opI fun _ _ _ _ _ _ _ hc q => mul_int q hc.ok
theorem op_fdiv : OpR X (binaryOp .FloorDiv) (rI CDiv fun i j => .int (i / j)) := opI fun i j _ _ _ _ _ hc q => by
  have h1 : (0 : Int) < j := hc.1
  have h2 : j < 1073741824 := hc.2
  exact floordiv_int (by omega) (by rw [Int.fdiv_eq_ediv_of_nonneg i (by omega)]; exact q) (.inl (PyProof.noPylong_small (by omega)))
theorem op_mod : OpR X (binaryOp .Mod) (rI (fun _ j => 0 < j) fun i j => .int (i % j)) := opI fun i j _ _ _ _ _ hc q => by
  have h1 : (0 : Int) < j := hc
  exact mod_int' (by omega) (by rw [Int.fmod_eq_emod_of_nonneg i (by omega)]; exact q)
theorem unI {f : Value → Sem Value} {g : Int → Int}
    (rule : ∀ (i : Int) (t : Tok) (s : Shared) (Q : Value → Shared → Prop) (E : Value → Shared → Prop), Q (.int (g i) s.toks) { s with toks := s.toks + 1 } → wpAny (model X.prog X.w) X.A (f (.int i t)) Q E s) :
    UnR X f (rU fun i => .int (g i)) := by
  intro pins s σ H x v Q I rx h
  obtain ⟨i, rfl, q⟩ := h
  obtain ⟨t, rfl⟩ := rx
  exact rule i t s _ _ ⟨.int (g i), H, I.tok _, ⟨_, rfl⟩, q⟩
theorem un_neg : UnR X (unaryOp .USub) (rU fun i => .int (-i)) := unI fun _ _ _ _ _ q => neg_int q
end
def scal : V → V → Bool
  | .non, .non => true | .non, .int _ => true | .int _, .non => true | .non, .bl _ => true | .bl _, .non => true | .non, .str _ => true | .str _, .non => true
  | .int _, .int _ => true | .bl _, .bl _ => true | .str _, .str _ => true | .byt _, .byt _ => true
  | .int _, .str _ => true | .str _, .int _ => true | .bl _, .str _ => true | .str _, .bl _ => true
  | _, _ => false
def rEq : R2 := fun x y H Q => scal x y = true ∧ Q (.bl (decide (x = y))) H
def rNe : R2 := fun x y H Q => scal x y = true ∧ Q (.bl (!decide (x = y))) H
theorem dec_int {i j : Int} : decide (V.int i = V.int j) = (i == j) := by
  rw [Bool.eq_iff_iff]
  simp
theorem dec_bl {i j : Bool} : decide (V.bl i = V.bl j) = (i == j) := by
  rw [Bool.eq_iff_iff]
  simp
theorem dec_str {i j : Str} : decide (V.str i = V.str j) = (i == j) := by
  rw [Bool.eq_iff_iff]
  simp
theorem dec_byt {i j : Array UInt8} : decide (V.byt i = V.byt j) = (i.toList == j.toList) := by
  rw [Bool.eq_iff_iff]
  cases i
  cases j
  simp
section
variable {X : Cx} {a b c : Expr} {ta tb tc : TE} {pos : Pos}
theorem fin_bl {pins : List (Addr × Obj)} {σ : St} {H : Hp} {s : Shared} {Q : VK} {k k' : Bool} (I : Inv X pins σ H s) (q : Q (.bl k) H) (e : k = k') : EP X pins σ Q (.bool k') s := by
  subst e
  exact ⟨.bl k, H, I, rfl, q⟩
theorem op_eq : OpR X (compareOp .Eq) rEq := by
  intro pins s σ H x y v u Q I rx ry h
  obtain ⟨hs, q⟩ := h
  cases x with
  | non =>
    cases rx
    cases y with
    | non => cases ry; exact PySem.EqNone.eq_none_none (fin_bl I q (by simp))
    | bl j => cases ry; exact PySem.EqNone.eq_none_bool (fin_bl I q (by simp))
    | int j => obtain ⟨t', rfl⟩ := ry; exact PySem.EqNone.eq_none_int (fin_bl I q (by simp))
    | str j => obtain ⟨t', rfl⟩ := ry; exact PySem.EqNone.eq_none_str (fin_bl I q (by simp))
    | _ => exact absurd (show false = true from hs) Bool.false_ne_true
  | bl i =>
    cases rx
    cases y with
    | non => cases ry; exact PySem.EqNone.eq_bool_none (fin_bl I q (by simp))
    | bl j => cases ry; exact eq_bool (fin_bl I q dec_bl)
    | str j => obtain ⟨t', rfl⟩ := ry; exact PySem.EqMixed.eq_bool_str (fin_bl I q (by simp))
    | _ => exact absurd (show false = true from hs) Bool.false_ne_true
  | int i =>
    obtain ⟨t, rfl⟩ := rx
    cases y with
    | non => cases ry; exact PySem.EqNone.eq_int_none (fin_bl I q (by simp))
    | int j => obtain ⟨t', rfl⟩ := ry; exact eq_int (fin_bl I q dec_int)
    | str j => obtain ⟨t', rfl⟩ := ry; exact PySem.EqMixed.eq_int_str (fin_bl I q (by simp))
    | _ => exact absurd (show false = true from hs) Bool.false_ne_true
  | str i =>
    obtain ⟨t, rfl⟩ := rx
    cases y with
    | non => cases ry; exact PySem.EqNone.eq_str_none (fin_bl I q (by simp))
    | bl j => cases ry; exact PySem.EqMixed.eq_str_bool (fin_bl I q (by simp))
    | int j => obtain ⟨t', rfl⟩ := ry; exact PySem.EqMixed.eq_str_int (fin_bl I q (by simp))
    | str j => obtain ⟨t', rfl⟩ := ry; exact eq_str (fin_bl I q dec_str)
    | _ => exact absurd (show false = true from hs) Bool.false_ne_true
  | byt i =>
    obtain ⟨t, rfl⟩ := rx
    cases y with
    | byt j => obtain ⟨t', rfl⟩ := ry; exact PySem.W.eq_bytes (fin_bl I q dec_byt)
    | _ => exact absurd (show false = true from hs) Bool.false_ne_true
  | _ => cases y <;> exact absurd (show false = true from hs) Bool.false_ne_true
theorem op_ne : OpR X (compareOp .NotEq) rNe := by
  intro pins s σ H x y v u Q I rx ry h
  obtain ⟨hs, q⟩ := h
  cases x with
  | non =>
    cases rx
    cases y with
    | non => cases ry; exact PySem.EqNone.ne_none_none (fin_bl I q (by simp))
    | bl j => cases ry; exact PySem.EqNone.ne_none_bool (fin_bl I q (by simp))
    | int j => obtain ⟨t', rfl⟩ := ry; exact PySem.EqNone.ne_none_int (fin_bl I q (by simp))
    | str j => obtain ⟨t', rfl⟩ := ry; exact PySem.EqNone.ne_none_str (fin_bl I q (by simp))
    | _ => exact absurd (show false = true from hs) Bool.false_ne_true
  | bl i =>
    cases rx
    cases y with
    | non => cases ry; exact PySem.EqNone.ne_bool_none (fin_bl I q (by simp))
    | bl j => cases ry; exact ne_bool (fin_bl I q (congrArg not dec_bl))
    | str j => obtain ⟨t', rfl⟩ := ry; exact PySem.EqMixed.ne_bool_str (fin_bl I q (by simp))
    | _ => exact absurd (show false = true from hs) Bool.false_ne_true
  | int i =>
    obtain ⟨t, rfl⟩ := rx
    cases y with
    | non => cases ry; exact PySem.EqNone.ne_int_none (fin_bl I q (by simp))
    | int j => obtain ⟨t', rfl⟩ := ry; exact ne_int (fin_bl I q (congrArg not dec_int))
    | str j => obtain ⟨t', rfl⟩ := ry; exact PySem.EqMixed.ne_int_str (fin_bl I q (by simp))
    | _ => exact absurd (show false = true from hs) Bool.false_ne_true
  | str i =>
    obtain ⟨t, rfl⟩ := rx
    cases y with
    | non => cases ry; exact PySem.EqNone.ne_str_none (fin_bl I q (by simp))
    | bl j => cases ry; exact PySem.EqMixed.ne_str_bool (fin_bl I q (by simp))
    | int j => obtain ⟨t', rfl⟩ := ry; exact PySem.EqMixed.ne_str_int (fin_bl I q (by simp))
    | str j => obtain ⟨t', rfl⟩ := ry; exact ne_str (fin_bl I q (congrArg not dec_str))
    | _ => exact absurd (show false = true from hs) Bool.false_ne_true
  | byt i =>
    obtain ⟨t, rfl⟩ := rx
    cases y with
    | byt j => obtain ⟨t', rfl⟩ := ry; exact PySem.W.ne_bytes (fin_bl I q (congrArg not dec_byt))
    | _ => exact absurd (show false = true from hs) Bool.false_ne_true
  | _ => cases y <;> exact absurd (show false = true from hs) Bool.false_ne_true
theorem op_lt : OpR X (compareOp .Lt) (rI0 fun i j => .bl (decide (i < j))) := opB0 fun _ _ _ _ _ _ _ q => lt_int q
theorem op_le : OpR X (compareOp .LtE) (rI0 fun i j => .bl (decide (i ≤ j))) := opB0 fun _ _ _ _ _ _ _ q => le_int q
theorem op_gt : OpR X (compareOp .Gt) (rI0 fun i j => .bl (decide (j < i))) := opB0 fun _ _ _ _ _ _ _ q => gt_int q
theorem op_ge : OpR X (compareOp .GtE) (rI0 fun i j => .bl (decide (j ≤ i))) := opB0 fun _ _ _ _ _ _ _ q => ge_int q
theorem op_lt_str : OpR X (compareOp .Lt) (fun x y H Q => ∃ i j, x = .str i ∧ y = .str j ∧ Q (.bl (decide (i.cps.toList < j.cps.toList))) H) := by
  intro pins s σ H x y v u Q I rx ry h
  obtain ⟨i, j, rfl, rfl, q⟩ := h
  obtain ⟨t, rfl⟩ := rx
  obtain ⟨t', rfl⟩ := ry
  exact lt_str (fin_bl I q rfl)
theorem op_in_str : OpR X (compareOp .In) (fun x y H Q => ∃ i j, x = .str i ∧ y = .str j ∧ Q (.bl (!(Builtin.Str.occurrences j i 0 j.length 1).isEmpty)) H) := by
  intro pins s σ H x y v u Q I rx ry h
  obtain ⟨i, j, rfl, rfl, q⟩ := h
  obtain ⟨t, rfl⟩ := rx
  obtain ⟨t', rfl⟩ := ry
  exact in_str (fin_bl I q rfl)
theorem op_isN : OpR X (compareOp .Is) (fun x y H Q => y = .non ∧ Q (.bl (decide (x = .non))) H) := by
  intro pins s σ H x y v u Q I rx ry h
  obtain ⟨rfl, q⟩ := h
  cases ry
  refine is_none_gen (fin_bl I q ?_)
  cases x <;> first
    | (cases rx; rfl)
    | (obtain ⟨t, rfl⟩ := rx; rfl)
theorem op_notN : OpR X (compareOp .IsNot) (fun x y H Q => y = .non ∧ Q (.bl (!decide (x = .non))) H) := by
  intro pins s σ H x y v u Q I rx ry h
  obtain ⟨rfl, q⟩ := h
  cases ry
  refine isnot_none_gen (fin_bl I q ?_)
  cases x <;> first
    | (cases rx; rfl)
    | (obtain ⟨t, rfl⟩ := rx; rfl)
theorem OpR.or {f : Value → Value → Sem Value} {r r' : R2} (h : OpR X f r) (h' : OpR X f r') : OpR X f (fun x y H Q => r x y H Q ∨ r' x y H Q) := by
  intro pins s σ H x y v u Q I rx ry q
  rcases q with q | q
  · exact h pins s σ H x y v u Q I rx ry q
  · exact h' pins s σ H x y v u Q I rx ry q
theorem nomark (b : Expr) {op : CmpOp} (h : op ≠ .In := by decide) (h2 : op ≠ .NotIn := by decide) : behindInMarks op b = false := by
  have e1 : (op == CmpOp.In) = false := by cases op <;> first | rfl | exact absurd rfl h
  have e2 : (op == CmpOp.NotIn) = false := by cases op <;> first | rfl | exact absurd rfl h2
  cases b <;> simp [behindInMarks, e1, e2]
theorem pe_cmpR {op : CmpOp} {r : R2} (ho : OpR X (compareOp op) r) (ha : PE X a ta) (hb : PE X b tb) (hm : behindInMarks op b = false) : PE X (.Compare a [op] [b] pos) (tOp r ta tb) := by
  intro pins s σ H Q I h
  exact wpAny_Compare1 (binT ha hb I h fun v u s2 x y H2 I2 rx ry q => ho pins s2 σ H2 x y v u Q I2 rx ry q) hm
def tTest (t : TE) : TT := fun σ H Q => t σ H fun x H' => ∃ k, x = .bl k ∧ Q k H'
theorem pt_cmpR {op : CmpOp} {r : R2} (ho : OpR X (compareOp op) r) (ha : PE X a ta) (hb : PE X b tb) (hm : behindInMarks op b = false) : PT X (.Compare a [op] [b] pos) (tTest (tOp r ta tb)) := by
  intro pins s σ H Q I h
  refine wpAny_isTrue_Compare1 (thn (ha pins s σ H _ I h) fun v s1 ⟨x, H1, I1, r1, q1⟩ => thn (hb pins s1 σ H1 _ I1 q1) fun u s2 ⟨y, H2, I2, r2, q2⟩ =>
    thn (ho pins s2 σ H2 x y v u _ I2 r1 r2 q2) fun c s3 ⟨z, H3, I3, r3, k, e, q3⟩ => ?_) hm
  subst e
  cases r3
  exact wpAny_truthy_bool ⟨H3, I3, q3⟩
def tChain (r r' : R2) (ta tb tc : TE) : TE := fun σ H Q => ta σ H fun x H1 => tb σ H1 fun y H2 => r x y H2 fun z H3 => ∃ k, z = .bl k ∧
  (if k = true then tc σ H3 fun w' H4 => r' y w' H4 Q else Q (.bl false) H3)
theorem pe_chain {op op' : CmpOp} {r r' : R2} (ho : OpR X (compareOp op) r) (ho' : OpR X (compareOp op') r') (ha : PE X a ta) (hb : PE X b tb) (hc : PE X c tc)
    (hm : lastMarks [op, op'] [b, c] = false := by with_unfolding_all rfl) : PE X (.Compare a [op, op'] [b, c] pos) (tChain r r' ta tb tc) := by
  intro pins s σ H Q I h
  refine Compare_chain (thn (ha pins s σ H _ I h) fun v s1 ⟨x, H1, I1, r1, q1⟩ => chain_link (thn (hb pins s1 σ H1 _ I1 q1) fun u s2 ⟨y, H2, I2, r2, q2⟩ =>
    thn (ho pins s2 σ H2 x y v u _ I2 r1 r2 q2) fun d s3 ⟨z, H3, I3, r3, k, e, q3⟩ => ?_)) hm
  subst e
  cases r3
  refine wpAny_truthy_bool ?_
  cases k with
  | false => exact ite_ff ⟨.bl false, H3, I3, rfl, q3⟩
  | true => exact ite_tt (chain_last (thn (hc pins s3 σ H3 _ I3 q3) fun w' s4 ⟨z', H4, I4, r4, q4⟩ => ho' pins s4 σ H4 y z' u w' Q I4 r2 r4 q4))
theorem line63 : (sizeLine : Nat) < 2 ^ 63 := by rw [sizeLine_eq]; decide
theorem op_add_str : OpR X (binaryOp .Add) (fun x y H Q => ∃ i j, x = .str i ∧ y = .str j ∧ i.length + j.length ≤ sizeLine ∧ Q (.str (i ++ j)) H) := by
  intro pins s σ H x y v u Q I rx ry h
  obtain ⟨i, j, rfl, rfl, hz, q⟩ := h
  obtain ⟨t, rfl⟩ := rx
  obtain ⟨t', rfl⟩ := ry
  exact wpAny_with_toks (n := 1) I.tk (add_str (fun t' tk ht => ⟨.str (i ++ j), H, I.tok _ ht, ⟨_, rfl⟩, q⟩) hz)
theorem vals1 {x : V} {us : List Value} (r : Vals [x] us) : ∃ u, us = [u] ∧ RelV x u := by
  cases r with
  | cons r1 r2 => cases r2; exact ⟨_, rfl, r1⟩
theorem vals2 {x y : V} {us : List Value} (r : Vals [x, y] us) : ∃ u w', us = [u, w'] ∧ RelV x u ∧ RelV y w' := by
  cases r with
  | cons r1 r2 =>
    cases r2 with
    | cons r3 r4 => cases r4; exact ⟨_, _, rfl, r1, r3⟩
theorem call_max2 (hc : X.calm = true) : CallR X (.builtin "max") (fun xs H Q => ∃ i j, xs = [.int i, .int j] ∧ Q (.int (if j > i then j else i)) H) := by
  intro pins s σ H xs us Q I r h
  obtain ⟨i, j, rfl, q⟩ := h
  obtain ⟨u, w', rfl, ⟨t, rfl⟩, ⟨t', rfl⟩⟩ := vals2 r
  refine wpAny_with_toks (n := 1) I.tk (max_two_ints (I.ok.hd hc) fun h' tk k ht => ⟨_, H, I.kept k ht, ?_, q⟩)
  by_cases hj : j > i
  · rw [if_pos hj, if_pos hj]; exact ⟨_, rfl⟩
  · rw [if_neg hj, if_neg hj]; exact ⟨_, rfl⟩
theorem call_int1 : CallR X (.type "int") (fun xs H Q => (∃ i, xs = [.int i] ∧ Q (.int i) H) ∨ ∃ k, xs = [.bl k] ∧ Q (.int (if k then 1 else 0)) H) := by
  intro pins s σ H xs us Q I r h
  rcases h with ⟨i, rfl, q⟩ | ⟨k, rfl, q⟩
  · obtain ⟨u, rfl, t, rfl⟩ := vals1 r
    exact call_int_int ⟨.int i, H, I, ⟨_, rfl⟩, q⟩
  · obtain ⟨u, rfl, r1⟩ := vals1 r
    cases r1
    exact call_int_bool ⟨.int (if k then 1 else 0), H, I.tok _, ⟨_, rfl⟩, q⟩
end
end L2
namespace L2
open PySem PySem.Spec PyProof.Rows
structure ObjM (h : Heap) (x dx C : Addr) (mA : Str → Option Value) : Prop where
  obj : h.get? x = some (PySem.W.instObj C dx)
  ns : h.Ns1 dx mA
  ne : dx ≠ x
theorem lookIn_ns {h : Heap} {dx : Addr} {mA : Str → Option Value} (n : h.Ns1 dx mA) : ∃ od, h.get? dx = some od ∧ ∀ name, PySem.W.lookIn name od = some (mA name) := by
  obtain ⟨o, es, ep, ho, hd, hk, _, hm⟩ := n
  refine ⟨o, ho, fun name => ?_⟩
  have e := hm name
  unfold nsFind findBy at e
  rw [← Array.find?_toList] at e
  unfold PySem.W.lookIn
  rw [hd]
  dsimp only
  split
  · rename_i y q
    rw [q] at e
    exact congrArg some e
  · rename_i q
    rw [q] at e
    have a : es.toList.any (·.refKey) = false := by
      rw [List.any_eq_false]
      intro y hy
      obtain ⟨z, t, hkey⟩ := hk y (Array.mem_toList_iff.mp hy)
      simp [DictEntry.refKey, hkey]
    have a' : ¬ es.toList.any (·.refKey) = true := by rw [a]; exact Bool.false_ne_true
    rw [if_neg a']
    exact congrArg some e
theorem ObjM.look {h : Heap} {x dx C : Addr} {mA : Str → Option Value} (I : ObjM h x dx C mA) : ∃ od, PySem.W.InstAt h x (PySem.W.instObj C dx) C (some od) ∧ ∀ name, PySem.W.lookIn name od = some (mA name) :=
  let ⟨od, ho, hl⟩ := lookIn_ns I.ns
  ⟨od, ⟨I.obj, rfl, rfl, ho⟩, hl⟩
section
variable {prog : Program} {w : World} {A : Around} {E : Value → Shared → Prop} {s : Shared} {K : PySem.W.Frag} {x dx C f : Addr} {mA : Str → Option Value} {name : Str} {v : Value}
end
theorem RelO.some_of {v : V} {o : Option Value} (r : RelO (some v) o) : ∃ u, o = some u ∧ RelV v u := by
  cases o with
  | none => exact (show False from r).elim
  | some u => exact ⟨u, rfl, r⟩
theorem handed_of {v : V} {u : Value} (r : RelV v u) : PySem.W.handedIn u = true := by
  cases v with
  | non => cases (show u = Value.none from r); rfl
  | bl b => cases (show u = Value.bool b from r); rfl
  | int i => obtain ⟨t, e⟩ := (show ∃ t, u = Value.int i t from r); cases e; rfl
  | str x => obtain ⟨t, e⟩ := (show ∃ t, u = Value.str x t from r); cases e; rfl
  | byt b => obtain ⟨t, e⟩ := (show ∃ t, u = Value.bytes b t from r); cases e; rfl
  | flt b => obtain ⟨t, e⟩ := (show ∃ t, u = Value.float b t from r); cases e; rfl
  | ref a => cases (show u = Value.ref a from r); rfl
  | ty n => cases (show u = Value.type n from r); rfl
section
variable {P : Program} {w : World} {H H' : Hp} {h h' : Heap} {a C dx : Addr} {fs fs' : List (Str × V)}
theorem ins_get (hok : HOk P w H h) (e : H a = some (.ins C dx fs)) : ∃ mA, ObjM h a dx C mA ∧ (∀ f, RelO (fs.lookup f) (mA f)) ∧ PySem.Within mA (fs.map (·.1)) ∧ fs.length ≤ 1000 ∧ H dx = some (.own a) := by
  obtain ⟨d, z, ne, ob, mA, n, r, q⟩ := (show ObjOk P w H h a (.ins C dx fs) from hok a _ e)
  exact ⟨mA, ⟨ob, n, ne⟩, r, q, z, d⟩
end
structure Cls (K : PySem.W.Frag) (C : Addr) : Prop where
  pg : PySem.W.plainGet K C Str.empty = true
  hd : PySem.W.hasDictIn K C = true
  po : PySem.W.plainOver K C = true
  sa : PySem.W.findIn K (.ref C) "__setattr__" = some (some (.builtin "object.__setattr__"))
theorem Cls.get {K : PySem.W.Frag} {C : Addr} (c : Cls K C) (f : Str) : PySem.W.plainGet K C f = true := c.pg
section
variable {X : Cx} {pins : List (Addr × Obj)} {σ : St} {H : Hp} {s : Shared} {a C dx : Addr} {fs : List (Str × V)} {f : Str} {v : V} {A : Around} {E : Value → Shared → Prop}
theorem attr_of {prog : Program} {w : World} {env : Env} {e : Expr} {f : Str} {pos : Pos} {s : Shared} {Q : Value → Shared → Prop} (hb : attributeBase e f env (eval e env) = eval e env)
    (h : wpAny (model prog w) A (eval e env) (fun o s₁ => wpAny (model prog w) A (getAttr o f true) Q E s₁) E s) : wpAny (model prog w) A (eval (.Attribute e f pos) env) Q E s :=
  Attribute_any_ h (by rw [arm_eval_Attribute, hb])
end
section
variable {X : Cx} {o e value : Expr} {f : Str} {pos pos' tpos : Pos} {ta tv : TE}
end
section
variable {X : Cx} {pins : List (Addr × Obj)} {σ : St} {H : Hp} {s : Shared} {A : Around} {E : Value → Shared → Prop} {Q : Value → Shared → Prop} {c : Value} {b : Bool}
inductive TyOf (K : PySem.W.Frag) (H : Hp) : V → Value → Prop where
  | non : TyOf K H .non (.type "NoneType")
  | bl (x : Bool) : TyOf K H (.bl x) (.type "bool")
  | int (i : Int) : TyOf K H (.int i) (.type "int")
  | str (x : Str) : TyOf K H (.str x) (.type "str")
  | flt (x : UInt64) : TyOf K H (.flt x) (.type "float")
  | lst {a : Addr} {xs : List V} (e : H a = some (.lst xs)) : TyOf K H (.ref a) (.type "list")
  | frz {a : Addr} {o : Obj} {xs : List V} (e : H a = some (.frz o (.lst xs))) : TyOf K H (.ref a) (.type "list")
  | tup {a : Addr} {xs : List V} (e : H a = some (.tup xs)) : TyOf K H (.ref a) (.type "tuple")
  | dK {a : Addr} {kvs : List (Key × V)} (e : H a = some (.dK kvs)) : TyOf K H (.ref a) (.type "dict")
  | dT {a : Addr} {kvs : List (List Key × V)} (e : H a = some (.dT kvs)) : TyOf K H (.ref a) (.type "dict")
  | ins {a C dx : Addr} {fs : List (Str × V)} (e : H a = some (.ins C dx fs)) (cl : Cls K C) (ha : PySem.W.findIn K (.ref C) "__class__" = some (some (.builtin "object.__class__")))
      (hn : PySem.W.specialIn K (.builtin "object.__class__") "__get__" = some (some (.builtin "getset_descriptor.__get__"))) (htk : PySem.W.takesIn K (.builtin "object.__class__") = some true)
      (hm : PySem.W.mroIn K C (.type "object") = some true) : TyOf K H (.ref a) (.ref C)
theorem isinst_ok {x : V} {u t : Value} (I : Inv X pins σ H s) (rx : RelV x u) (ty : TyOf X.K H x t) (e : PySem.W.kitOne X.K t c = some b) (h : ∀ tk, Q (.bool b) { s with toks := tk }) :
    wpAny (model X.prog X.w) A (call (.builtin "isinstance") [u, c]) Q E s := by
  cases ty with
  | non => cases (show u = Value.none from rx); exact PySem.W.kia_one PySem.W.kitx_none I.kIn True.intro e (fun z => nomatch z) h
  | bl y => cases (show u = Value.bool y from rx); exact PySem.W.kia_one PySem.W.kitx_bool I.kIn True.intro e (fun z => nomatch z) h
  | int i => obtain ⟨t, q⟩ := (show ∃ t, u = Value.int i t from rx); cases q; exact PySem.W.kia_one PySem.W.kitx_int I.kIn True.intro e (fun z => nomatch z) h
  | str y => obtain ⟨t, q⟩ := (show ∃ t, u = Value.str y t from rx); cases q; exact PySem.W.kia_one PySem.W.kitx_str I.kIn True.intro e (fun z => nomatch z) h
  | flt y => obtain ⟨t, q⟩ := (show ∃ t, u = Value.float y t from rx); cases q; exact PySem.W.kia_one PySem.W.kitx_float I.kIn True.intro e (fun z => nomatch z) h
  | @lst a xs ea =>
    cases (show u = Value.ref a from rx)
    obtain ⟨_, _, n, _, h1⟩ := (show ObjOk X.prog X.w H s.heap a (.lst xs) from I.hok a _ ea)
    exact PySem.W.kia_one PySem.W.kitx_list I.kIn ⟨_, h1, rfl⟩ e (fun z => nomatch z) h
  | @frz a ob xs ea =>
    cases (show u = Value.ref a from rx)
    obtain ⟨_, _, _, n, _, h1⟩ := (show ObjOk X.prog X.w H s.heap a (.frz ob (.lst xs)) from I.hok a _ ea)
    exact PySem.W.kia_one PySem.W.kitx_list I.kIn ⟨_, h1, rfl⟩ e (fun z => nomatch z) h
  | @tup a xs ea =>
    cases (show u = Value.ref a from rx)
    obtain ⟨_, _, _, p⟩ := (show ObjOk X.prog X.w H s.heap a (.tup xs) from I.hok a _ ea)
    obtain ⟨o, h1, h2, _⟩ := p
    exact PySem.W.kia_one PySem.W.kitx_tuple I.kIn ⟨o, h1, h2⟩ e (fun z => nomatch z) h
  | @dK a kvs ea =>
    cases (show u = Value.ref a from rx)
    obtain ⟨_, _, vs, _, p⟩ := (show ObjOk X.prog X.w H s.heap a (.dK kvs) from I.hok a _ ea)
    obtain ⟨o, es, ep, h1, h2, _⟩ := p
    exact PySem.W.kia_one PySem.W.kitx_dict I.kIn ⟨o, h1, h2.1⟩ e (fun z => nomatch z) h
  | @dT a kvs ea =>
    cases (show u = Value.ref a from rx)
    obtain ⟨_, _, xs, _, o, es, ep, h1, h2, _⟩ := (show ObjOk X.prog X.w H s.heap a (.dT kvs) from I.hok a _ ea)
    exact PySem.W.kia_one PySem.W.kitx_dict I.kIn ⟨o, h1, h2.1⟩ e (fun z => nomatch z) h
  | @ins a C dx fs ea cl ha hn htk hm =>
    cases (show u = Value.ref a from rx)
    obtain ⟨mA, O, _⟩ := ins_get I.hok ea
    obtain ⟨od, J, _⟩ := O.look
    exact PySem.W.kia_one (PySem.W.kitx_own (cl.get _) cl.hd ha hn htk hm) I.kIn J e (fun z => nomatch z) h
end
end L2
namespace L2
open PySem PySem.Spec PyProof.Rows
structure Room (k : Nat) (A : Around) : Prop where
  hd : A.handled = none
  dp : A.depth + 3 * k + 5 < recursionLimit
  un : A.units + 16 * k + 200 < cLine
theorem Room.mono {j k : Nat} {A : Around} (r : Room k A) (h : j ≤ k) : Room j A := ⟨r.hd, by have := r.dp; omega, by have := r.un; omega⟩
theorem Room.deeper {k : Nat} {A : Around} (r : Room (k + 1) A) (env : Env) : Room k (A.deeper env) :=
  ⟨r.hd, by have := r.dp; show A.depth + 1 + 3 * k + 5 < _; omega, by have := r.un; show A.units + 3 + 16 * k + 200 < _; omega⟩
theorem make_depth {A : Around} {C : Addr} {us : List Value} {kw : List (Str × Value)} : (A.under (.builtin "type.__call__" ⟨.ref C :: us, kw⟩)).depth = A.depth + 1 := by
  first | rfl | simp [Around.under, Code.weight, Code.isCreation, Code.isGuard, Code.isCaller, Code.frames, Code.isFrame, guardIds]
theorem make_units {A : Around} {C : Addr} {us : List Value} {kw : List (Str × Value)} : (A.under (.builtin "type.__call__" ⟨.ref C :: us, kw⟩)).units = A.units + 1 := by
  first | rfl | simp [Around.under, Code.cUnits, Code.frames, Code.isFrame]
theorem Room.make {k : Nat} {A : Around} (r : Room (k + 1) A) (C : Addr) (us : List Value) (kw : List (Str × Value)) : Room k (A.under (.builtin "type.__call__" ⟨.ref C :: us, kw⟩)) :=
  ⟨r.hd, by have := r.dp; rw [make_depth]; omega, by have := r.un; rw [make_units]; omega⟩
theorem Room.depth {k : Nat} {A : Around} (r : Room k A) : A.depth < recursionLimit := by have := r.dp; omega
theorem Room.units {k : Nat} {A : Around} (r : Room k A) : A.units + 64 < cLine := by have := r.un; omega
def tNil : TA := fun _ H Q => Q [] H
def tCons (ta : TE) (tr : TA) : TA := fun σ H Q => ta σ H fun x H1 => tr σ H1 fun xs H2 => Q (x :: xs) H2
section
variable {X : Cx} {e : Expr} {es : List Expr} {te : TE} {t : TA} {pos : Pos}
theorem pa_nil : PA X [] tNil := fun _ _ _ _ H Q I h => Calls.spliced_nil ⟨[], H, I, .nil, h⟩
theorem pa_cons (ha : PE X e te) (hr : PA X es t) (hs : starEach (e :: es) X.env = (false, eval e X.env) :: starEach es X.env := by rfl) : PA X (e :: es) (tCons te t) := by
  intro pos pins s σ H Q I h
  rw [hs]
  show wpAny _ _ (spliced ((false, eval e X.env) :: backTo pos (starEach es X.env))) _ _ s
  refine Calls.spliced_cons (thn (ha pins s σ H _ I h) fun u s1 ⟨x, H1, I1, r1, q1⟩ => ?_)
  exact thn (hr pos pins s1 σ H1 _ I1 q1) fun us s2 ⟨xs, H2, I2, r2, q2⟩ => ⟨x :: xs, H2, I2, .cons r1 r2, q2⟩
def tTup (t : TA) : TE := fun σ H Q => t σ H fun xs H1 => xs.length ≤ sizeLine ∧ ∀ p, H1 p = none → Q (.ref p) (upd H1 p (.tup xs))
def tLst (t : TA) : TE := fun σ H Q => t σ H fun xs H1 => xs.length ≤ sizeLine ∧ ∀ p, H1 p = none → Q (.ref p) (upd H1 p (.lst xs))
theorem pe_tup {x1} (h : PA X es t) : PE X (.Tuple es x1 pos) (tTup t) := by
  intro pins s σ H Q I hq
  refine wpAny_Tuple_spliced (thn (h pos pins s σ H _ I hq) fun us s1 ⟨xs, H1, I1, r, z, q⟩ => ⟨by rw [← r.length]; exact z, ?_⟩)
  have hf : H1 s1.heap.objs.size = none := I1.hok.fresh (Nat.le_refl _)
  refine ⟨.ref s1.heap.objs.size, upd H1 s1.heap.objs.size (.tup xs), I1.laid (t' := s1.toks) (fun b u e => Heap.get?_push_of_some _ e) (Nat.le_refl _) ?_, rfl, q _ hf⟩
  exact ⟨z, us, r, ⟨_, Heap.get?_push_size _ rfl, rfl, _, rfl⟩⟩
theorem pe_lst (h : PA X es t) : PE X (.List es pos) (tLst t) := by
  intro pins s σ H Q I hq
  refine wpAny_List_spliced (thn (h pos pins s σ H _ I hq) fun us s1 ⟨xs, H1, I1, r, z, q⟩ => ⟨by rw [← r.length]; exact z, ?_⟩)
  have hf : H1 s1.heap.objs.size = none := I1.hok.fresh (Nat.le_refl _)
  refine ⟨.ref s1.heap.objs.size, upd H1 s1.heap.objs.size (.lst xs), I1.laid (t' := s1.toks) (fun b u e => Heap.get?_push_of_some _ e) (Nat.le_refl _) ?_, rfl, q _ hf⟩
  exact ⟨z, us, 0, r, Heap.get?_push_size _ rfl⟩
end
abbrev Sp := List V → Hp → VK → XK → Prop
abbrev CXT := List Env → Hp → Shared → XK → Value → Shared → Prop
structure Env0 (P : Program) (w : World) (K : PySem.W.Frag) (mg : Str → Option Value) (base : Heap) (A : Around) (outer : List Env) (s : Shared) (H : Hp) : Prop where
  frames : A.frames = some outer
  mod : Mod K mg base
  bs : ∀ b o, base.get? b = some o → s.heap.get? b = some o ∧ H b = none
  bsz : base.objs.size ≤ s.heap.objs.size
  funs : s.heap.FunFrames base outer
  frf : ∀ b ∈ frs outer, H b = none
  hok : HOk P w H s.heap
  bare : AllBare s.gens
  tk : 0 < s.toks
def CE (outer : List Env) (P : Program) (w : World) (H : Hp) (s : Shared) (Q : VK) (u : Value) (s' : Shared) : Prop :=
  ∃ v H', 0 < s'.toks ∧ s'.os = s.os ∧ AllBare s'.gens ∧ Un (frs outer) [] H H' s.heap s'.heap ∧ HOk P w H' s'.heap ∧ RelV v u ∧ Q v H'
def CR (CX : CXT) (outer : List Env) (P : Program) (w : World) (H : Hp) (s : Shared) (Q : VK) (E : XK) (r : Result) (s' : Shared) : Prop :=
  match r with
  | .ok (.ret u) => CE outer P w H s Q u s'
  | .ok _ => False
  | .error e => CX outer H s E e s'
structure FnOk (P : Program) (w : World) (K : PySem.W.Frag) (mg : Str → Option Value) (base : Heap) (CX : CXT) (k : Nat) (f : Addr) (fd : FuncData) (ps : List Str) (sp : Sp) : Prop where
  len : ∀ vs H Q E, sp vs H Q E → vs.length = ps.length
  run : ∀ (A : Around) (outer : List Env) (s : Shared) (H : Hp) (args : Args) (us : List Value) (vs : List V) (Q : VK) (E : XK), Room k A → Env0 P w K mg base A outer s H → BindsTo s fd args (ps.zip us) → Vals vs us → sp vs H Q E →
    codeAny (model P w) A (.call (.ref f) args) (CR CX outer P w H s Q E) s
theorem Env0.make {P : Program} {w : World} {K : PySem.W.Frag} {mg : Str → Option Value} {base : Heap} {A : Around} {outer : List Env} {s : Shared} {H : Hp} (e : Env0 P w K mg base A outer s H) (C : Addr) (us : List Value) (kw : List (Str × Value)) :
    Env0 P w K mg base (A.under (.builtin "type.__call__" ⟨.ref C :: us, kw⟩)) outer s H := ⟨by first | exact e.frames | (simpa [Around.under, Code.envs, Code.isFrame, pushEnvs] using e.frames), e.mod, e.bs, e.bsz, e.funs, e.frf, e.hok, e.bare, e.tk⟩
section
variable {X : Cx} {pins : List (Addr × Obj)} {σ : St} {H : Hp} {s s' : Shared}
theorem Inv.env0 (I : Inv X pins σ H s) : Env0 X.prog X.w X.K X.mg X.base X.A X.stack s H :=
  ⟨I.ok.frames, I.ok.mod, I.bs, Nat.le_trans I.ok.bsz I.sz, I.stack, I.stkFree, I.hok, I.bare, I.tk⟩
theorem Inv.after {Q : VK} {u : Value} (I : Inv X pins σ H s) (h : CE X.stack X.prog X.w H s Q u s') : EP X pins σ Q u s' := by
  obtain ⟨v, H', ht, os, bare, un, hok, r, q⟩ := h
  obtain ⟨hh, g, d, t, os'⟩ := s'
  obtain rfl : os' = s.os := os
  exact ⟨v, H', I.call (h' := hh) (g' := g) (d' := d) (t' := t) (ch := []) un hok bare (fun b z => absurd z (by simp)) ht, r, q⟩
end
def tCall (sp : Sp) (dvs : List V) (E : XK) (t : TA) : TE := fun σ H Q => t σ H fun vs H1 => sp (vs ++ dvs) H1 Q E
def Binds (K : PySem.W.Frag) (fd : FuncData) (ps : List Str) (ds : List Value) : Prop :=
  ∀ (s : Shared) (us : List Value), K.In s.heap → (us ++ ds).length = ps.length → BindsTo s fd ⟨us, []⟩ (ps.zip (us ++ ds))
theorem Binds.all {K : PySem.W.Frag} {fd : FuncData} {ps : List Str} (h : ∀ us : List Value, us.length = ps.length → bindArgs fd ⟨us, []⟩ = pure (ps.zip us)) : Binds K fd ps [] := fun s us _ hl => by
  rw [List.append_nil] at hl ⊢
  exact .of_eq (h us hl)
def Passes (CX : CXT) (X : Cx) (E : XK) : Prop := ∀ (pins : List (Addr × Obj)) (σ : St) (H : Hp) (s : Shared) (e : Value) (s' : Shared), Inv X pins σ H s → CX X.stack H s E e s' → X.xe e s'
section
variable {X : Cx} {CX : CXT} {k : Nat} {f C : Addr} {fd : FuncData} {ps : List Str} {sp : Sp} {dvs : List V} {ds : List Value} {E : XK} {x m : Str} {p pos apos : Pos} {e o : Expr} {es : List Expr} {ta : TE} {t : TA}
theorem run_fn {pins : List (Addr × Obj)} {σ : St} {H : Hp} {s : Shared} {Q : VK} {us : List Value} {vs : List V} (F : FnOk X.prog X.w X.K X.mg X.base CX k f fd ps sp) (hr : Room k X.A) (hb : Binds X.K fd ps ds) (hd : Vals dvs ds) (hx : Passes CX X E)
    (I : Inv X pins σ H s) (r : Vals vs us) (h : sp (vs ++ dvs) H Q E) : wpAny (model X.prog X.w) X.A (call (.ref f) us) (EP X pins σ Q) X.xe s := by
  have r2 : Vals (vs ++ dvs) (us ++ ds) := r.append hd
  have hl : (us ++ ds).length = ps.length := by rw [← r2.length]; exact F.len _ _ _ _ h
  refine wpAny_call (codeAny_mono (F.run X.A X.stack s H ⟨us, []⟩ (us ++ ds) (vs ++ dvs) Q E hr I.env0 (hb s us I.kIn hl) r2 h) fun r s' hq => ?_)
  cases r with
  | error e => exact hx pins σ H s e s' I hq
  | ok fl =>
    cases fl with
    | ret u => exact I.after hq
    | next => exact False.elim hq
    | brk => exact False.elim hq
    | cont => exact False.elim hq
theorem pe_call (F : FnOk X.prog X.w X.K X.mg X.base CX k f fd ps sp) (hr : Room k X.A) (hg : Gl X x) (hm : X.mg x = some (.ref f)) (hk : PySem.W.keepIn X.K (.ref f) = true) (hb : Binds X.K fd ps ds) (hd : Vals dvs ds) (hx : Passes CX X E)
    (ha : PA X (e :: es) t) (hdb : (x == ("__debug__" : Str)) = false := by decide) (he : starEach (e :: es) X.env = (false, eval e X.env) :: starEach es X.env := by rfl) (hpl : (backTo pos (starEach es X.env)).any (·.1) = false := by rfl) :
    PE X (.Call (.Name x p) (e :: es) [] pos) (tCall sp dvs E t) := by
  intro pins s σ H Q I h
  refine wpAny_Call_Name_kw (ld_glob I hg hm ?_ hdb)
  refine PySem.W.callWith_K (h₀ := X.base) I.ok.mod.kin hk (thn (ha pos pins s σ H _ I h) fun us s1 ⟨vs, H1, I1, r, q⟩ => ⟨I1.kIn, ?_⟩) he hpl
  exact run_fn F hr hb hd hx I1 r q
end
section
variable {X : Cx} {CX : CXT} {k : Nat} {f C : Addr} {fd : FuncData} {ps ks : List Str} {sp : Sp} {E : XK} {x m : Str} {p pos apos kpos : Pos} {e o : Expr} {es : List Expr} {kws : List Keyword} {te ta : TE} {t tk : TA} {nm : Option Str}
variable {g : List Value → List Value → List Value} {gV : List V → List V → List V}
end
structure FnScope (N P : List Str) (sc : Scope) : Prop where
  kind : sc.kind = .function
  co : sc.isCoroutine = false
  gen : sc.isGenerator = false
  nd : N.Nodup
  pre : N.take P.length = P
  par : ∀ x ∈ P, sc.names.lookup x = some .local ∨ sc.names.lookup x = some .cell
  nofree : ∀ y ∈ sc.names, y.2 ≠ .free
theorem bindL_out {kindOf : Str → Option NameKind} {x : Str} : ∀ {binds : List (Str × Value)} {m : Str → Option Value}, (∀ v, (x, v) ∉ binds) → bindL kindOf binds m x = m x
  | [], _, _ => rfl
  | (n, v) :: r, m, h => by
    unfold bindL
    rw [bindL_out fun w hw => h w (List.mem_cons_of_mem _ hw)]
    split
    · have : x ≠ n := by rintro rfl; exact h v List.mem_cons_self
      simp [this]
    · rfl
theorem bindC_out {kindOf : Str → Option NameKind} {x : Str} : ∀ {binds : List (Str × Value)} {m : Str → Option Value}, (∀ v, (x, v) ∉ binds) → bindC kindOf binds m x = m x
  | [], _, _ => rfl
  | (n, v) :: r, m, h => by
    unfold bindC
    rw [bindC_out fun w hw => h w (List.mem_cons_of_mem _ hw)]
    split
    · rfl
    · have : x ≠ n := by rintro rfl; exact h v List.mem_cons_self
      simp [this]
theorem bindL_get {kindOf : Str → Option NameKind} {x : Str} {v : Value} : ∀ {P : List Str} {vs : List Value} {i : Nat} {m : Str → Option Value}, P.Nodup → P[i]? = some x → vs[i]? = some v → kindOf x = some .local →
    bindL kindOf (P.zip vs) m x = some v
  | [], _, _, _, _, h, _, _ => by simp at h
  | _ :: _, [], _, _, _, _, h, _ => by simp at h
  | p :: P, w :: vs, 0, m, nd, h1, h2, hk => by
    simp at h1 h2; subst h1; subst h2
    show bindL kindOf ((p, w) :: P.zip vs) m p = _
    unfold bindL
    rw [bindL_out fun v hv => (List.nodup_cons.mp nd).1 (List.of_mem_zip hv).1, if_pos hk]
    simp
  | p :: P, w :: vs, i + 1, m, nd, h1, h2, hk => by
    show bindL kindOf ((p, w) :: P.zip vs) m x = _
    unfold bindL
    exact bindL_get (i := i) (List.nodup_cons.mp nd).2 (by simpa using h1) (by simpa using h2) hk
theorem bindC_get {kindOf : Str → Option NameKind} {x : Str} {v : Value} : ∀ {P : List Str} {vs : List Value} {i : Nat} {m : Str → Option Value}, P.Nodup → P[i]? = some x → vs[i]? = some v → kindOf x ≠ some .local →
    bindC kindOf (P.zip vs) m x = some v
  | [], _, _, _, _, h, _, _ => by simp at h
  | _ :: _, [], _, _, _, _, h, _ => by simp at h
  | p :: P, w :: vs, 0, m, nd, h1, h2, hk => by
    simp at h1 h2; subst h1; subst h2
    show bindC kindOf ((p, w) :: P.zip vs) m p = _
    unfold bindC
    rw [bindC_out fun v hv => (List.nodup_cons.mp nd).1 (List.of_mem_zip hv).1, if_neg hk]
    simp
  | p :: P, w :: vs, i + 1, m, nd, h1, h2, hk => by
    show bindC kindOf ((p, w) :: P.zip vs) m x = _
    unfold bindC
    exact bindC_get (i := i) (List.nodup_cons.mp nd).2 (by simpa using h1) (by simpa using h2) hk
def start (N : List Str) (vs : List V) : St := vs.map some ++ List.replicate (N.length - vs.length) none
def cxOf (CX : CXT) (P : Program) (w : World) (K : PySem.W.Frag) (mg : Str → Option Value) (base : Heap) (N : List Str) (qual : Str) (scope : Scope) (f : Addr) (cd : Value) (A : Around) (outer : List Env) (s : Shared) (H : Hp) (E : XK) : Cx where
  prog := P
  w := w
  K := K
  mg := mg
  base := base
  A := A.deeper (envOfC qual scope s.heap.objs.size f cd)
  N := N
  s₀ := s
  H₀ := H
  env := envOfC qual scope s.heap.objs.size f cd
  outer := outer
  stack := envOfC qual scope s.heap.objs.size f cd :: outer
  ex := []
  calm := true
  fn := fun _ => true
  pn := []
  xe := fun e s' => wpAny (model P w) (A.deeper (envOfC qual scope s.heap.objs.size f cd)) (leaving (envOfC qual scope s.heap.objs.size f cd) e) (fun _ s'' => CX outer H s E e s'') (fun e' s'' => CX outer H s E e' s'') s'
theorem cell_has {sc : Scope} {n : Nat} {x : Str} (h : sc.names.lookup x = some .cell) : ∃ c, (cellsFrom n sc.names []).lookup x = some c := by
  have q := PySem.W.cellsFrom_some sc.names n [] (.inl h)
  exact Option.isSome_iff_exists.mp q
theorem inv_start {CX : CXT} {P : Program} {w : World} {K : PySem.W.Frag} {mg : Str → Option Value} {base : Heap} {N ps : List Str} {qual : Str} {scope : Scope} {f : Addr} {cd : Value} {A : Around} {outer : List Env} {s s1 : Shared} {H : Hp} {E : XK} {us : List Value} {vs : List V}
    (S : FnScope N ps scope) (hd : A.handled = none) (e0 : Env0 P w K mg base A outer s H) (hl : vs.length = ps.length) (r : Vals vs us)
    (x : InCallC s s.heap.objs.size (bindL (envOfC qual scope s.heap.objs.size f cd).kindOf (ps.zip us) fun _ => none) (cellsFrom (s.heap.objs.size + 1) scope.names []) (bindC (envOfC qual scope s.heap.objs.size f cd).kindOf (ps.zip us) fun _ => none) s1) (ht : 0 < s1.toks) :
    Inv (cxOf CX P w K mg base N qual scope f cd A outer s H E) [] (start N vs) H s1 := by
  have hpl : ps.length ≤ N.length := by have := congrArg List.length S.pre; rw [List.length_take] at this; omega
  obtain ⟨h1, tk, rfl, hk⟩ := x.done
  have noA : ∀ b : Addr, b ∉ (cxOf CX P w K mg base N qual scope f cd A outer s H E).ex := fun b z => absurd (show b ∈ ([] : List Addr) from z) (by simp)
  refine ⟨⟨e0.mod, S.kind, rfl, rfl, Nat.le_refl _, fun y z c h1 h2 => ?_, fun y hy => ?_, fun y c _ h => ?_, fun _ => hd, Around.frames_deeper e0.frames, .inr ⟨rfl, rfl⟩, fun b z => absurd z (noA b), e0.bs, e0.bsz, fun b _ _ => noA b, fun b z => absurd z (noA b), e0.funs, e0.frf⟩,
    rfl, e0.bare, Un.kept hk, ⟨_, x.toInCall.ns, fun i y v h1 h2 h3 => ?_⟩, fun y c h => ⟨_, x.cell y c h⟩, e0.hok.fresh (Nat.le_refl _), fun y c h => ?_, fun p hp => absurd (show p ∈ ([] : List (Addr × Obj)) from hp) (by simp), e0.hok.kept hk, ?_, ht⟩
  · exact name_of_addr x.apart (PySem.mem_of_lookup h1) (PySem.mem_of_lookup h2)
  · have hy : scope.names.lookup y = some .cell ∨ scope.names.lookup y = some .free := hy
    rcases hy with hy | hy
    · exact cell_has hy
    · exact absurd rfl (S.nofree _ (PySem.mem_of_lookup hy))
  · exact Nat.le_of_lt (x.above y c (PySem.mem_of_lookup h))
  · have hi : i < vs.length := by
      unfold start at h2
      by_cases hi : i < vs.length
      · exact hi
      · rw [List.getElem?_append_right (by simpa using hi)] at h2
        rw [List.getElem?_replicate] at h2
        split at h2 <;> cases h2
    have ha : vs[i]? = some v := by
      unfold start at h2
      rw [List.getElem?_append_left (by simpa using hi), List.getElem?_map] at h2
      cases e : vs[i]? with
      | none => rw [e] at h2; cases h2
      | some a => rw [e] at h2; cases h2; rfl
    obtain ⟨u, hu, rv⟩ := r.get ha
    have hp : ps[i]? = some y := by
      rw [← S.pre, List.getElem?_take_of_lt (by omega)]; exact h1
    have ndP : ps.Nodup := by rw [← S.pre]; exact S.nd.sublist (List.take_sublist _ _)
    refine ⟨u, rv, ?_⟩
    rcases S.par y (List.mem_of_getElem? hp) with k | k
    · exact .inl ⟨k, bindL_get ndP hp hu k⟩
    · obtain ⟨c, e⟩ := cell_has (n := s.heap.objs.size + 1) k
      refine .inr ⟨.inl k, c, e, ?_⟩
      have q := x.cell y c e
      rw [bindC_get ndP hp hu (by show scope.names.lookup y ≠ _; rw [k]; decide)] at q
      exact q
  · exact e0.hok.fresh (Nat.le_of_lt (x.above y c (PySem.mem_of_lookup h)))
  · unfold start
    show _ = N.length
    rw [List.length_append, List.length_map, List.length_replicate]
    omega
theorem fn_of {CX : CXT} {P : Program} {w : World} {K : PySem.W.Frag} {mg : Str → Option Value} {base : Heap} {k : Nat} {f : Addr} {name qual : Str} {params : Arguments} {body : List Stmt} {scope : Scope} {dV kV doc pm cdv ct oc : Value} {an od : Option Addr}
    {osl : Array (Option Value)} {N ps : List Str} {sp : Sp} (lk : K.lookup f = some ⟨oc, od, .func (PySem.W.fnOf name qual params body scope dV kV doc pm an cdv ct), osl⟩) (hcd : PySem.W.codeIn K cdv qual = true) (S : FnScope N ps scope)
    (len : ∀ vs H Q E, sp vs H Q E → vs.length = ps.length)
    (hbody : ∀ (A : Around) (outer : List Env) (s : Shared) (H : Hp) (vs : List V) (Q : VK) (E : XK), Room k (A.deeper (envOfC qual scope s.heap.objs.size f cdv)) → sp vs H Q E →
      ∃ t, PSs (cxOf CX P w K mg base N qual scope f cdv A outer s H E) body t ∧ t { nx := fun _ H' => Q .non H', rt := Q } (start N vs) H) :
    FnOk P w K mg base CX (k + 1) f (PySem.W.fnOf name qual params body scope dV kV doc pm an cdv ct) ps sp := by
  refine ⟨len, fun A outer s H args us vs Q E hr e0 hb r hsp => ?_⟩
  have hl := len _ _ _ _ hsp
  have KX : K.In s.heap := e0.mod.kin.keeps fun b o e => (e0.bs b o e).1
  have lim : s.heap.NoLimit := e0.mod.nolimit.keeps fun b o e => (e0.bs b o e).1
  have hkind : ∀ y ∈ ps.zip us, scope.names.lookup y.1 = some .local ∨ (scope.names.lookup y.1 = some .cell ∧ ((cellsFrom (s.heap.objs.size + 1) scope.names []).lookup y.1).isSome = true) := fun ⟨n, v⟩ hy => by
    rcases S.par n (List.of_mem_zip hy).1 with q | q
    · exact .inl q
    · exact .inr ⟨q, PySem.W.cellsFrom_some _ _ _ (.inl q)⟩
  refine codeAny_call_function hr.depth (KX _ _ lk) rfl S.co S.gen rfl (PySem.W.codeRec_of KX hcd) (hb _ _ _ _ ?_)
  refine wpAny_with_toks (n := 1) e0.tk (wpAny_newFunctionEnv_cells S.kind hkind fun env he s1 x htk => ?_)
  subst he
  refine ⟨lim.keeps x.toInCall.keep, codeAny_func ?_⟩
  obtain ⟨t, ht, hq⟩ := hbody A outer s H vs Q E (hr.deeper _) hsp
  have I : Inv (cxOf CX P w K mg base N qual scope f cdv A outer s H E) [] (start N vs) H s1 := inv_start S hr.hd e0 hl r x htk
  refine wpAny_mono (ht [] s1 (start N vs) H _ I hq) (fun fl s' hs => ?_) fun e s' hs => hs
  have fin : ∀ {σ' : St} {H' : Hp} {v : V} {u : Value}, Inv (cxOf CX P w K mg base N qual scope f cdv A outer s H E) [] σ' H' s' → RelV v u → Q v H' → CE outer P w H s Q u s' :=
    fun {σ' H' v u} J rv q => ⟨v, H', J.tk, J.os, J.bare, J.base, J.hok, rv, q⟩
  cases fl with
  | ret u =>
    obtain ⟨v, σ', H', J, rv, q⟩ := hs
    exact fin J rv q
  | next =>
    obtain ⟨σ', H', J, q⟩ := hs
    exact fin (v := V.non) (u := Value.none) J rfl q
  | brk =>
    obtain ⟨_, _, _, q⟩ := hs
    exact False.elim q
  | cont =>
    obtain ⟨_, _, _, q⟩ := hs
    exact False.elim q
end L2
namespace L2
open PySem PySem.Spec PyProof.Rows
section
variable {X : Cx} {x : Str} {p pos : Pos} {e : Expr} {es : List Expr} {t : TA} {id T : String} {r : List V → Hp → VK → Prop}
def tCB (r : List V → Hp → VK → Prop) (t : TA) : TE := fun σ H Q => t σ H fun vs H1 => r vs H1 Q
theorem pe_callB (hc : CallR X (.builtin id) r) (hg : Gl X x) (hm : X.mg x = none) (hv : bootBuiltins x = some (.builtin id)) (ha : PA X (e :: es) t) (hn : x ≠ "__name__" := by decide) (hdb : (x == ("__debug__" : Str)) = false := by decide)
    (he : starEach (e :: es) X.env = (false, eval e X.env) :: starEach es X.env := by rfl) (hpl : (backTo pos (starEach es X.env)).any (·.1) = false := by rfl) : PE X (.Call (.Name x p) (e :: es) [] pos) (tCB r t) := by
  intro pins s σ H Q I h
  refine wpAny_Call_Name_kw (ld_blt I hg hm hv ?_ hn hdb)
  exact PyProof.Rows.callWith_builtin1 (thn (ha pos pins s σ H _ I h) fun us s1 ⟨vs, H1, I1, r1, q1⟩ => hc pins s1 σ H1 vs us Q I1 r1 q1) he hpl
theorem pe_callTy (hc : CallR X (.type T) r) (hg : Gl X x) (hm : X.mg x = none) (hv : bootBuiltins x = some (.type T)) (ha : PA X (e :: es) t) (hn : x ≠ "__name__" := by decide) (hdb : (x == ("__debug__" : Str)) = false := by decide)
    (he : starEach (e :: es) X.env = (false, eval e X.env) :: starEach es X.env := by rfl) (hpl : (backTo pos (starEach es X.env)).any (·.1) = false := by rfl) : PE X (.Call (.Name x p) (e :: es) [] pos) (tCB r t) := by
  intro pins s σ H Q I h
  refine wpAny_Call_Name_kw (ld_blt I hg hm hv ?_ hn hdb)
  exact PyProof.Rows.callWith_type1 (thn (ha pos pins s σ H _ I h) fun us s1 ⟨vs, H1, I1, r1, q1⟩ => hc pins s1 σ H1 vs us Q I1 r1 q1) he hpl
end
end L2
namespace HT
open PySem PyProof.Rows
section
open PySem.SeqAt
open PySem.AutoSeq1 (wpAny_loadPart')
open PySem.MeetsSeq PySem.MeetsSeq2 PySem.MeetsSeq3
end
section
variable {prog : Program} {w : World} {A : Around} {E : Value → Shared → Prop} {s : Shared}
theorem cat_tup {t b : Addr} {vs ws : List Value} {Q : Value → Shared → Prop} (ht : IsTup s.heap t vs.toArray) (hb : IsTup s.heap b ws.toArray) (hv : vs ≠ [])
    (h1 : ws = [] → Q (.ref t) s) (h2 : ws ≠ [] → Q (.ref s.heap.objs.size) { s with heap := s.heap.push { cls := .type "tuple", data := .seq (vs ++ ws).toArray } })
    (hsz : vs.length + ws.length ≤ sizeLine) : wpAny (model prog w) A (binaryOp .Add (.ref t) (.ref b)) Q E s := by
  obtain ⟨⟨cls, dd, data, sl⟩, ho, hc, n, hd⟩ := id ht
  obtain ⟨⟨cls2, dd2, data2, sl2⟩, ho2, hc2, n2, hd2⟩ := id hb
  simp only at hc hd hc2 hd2
  subst hc hd hc2 hd2
  have e : vs.toArray ++ ws.toArray = (vs ++ ws).toArray := by simp
  by_cases hw : ws = []
  · exact concat_meets ⟨_, ho, rfl⟩ ⟨_, ho2, rfl⟩ noFill_tuple_add seq_tuple_add PySem.F.slot_tuple_add PySem.F.entry_tuple_add (PySem.F.args_tuple_add_2 _ _)
      (tuple_addW1 t b vs.toArray ws.toArray n n2 dd dd2 sl sl2 (by simpa using hv) (by simp [hw])) ⟨ho, ho2, h1 hw⟩
  · refine concat_meets ⟨_, ho, rfl⟩ ⟨_, ho2, rfl⟩ noFill_tuple_add seq_tuple_add PySem.F.slot_tuple_add PySem.F.entry_tuple_add (PySem.F.args_tuple_add_2 _ _)
      (tuple_addW2 t b vs.toArray ws.toArray n n2 dd dd2 sl sl2 (by simpa using hv) (by simpa using hw) (by rw [List.size_toArray, List.size_toArray]; exact hsz)) ⟨ho, ho2, ?_⟩
    rw [e]
    exact h2 hw
def sIx (n d : Nat) : Option Int → Nat
  | none => d
  | some v => if v < 0 then (v + (n : Int)).toNat else min v.toNat n
theorem sIx_le (n d : Nat) (hd : d ≤ n) (o : Option Int) : sIx n d o ≤ n := by
  cases o with
  | none => exact hd
  | some v =>
    show (if v < 0 then (v + (n : Int)).toNat else min v.toNat n) ≤ n
    by_cases hv : v < 0
    · rw [if_pos hv]; omega
    · rw [if_neg hv]; exact Nat.min_le_right _ _
theorem clip_eq (v : Int) (n d : Nat) : (if v < 0 then max (v + (n : Int)) 0 else min v (n : Int)) = ((sIx n d (some v) : Nat) : Int) := by
  show (if v < 0 then max (v + (n : Int)) 0 else min v (n : Int)) = (((if v < 0 then (v + (n : Int)).toNat else min v.toNat n) : Nat) : Int)
  by_cases hv : v < 0
  · simp only [if_pos hv]; omega
  · simp only [if_neg hv]; omega
theorem adjust_gen (lo hi : Option Int) (n : Nat) : Builtin.Slice.sliceAdjust lo hi 1 (n : Int) = (((sIx n 0 lo : Nat) : Int), ((sIx n n hi : Nat) : Int)) := by
  have h1 : ¬ ((1 : Int) < 0) := by omega
  unfold Builtin.Slice.sliceAdjust
  simp only [h1, if_false]
  refine Prod.ext ?_ ?_
  · cases lo with
    | none => rfl
    | some v => exact clip_eq v n 0
  · cases hi with
    | none => rfl
    | some v => exact clip_eq v n n
theorem places_gen (i j : Nat) : Builtin.Slice.slicePlaces (i : Int) (j : Int) 1 = j - i := by
  unfold Builtin.Slice.slicePlaces
  have h1 : (1 : Int) > 0 := by omega
  simp only [h1, if_true, Int.ediv_one]
  split <;> omega
theorem slicePart_ {v : Value} {o : Option Int} {Q : Option Int → Shared → Prop} (p : IsPart v o) (h : Q o s) : wpAny (model prog w) A (Builtin.Slice.slicePartIndex v) Q E s := by
  cases p with
  | none => exact slicePart_none h
  | int i t => exact slicePart_int h
theorem sliceApplied_gen {sl : Addr} {vl vu : Value} {lo hi : Option Int} {n : Nat} {Q : Int × Int × Nat → Shared → Prop} (hs : s.heap.IsSliceOf sl vl vu .none) (pl : IsPart vl lo) (pu : IsPart vu hi)
    (h : Q (((sIx n 0 lo : Nat) : Int), 1, sIx n n hi - sIx n 0 lo) s) : wpAny (model prog w) A (Builtin.Slice.sliceApplied (.ref sl) (pure (n : Int))) Q E s := by
  obtain ⟨os, hos, hcs, hds⟩ := id hs
  unfold Builtin.Slice.sliceApplied Builtin.Slice.sliceFields
  refine wpAny_bind (wpAny_bind (wpAny_field hos hds (x := vl) rfl (wpAny_bind (wpAny_field hos hds (x := vu) rfl (wpAny_bind (wpAny_field hos hds (x := .none) rfl (wpAny_pure ?_)))))))
  refine wpAny_bind (slicePart_none ?_)
  show wpAny _ _ (if ((1 : Int) == 0) = true then _ else _) _ _ s
  rw [if_neg (by decide)]
  refine wpAny_bind (slicePart_ pl (wpAny_bind (slicePart_ pu (wpAny_bind (wpAny_pure ?_)))))
  show wpAny _ _ (match Builtin.Slice.sliceAdjust lo hi 1 (n : Int) with | (lo, hi) => pure (lo, (1 : Int), Builtin.Slice.slicePlaces lo hi 1)) _ _ s
  rw [adjust_gen lo hi n]
  show wpAny _ _ (pure (((sIx n 0 lo : Nat) : Int), (1 : Int), Builtin.Slice.slicePlaces ((sIx n 0 lo : Nat) : Int) ((sIx n n hi : Nat) : Int) 1)) _ _ s
  rw [places_gen]
  exact wpAny_pure h
theorem pick_gen (xs : Array Value) (i k : Nat) : ((List.range k).filterMap fun (m : Nat) => xs[((i : Int) + (m : Int) * 1).toNat]?).toArray = ((xs.toList.drop i).take k).toArray := by
  have e : (fun (m : Nat) => xs[((i : Int) + (m : Int) * 1).toNat]?) = fun m => xs[i + m]? := by
    funext m
    have : ((i : Int) + (m : Int) * 1).toNat = i + m := by omega
    rw [this]
  rw [e]
  have := pick_run xs i k
  rw [List.filterMap_map] at this
  have e2 : ((fun x => xs[x]?) ∘ fun x => i + x) = fun m => xs[i + m]? := rfl
  rw [e2] at this
  rw [this]
theorem getItem_tuple_cut {t sl : Addr} {items : Array Value} {vl vu : Value} {lo hi : Option Int} {Q : Value → Shared → Prop} (ht : IsTup s.heap t items) (hs : s.heap.IsSliceOf sl vl vu .none) (pl : IsPart vl lo) (pu : IsPart vu hi)
    (hw : ¬ (sIx items.size 0 lo = 0 ∧ sIx items.size items.size hi = items.size))
    (h : Q (.ref s.heap.objs.size) { s with heap := s.heap.push { cls := .type "tuple", data := .seq ((items.toList.drop (sIx items.size 0 lo)).take (sIx items.size items.size hi - sIx items.size 0 lo)).toArray } })
    (hsz : items.size ≤ sizeLine) : wpAny (model prog w) A (getItem (.ref t) (.ref sl)) Q E s := by
  have htake : sizeOk (.seq ((items.toList.drop (sIx items.size 0 lo)).take (sIx items.size items.size hi - sIx items.size 0 lo)).toArray) := by
    show ((items.toList.drop (sIx items.size 0 lo)).take (sIx items.size items.size hi - sIx items.size 0 lo)).toArray.size ≤ sizeLine
    rw [List.size_toArray, List.length_take, List.length_drop, Array.length_toList]
    omega
  have hj : sIx items.size items.size hi ≤ items.size := sIx_le _ _ (Nat.le_refl _) hi
  obtain ⟨os, hos, hcs, hds⟩ := id hs
  have hTs : s.TypeIs (.ref sl) "slice" := ⟨os, hos, hcs⟩
  unfold getItem
  try with_reducible refine wpAny_holding ?_
  first | refine wpAny_bind (wpAny_pure ?_) | skip
  refine wpAny_bind (wpAny_sequenceKey ht.typeIs (by decide) ?_)
  refine wpAny_bind (wpAny_callSpecial?_slot (name := Str.ofString "__getitem__") ht.typeIs PyProof.Rows.slot_tuple_getitem
    (wpAny_call_entry PyProof.Rows.slot_tuple_getitem ht.typeIs entry_tuple_getitem ?_ (args_tuple_getitem _ _)))
  show wpAny _ _ (Builtin.Tuple.tupleItemsOf (.ref t) >>= _) _ _ s
  refine wpAny_bind (tupleItemsOf_ ht ?_)
  refine wpAny_bind (wpAny_typeOf hTs ?_)
  rw [if_pos (by decide)]
  refine wpAny_bind (sliceApplied_gen hs pl pu ?_)
  have hno : ¬ ((((sIx items.size 0 lo : Nat) : Int) == 0 && (1 : Int) == 1 && (sIx items.size items.size hi - sIx items.size 0 lo) == items.size) = true) := by
    intro q
    rw [Bool.and_eq_true, Bool.and_eq_true] at q
    have q1 : ((sIx items.size 0 lo : Nat) : Int) = 0 := eq_of_beq q.1.1
    have q2 : sIx items.size items.size hi - sIx items.size 0 lo = items.size := eq_of_beq q.2
    exact hw ⟨by omega, by omega⟩
  show wpAny _ _ (if (((sIx items.size 0 lo : Nat) : Int) == 0 && (1 : Int) == 1 && (sIx items.size items.size hi - sIx items.size 0 lo) == items.size) = true then _ else _) _ _ s
  rw [if_neg hno, pick_gen]
  first
    | exact wpAny_bind (m := Builtin.Tuple.tupleExact _) (wpAny_newObj_type (wpAny_pure ⟨_, rfl, wpAny_pure h⟩) htake)
    | exact wpAny_bind (m := Builtin.Tuple.tupleExact _) (wpAny_newObj_type (wpAny_bind (wpAny_pure (wpAny_pure ⟨_, rfl, wpAny_pure h⟩))) htake)
    | exact wpAny_bind (wpAny_bind (m := Builtin.Tuple.tupleExact _) (wpAny_newObj_type (wpAny_pure (wpAny_pure ⟨_, rfl, wpAny_pure h⟩)) htake))
    | exact wpAny_bind (wpAny_bind (m := Builtin.Tuple.tupleExact _) (wpAny_newObj_type (wpAny_pure ⟨_, rfl, wpAny_pure h⟩) htake))
end
end HT
namespace L2
open PySem PySem.Spec PyProof.Rows
abbrev TO := St → Hp → (Option Int → Hp → Prop) → Prop
def PO (X : Cx) (e : Option Expr) (t : TO) : Prop :=
  ∀ (pins : List (Addr × Obj)) (s : Shared) (σ : St) (H : Hp) (Q : Option Int → Hp → Prop), Inv X pins σ H s → t σ H Q →
    wpAny (model X.prog X.w) X.A (evalPart e X.env) (fun u s' => ∃ o H', Inv X pins σ H' s' ∧ IsPart u o ∧ Q o H') X.xe s
def tNoPart : TO := fun _ H Q => Q none H
def tPart (t : TE) : TO := fun σ H Q => t σ H fun x H1 => ∃ i, x = .int i ∧ Q (some i) H1
section
variable {X : Cx} {e : Expr} {te : TE} {lo hi : Option Expr} {tl th : TO} {pos p2 : Pos}
theorem po_none : PO X none tNoPart := by
  intro pins s σ H Q I h
  rw [evalPart_none]
  exact wpAny_pure ⟨none, H, I, .none, h⟩
theorem po_some (h : PE X e te) : PO X (some e) (tPart te) := by
  intro pins s σ H Q I hw
  rw [evalPart_some]
  refine thn (h pins s σ H _ I hw) fun u s1 ⟨x, H1, I1, r1, q1⟩ => ?_
  obtain ⟨i, rfl, q⟩ := q1
  obtain ⟨t, rfl⟩ := r1
  exact ⟨some i, H1, I1, .int i t, q⟩
def SlR (X : Cx) (r : V → Option Int → Option Int → Hp → VK → Prop) : Prop :=
  ∀ (pins : List (Addr × Obj)) (s : Shared) (σ : St) (H : Hp) (x : V) (v vl vu : Value) (lo hi : Option Int) (sl : Addr) (Q : VK), Inv X pins σ H s → RelV x v → s.heap.IsSliceOf sl vl vu .none → IsPart vl lo → IsPart vu hi → r x lo hi H Q →
    ∃ T id, typeLookup (.type T) "__getitem__" = pure (some (.builtin id)) ∧ s.TypeIs v T ∧ wpAny (model X.prog X.w) X.A (getItem v (.ref sl)) (EP X pins σ Q) X.xe s
theorem SlR.or {r r' : V → Option Int → Option Int → Hp → VK → Prop} (h : SlR X r) (h' : SlR X r') : SlR X (fun x lo hi H Q => r x lo hi H Q ∨ r' x lo hi H Q) := by
  intro pins s σ H x v vl vu lo hi sl Q I rx hs pl pu q
  rcases q with q | q
  · exact h pins s σ H x v vl vu lo hi sl Q I rx hs pl pu q
  · exact h' pins s σ H x v vl vu lo hi sl Q I rx hs pl pu q
def tSl (r : V → Option Int → Option Int → Hp → VK → Prop) (te : TE) (tl th : TO) : TE := fun σ H Q => te σ H fun x H1 => tl σ H1 fun l H2 => th σ H2 fun u H3 => r x l u H3 Q
theorem pe_slice {r : V → Option Int → Option Int → Hp → VK → Prop} (hr : SlR X r) (he : PE X e te) (hl : PO X lo tl) (hu : PO X hi th) : PE X (.Subscript e (.Slice lo hi none p2) pos) (tSl r te tl th) := by
  intro pins s σ H Q I h
  refine Subscript_ (thn (he pins s σ H _ I h) fun v s1 ⟨x, H1, I1, r1, q1⟩ => ?_)
  refine wpAny_Slice (thn (hl pins s1 σ H1 _ I1 q1) fun vl s2 ⟨l, H2, I2, pl, q2⟩ => thn (hu pins s2 σ H2 _ I2 q2) fun vu s3 ⟨u, H3, I3, pu, q3⟩ => ?_)
  rw [evalPart_none]
  refine wpAny_pure ?_
  have I4 : Inv X pins σ H3 { s3 with heap := s3.heap.push { cls := .type "slice", data := .fields #[vl, vu, .none] } } := I3.kept (t' := s3.toks) fun b ob q => Heap.get?_push_of_some _ q
  obtain ⟨T, id, hT, ht, hg⟩ := hr pins { s3 with heap := s3.heap.push { cls := .type "slice", data := .fields #[vl, vu, .none] } } σ H3 x v vl vu l u s3.heap.objs.size Q I4 r1 (Heap.IsSliceOf.new ..) pl pu q3
  show wpAny (model X.prog X.w) X.A (subscriptTail e (.Slice lo hi none p2) v (.ref s3.heap.objs.size)) (EP X pins σ Q) X.xe { s3 with heap := s3.heap.push { cls := .type "slice", data := .fields #[vl, vu, .none] } }
  exact tail_any (ops := [.ref s3.heap.objs.size, v]) ht hT hg (by with_unfolding_all rfl)
def cutV (xs : List V) (lo hi : Option Int) : List V := (xs.drop (HT.sIx xs.length 0 lo)).take (HT.sIx xs.length xs.length hi - HT.sIx xs.length 0 lo)
theorem cutV_length (xs : List V) (lo hi : Option Int) : (cutV xs lo hi).length ≤ xs.length := by
  unfold cutV
  rw [List.length_take, List.length_drop]
  omega
def rSlT (K : PySem.W.Frag) : V → Option Int → Option Int → Hp → VK → Prop := fun x lo hi H Q => ∃ a xs, x = .ref a ∧ SqT K H a xs ∧
  ¬ (HT.sIx xs.length 0 lo = 0 ∧ HT.sIx xs.length xs.length hi = xs.length) ∧ ∀ p, H p = none → Q (.ref p) (upd H p (.tup (cutV xs lo hi)))
theorem sl_tup : SlR X (rSlT X.K) := by
  intro pins s σ H x v vl vu lo hi sl Q I rx hs pl pu h
  obtain ⟨a, xs, rfl, hx, hw, q⟩ := h
  cases rx
  obtain ⟨its, r, ht, hz⟩ := I.tuple hx
  have hlen : its.toArray.size = xs.length := by rw [List.size_toArray]; exact r.length.symm
  refine ⟨"tuple", _, PyProof.Rows.slot_tuple_getitem.lookup, ht.typeIs, ?_⟩
  refine HT.getItem_tuple_cut ht hs pl pu (by rw [hlen]; exact hw) ?_ (by rw [hlen]; exact hz)
  rw [hlen]
  refine ⟨.ref s.heap.objs.size, _, I.laid (t' := s.toks) (o := .tup (cutV xs lo hi)) (fun b ob q => Heap.get?_push_of_some _ q) (Nat.le_refl _) ?_, rfl, q _ (I.hok.fresh (Nat.le_refl _))⟩
  exact ⟨Nat.le_trans (cutV_length xs lo hi) hz, _, (r.drop (HT.sIx xs.length 0 lo)).take (HT.sIx xs.length xs.length hi - HT.sIx xs.length 0 lo), IsTup.new _ _⟩
def rCatT (K : PySem.W.Frag) : R2 := fun x y H Q => ∃ a b xs ys, x = .ref a ∧ y = .ref b ∧ SqT K H a xs ∧ SqT K H b ys ∧ xs ≠ [] ∧ xs.length + ys.length ≤ sizeLine ∧
  (ys = [] → Q (.ref a) H) ∧ (ys ≠ [] → ∀ p, H p = none → Q (.ref p) (upd H p (.tup (xs ++ ys))))
theorem Vals.nil_iff {xs : List V} {us : List Value} (r : Vals xs us) : us = [] ↔ xs = [] := by
  cases r with
  | nil => simp
  | cons _ _ => simp
theorem op_catT : OpR X (binaryOp .Add) (rCatT X.K) := by
  intro pins s σ H x y v u Q I rx ry h
  obtain ⟨a, b, xs, ys, rfl, rfl, ha, hb, hx, hz, q1, q2⟩ := h
  cases rx
  cases ry
  obtain ⟨its, r1, p1, _⟩ := I.tuple ha
  obtain ⟨its2, r2, p2, _⟩ := I.tuple hb
  refine HT.cat_tup p1 p2 (fun z => hx (r1.nil_iff.mp z)) (fun z => ⟨.ref a, H, I, rfl, q1 (r2.nil_iff.mp z)⟩) (fun z => ?_) (by rw [← r1.length, ← r2.length]; exact hz)
  refine ⟨.ref s.heap.objs.size, _, I.laid (t' := s.toks) (o := .tup (xs ++ ys)) (fun b ob q => Heap.get?_push_of_some _ q) (Nat.le_refl _) ?_, rfl, q2 (fun w => z (r2.nil_iff.mpr w)) _ (I.hok.fresh (Nat.le_refl _))⟩
  exact ⟨by rw [List.length_append]; exact hz, _, r1.append r2, IsTup.new _ _⟩
end
end L2
namespace L2
open PySem PySem.Spec PyProof.Rows
def ixN (n : Nat) (i : Int) : Option Nat := if 0 ≤ i then (if i < n then some i.toNat else none) else if -(n : Int) ≤ i then some (i + n).toNat else none
def atI {α : Type} (xs : List α) (i : Int) : Option α := (ixN xs.length i).bind fun j => xs[j]?
theorem ixN_seq {n : Nat} {i : Int} {j : Nat} (h : ixN n i = some j) : seqIndex? i n = some j ∧ j < n ∧ -(n : Int) ≤ i ∧ i < n := by
  unfold ixN at h
  by_cases h0 : 0 ≤ i
  · rw [if_pos h0] at h
    by_cases h1 : i < n
    · rw [if_pos h1] at h
      have e : i.toNat = j := Option.some.inj h
      exact ⟨by rw [seqIndex_of h0 h1, e], by omega, by omega, h1⟩
    · rw [if_neg h1] at h; cases h
  · rw [if_neg h0] at h
    by_cases h1 : -(n : Int) ≤ i
    · rw [if_pos h1] at h
      have e : (i + n).toNat = j := Option.some.inj h
      exact ⟨by rw [seqIndex_neg (by omega) h1, e], by omega, h1, by omega⟩
    · rw [if_neg h1] at h; cases h
theorem atI_get {α : Type} {xs : List α} {i : Int} {v : α} (h : atI xs i = some v) : ∃ j, seqIndex? i xs.length = some j ∧ xs[j]? = some v ∧ j < xs.length ∧ -(xs.length : Int) ≤ i ∧ i < xs.length := by
  unfold atI at h
  cases e : ixN xs.length i with
  | none => rw [e] at h; cases h
  | some j =>
    rw [e] at h
    obtain ⟨h1, h2, h3, h4⟩ := ixN_seq e
    exact ⟨j, h1, h, h2, h3, h4⟩
theorem atI_nat {α : Type} {xs : List α} {j : Nat} {v : α} (h : xs[j]? = some v) : atI xs (j : Int) = some v := by
  have hj : j < xs.length := (List.getElem?_eq_some_iff.mp h).1
  have e : ixN xs.length (j : Int) = some j := by
    unfold ixN
    rw [if_pos (by omega), if_pos (by omega)]; simp
  unfold atI; rw [e]; exact h
def PlainIx (b : Expr) : Prop := ∀ o i, subscripted b false o i = operate [o, i] (getItem o i)
def IxR (X : Cx) (r : R2) : Prop :=
  ∀ (value slice : Expr) (pins : List (Addr × Obj)) (s : Shared) (σ : St) (H : Hp) (x y : V) (v u : Value) (Q : VK), Inv X pins σ H s → RelV x v → RelV y u → r x y H Q →
    subscripted slice false v u = operate [v, u] (getItem v u) → wpAny (model X.prog X.w) X.A (subscriptTail value slice v u) (EP X pins σ Q) X.xe s
def MtR (X : Cx) (id : String) (r : V → List V → Hp → VK → Prop) : Prop :=
  ∀ (pins : List (Addr × Obj)) (s : Shared) (σ : St) (H : Hp) (x : V) (xs : List V) (v : Value) (us : List Value) (Q : VK), Inv X pins σ H s → RelV x v → Vals xs us → r x xs H Q →
    wpAny (model X.prog X.w) X.A (call (.builtin id) (v :: us)) (EP X pins σ Q) X.xe s
section
variable {X : Cx} {a b : Expr} {ta tb : TE} {pos : Pos}
theorem IxR.or {r r' : R2} (h : IxR X r) (h' : IxR X r') : IxR X (fun x y H Q => r x y H Q ∨ r' x y H Q) := by
  intro value slice pins s σ H x y v u Q I rx ry q hs
  rcases q with q | q
  · exact h value slice pins s σ H x y v u Q I rx ry q hs
  · exact h' value slice pins s σ H x y v u Q I rx ry q hs
theorem pe_ix {r : R2} (hr : IxR X r) (ha : PE X a ta) (hb : PE X b tb) (hs : PlainIx b) : PE X (.Subscript a b pos) (tOp r ta tb) := by
  intro pins s σ H Q I h
  exact Subscript_ (binT ha hb I h fun v u s2 x y H2 I2 rx ry q => hr a b pins s2 σ H2 x y v u Q I2 rx ry q (hs _ _))
def rIxL (K : PySem.W.Frag) : R2 := fun x y H Q => ∃ p xs i v, x = .ref p ∧ y = .int i ∧ SqL K H p xs ∧ atI xs i = some v ∧ Q v H
def rIxT (K : PySem.W.Frag) : R2 := fun x y H Q => ∃ p xs i v, x = .ref p ∧ y = .int i ∧ SqT K H p xs ∧ atI xs i = some v ∧ Q v H
def rIxS : R2 := fun x y H Q => ∃ z i c, x = .str z ∧ y = .int i ∧ z.length ≤ sizeLine ∧ atI z.cps.toList i = some c ∧ Q (.str ⟨#[c]⟩) H
theorem ix_list : IxR X (rIxL X.K) := by
  intro value slice pins s σ H x y v u Q I rx ry h hs
  obtain ⟨p, xs, i, z, rfl, rfl, hq, he, q⟩ := h
  cases rx
  obtain ⟨t, rfl⟩ := ry
  obtain ⟨its, r, pl, hz⟩ := I.list hq
  obtain ⟨j, h1, h2, h3, h4, h5⟩ := atI_get he
  obtain ⟨w, ew, rw'⟩ := r.get h2
  have hl := r.length
  have hn := line63
  have fin : EP X pins σ Q w s := ⟨z, H, I, rw', q⟩
  by_cases h0 : 0 ≤ i
  · have hj : i.toNat = j := by
      rw [seqIndex_of h0 h5] at h1
      exact Option.some.inj h1
    exact item_listR pl.isList h0 (by omega) (by rw [hj]; simpa using ew) fin hs
  · have hj : (i + (its.toArray.size : Int)).toNat = j := by
      rw [seqIndex_neg (by omega) h4] at h1
      rw [List.size_toArray, ← hl]
      exact Option.some.inj h1
    exact subscriptTail_builtinR (x := w) pl.isList.typeIs slot_list_getitem.lookup
      (wpAny_getItem_list_neg (Q := fun r s' => r = w ∧ EP X pins σ Q r s') pl.isList (by omega) (by rw [List.size_toArray] <;> omega) (by omega) (by rw [hj]; simpa using ew) ⟨rfl, fin⟩) hs
theorem ix_tup : IxR X (rIxT X.K) := by
  intro value slice pins s σ H x y v u Q I rx ry h hs
  obtain ⟨p, xs, i, z, rfl, rfl, hq, he, q⟩ := h
  cases rx
  obtain ⟨t, rfl⟩ := ry
  obtain ⟨its, r, pl, hz⟩ := I.tuple hq
  obtain ⟨j, h1, h2, h3, h4, h5⟩ := atI_get he
  obtain ⟨w, ew, rw'⟩ := r.get h2
  have hl := r.length
  have hn := line63
  have fin : EP X pins σ Q w s := ⟨z, H, I, rw', q⟩
  exact subscriptTail_builtinR (x := w) pl.typeIs slot_tuple_getitem.lookup
    (getItem_tuple (j := j) (Q := fun r s' => r = w ∧ EP X pins σ Q r s') pl (by omega) (by omega) (by rw [List.size_toArray, ← hl]; exact h1) (by simpa using ew) ⟨rfl, fin⟩) hs
theorem ix_str : IxR X rIxS := by
  intro value slice pins s σ H x y v u Q I rx ry h hs
  obtain ⟨z, i, c, rfl, rfl, hz, he, q⟩ := h
  obtain ⟨t, rfl⟩ := rx
  obtain ⟨t', rfl⟩ := ry
  obtain ⟨j, h1, h2, h3, h4, h5⟩ := atI_get he
  have hl : z.cps.toList.length = z.length := by simp [Str.length]
  rw [hl] at h1 h4 h5
  have hn := line63
  exact tail_any (typeIs_str s z t) slot_str_getitem.lookup (getItem_str (c := c) (by
    have e1 : decide (i < -(2 ^ 63 : Int)) = false := decide_eq_false (by omega)
    have e2 : decide (i ≥ 2 ^ 63) = false := decide_eq_false (by omega)
    rw [e1, e2, Bool.or_false]) (by rw [h1]; simpa using h2) ⟨.str ⟨#[c]⟩, H, I.tok _, ⟨_, rfl⟩, q⟩) hs
def rIx (K : PySem.W.Frag) : R2 := fun x y H Q => rIxL K x y H Q ∨ rIxT K x y H Q ∨ rIxS x y H Q
theorem ix_seq : IxR X (rIx X.K) := ix_list.or (ix_tup.or ix_str)
theorem mapSeq_set (its : List Value) (n j : Nat) (u : Value) : Obj.mapSeq (·.setIfInBounds j u) { cls := .type "list", data := .seq its.toArray n } = { cls := .type "list", data := .seq (its.set j u).toArray n } := by
  simp [Obj.mapSeq]
theorem Inv.lst {pins : List (Addr × Obj)} {σ : St} {H : Hp} {s : Shared} {p : Addr} {xs : List V} (I : Inv X pins σ H s) (h : H p = some (.lst xs)) :
    ∃ (its : List Value) (n : Nat), Vals xs its ∧ s.heap.get? p = some { cls := .type "list", data := .seq its.toArray n } ∧ xs.length ≤ sizeLine := by
  obtain ⟨z, its, n, r, e⟩ := I.hok p _ h
  exact ⟨its, n, r, e, z⟩
theorem Inv.lstUpd {pins : List (Addr × Obj)} {σ : St} {H : Hp} {s : Shared} {p : Addr} {xs ys : List V} {its its' : List Value} {n n' : Nat} {f : Obj → Obj} (I : Inv X pins σ H s) (h : H p = some (.lst xs))
    (ho : s.heap.get? p = some { cls := .type "list", data := .seq its.toArray n }) (hf : f { cls := .type "list", data := .seq its.toArray n } = { cls := .type "list", data := .seq its'.toArray n' }) (r : Vals ys its') (hz : ys.length ≤ sizeLine) (t' : Nat) (ht : 0 < t' := by first | exact Nat.succ_pos _ | assumption | exact Inv.tk ‹_› | omega) :
    Inv X pins σ (upd H p (.lst ys)) { s with heap := s.heap.update p f, toks := t' } := by
  have e : (s.heap.update p f).get? p = some { cls := .type "list", data := .seq its'.toArray n' } := by
    rw [Heap.get?_update_self f ho (by rw [hf] <;> rfl), hf]
  refine I.write (x := p) (e := p) (by rw [h]; trivial) (.inl rfl) (fun b u hb q => (Heap.get?_update_other _ _ (Ne.symm hb)).trans q) ⟨_, e⟩ ?_
  exact ⟨hz, its', n', r, e⟩
def rSetL : V → V → V → Hp → (Hp → Prop) → Prop := fun o i v H Q => ∃ p xs k j, o = .ref p ∧ i = .int k ∧ H p = some (.lst xs) ∧ ixN xs.length k = some j ∧ Q (upd H p (.lst (xs.set j v)))
theorem set_list : PSet X rSetL := by
  intro pins s σ H o i v ov iv u Q I ro ri rv h
  obtain ⟨p, xs, k, j, rfl, rfl, hp, hj, q⟩ := h
  cases ro
  obtain ⟨t, rfl⟩ := ri
  obtain ⟨its, n, r, ho, hz⟩ := I.lst hp
  obtain ⟨h1, h2, h3, h4⟩ := ixN_seq hj
  have hl := r.length
  have hn := line63
  have I' : Inv X pins σ (upd H p (.lst (xs.set j v))) { s with heap := s.heap.update p (Obj.mapSeq (·.setIfInBounds j u)) } :=
    I.lstUpd hp ho (mapSeq_set its n j u) (r.set rv j) (by rw [List.length_set]; exact hz) s.toks
  by_cases h0 : 0 ≤ k
  · have hk : k.toNat = j := by
      rw [seqIndex_of h0 h4] at h1
      exact Option.some.inj h1
    exact PySem.W.ki_setAt ho h0 (by omega) (by rw [List.size_toArray, ← hl]; exact h4) (by rw [hk]; exact ⟨_, I', q⟩)
  · have hk : (k + (its.toArray.size : Int)).toNat = j := by
      rw [seqIndex_neg (by omega) h3] at h1
      rw [List.size_toArray, ← hl]
      exact Option.some.inj h1
    exact PySem.W.ki_setBack ho (by omega) (by rw [List.size_toArray, ← hl]; exact h3) (by omega) (by rw [hk]; exact ⟨_, I', q⟩)
theorem slice_bounds (lo hi : Option Int) (n : Nat) : (sliceBounds lo hi none n).1 = ((HT.sIx n 0 lo : Nat) : Int) ∧ (sliceBounds lo hi none n).2.1 = ((HT.sIx n n hi : Nat) : Int) ∧ (sliceBounds lo hi none n).2.2 = 1 := by
  refine ⟨?_, ?_, rfl⟩
  · cases lo with
    | none => simp [sliceBounds, HT.sIx]
    | some i =>
      simp only [sliceBounds, HT.sIx, Option.getD_none, show (1 : Int) > 0 by decide, if_true]
      by_cases h : i < 0
      · simp only [h, if_true] <;> omega
      · simp only [h, if_false] <;> omega
  · cases hi with
    | none => simp [sliceBounds, HT.sIx]
    | some i =>
      simp only [sliceBounds, HT.sIx, Option.getD_none, show (1 : Int) > 0 by decide, if_true]
      by_cases h : i < 0
      · simp only [h, if_true] <;> omega
      · simp only [h, if_false] <;> omega
theorem slicePick_cut (its : List Value) (lo hi : Option Int) : slicePick its.toArray lo hi none = ((its.drop (HT.sIx its.length 0 lo)).take (HT.sIx its.length its.length hi - HT.sIx its.length 0 lo)).toArray := by
  obtain ⟨h1, h2, h3⟩ := slice_bounds lo hi its.toArray.size
  unfold slicePick
  rw [h1, h2, h3]
  simp only [sliceRange_one, pick_run, List.size_toArray] <;> rfl
def rSlL (K : PySem.W.Frag) : V → Option Int → Option Int → Hp → VK → Prop := fun x lo hi H Q => ∃ a xs, x = .ref a ∧ SqL K H a xs ∧ ∀ p, H p = none → Q (.ref p) (upd H p (.lst (cutV xs lo hi)))
theorem sl_list : SlR X (rSlL X.K) := by
  intro pins s σ H x v vl vu lo hi sl Q I rx hs pl pu h
  obtain ⟨a, xs, rfl, hx, q⟩ := h
  cases rx
  obtain ⟨its, r, ht, hz⟩ := I.list hx
  have hlen := r.length
  refine ⟨"list", _, slot_list_getitem.lookup, ht.isList.typeIs, ?_⟩
  refine wpAny_getItem_list_slice ht.isList hs pl pu .none (by simp) ?_ (by rw [List.size_toArray] <;> omega)
  rw [slicePick_cut, ← hlen]
  refine ⟨.ref s.heap.objs.size, _, I.laid (t' := s.toks) (o := .lst (cutV xs lo hi)) (fun b ob q => Heap.get?_push_of_some _ q) (Nat.le_refl _) ?_, rfl, q _ (I.hok.fresh (Nat.le_refl _))⟩
  exact ⟨Nat.le_trans (cutV_length xs lo hi) hz, _, 0, (r.drop (HT.sIx xs.length 0 lo)).take (HT.sIx xs.length xs.length hi - HT.sIx xs.length 0 lo), Heap.get?_push_size _ rfl⟩
def flatV : V → Bool
  | .non => true
  | .bl _ => true
  | .int _ => true
  | .str _ => true
  | _ => false
def eqV : V → V → Bool
  | .non, .non => true
  | .bl a, .bl b => a == b
  | .bl a, .int b => (if a then 1 else 0) == b
  | .int a, .bl b => a == (if b then 1 else 0)
  | .int a, .int b => a == b
  | .str a, .str b => a == b
  | _, _ => false
theorem eqAt_V {A : Around} {s : Shared} {y x : V} {u v : Value} (ry : RelV y u) (rx : RelV x v) (fy : flatV y = true) (fx : flatV x = true) : SeqAt.EqAt A s u v (eqV y x) := by
  cases y with
  | non =>
    cases ry
    cases x with
    | non => cases rx; exact SeqAt.EqAt.same _
    | bl b => cases rx; exact SeqAt.EqAt.none_bool b
    | int b => obtain ⟨t, rfl⟩ := rx; exact SeqAt.EqAt.none_int b t
    | str b => obtain ⟨t, rfl⟩ := rx; exact SeqAt.EqAt.none_str b t
    | _ => exact absurd (show false = true from fx) Bool.false_ne_true
  | bl a =>
    cases ry
    cases x with
    | non => cases rx; exact SeqAt.EqAt.bool_none a
    | bl b => cases rx; exact SeqAt.EqAt.bool_bool a b
    | int b => obtain ⟨t, rfl⟩ := rx; exact SeqAt.EqAt.bool_int a b t
    | str b => obtain ⟨t, rfl⟩ := rx; exact SeqAt.EqAt.bool_str a b t
    | _ => exact absurd (show false = true from fx) Bool.false_ne_true
  | int a =>
    obtain ⟨t', rfl⟩ := ry
    cases x with
    | non => cases rx; exact SeqAt.EqAt.int_none a t'
    | bl b => cases rx; exact SeqAt.EqAt.int_bool a t' b
    | int b => obtain ⟨t, rfl⟩ := rx; exact SeqAt.EqAt.int_int a t' b t
    | str b => obtain ⟨t, rfl⟩ := rx; exact SeqAt.EqAt.int_str a t' b t
    | _ => exact absurd (show false = true from fx) Bool.false_ne_true
  | str a =>
    obtain ⟨t', rfl⟩ := ry
    cases x with
    | non => cases rx; exact SeqAt.EqAt.str_none a t'
    | bl b => cases rx; exact SeqAt.EqAt.str_bool a t' b
    | int b => obtain ⟨t, rfl⟩ := rx; exact SeqAt.EqAt.str_int a t' b t
    | str b => obtain ⟨t, rfl⟩ := rx; exact SeqAt.EqAt.str_str a t' b t
    | _ => exact absurd (show false = true from fx) Bool.false_ne_true
  | _ => exact absurd (show false = true from fy) Bool.false_ne_true
def eqU (x : V) (u : Value) : Bool := match u with
  | .none => eqV .non x
  | .bool b => eqV (.bl b) x
  | .int i _ => eqV (.int i) x
  | .str z _ => eqV (.str z) x
  | _ => false
theorem eqU_of {x y : V} {u : Value} (r : RelV y u) (f : flatV y = true) : eqU x u = eqV y x := by
  cases y with
  | non => cases r; rfl
  | bl b => cases r; rfl
  | int i => obtain ⟨t, rfl⟩ := r; rfl
  | str z => obtain ⟨t, rfl⟩ := r; rfl
  | _ => exact absurd (show false = true from f) Bool.false_ne_true
theorem any_eqU {x : V} : ∀ {xs : List V} {us : List Value}, Vals xs us → xs.all flatV = true → us.any (eqU x) = xs.any fun y => eqV y x
  | _, _, .nil, _ => rfl
  | y :: xs, u :: us, .cons r t, f => by
    rw [List.all_cons, Bool.and_eq_true] at f
    rw [List.any_cons, List.any_cons, eqU_of r f.1, any_eqU t f.2]
theorem mem_eqAt {A : Around} {s : Shared} {x : V} {v : Value} (rx : RelV x v) (fx : flatV x = true) : ∀ {xs : List V} {us : List Value}, Vals xs us → xs.all flatV = true → ∀ u ∈ us, SeqAt.EqAt A s u v (eqU x u)
  | _, _, .nil, _ => fun u hu => by cases hu
  | y :: xs, u :: us, .cons r t, f => fun u' hu => by
    rw [List.all_cons, Bool.and_eq_true] at f
    rcases List.mem_cons.mp hu with rfl | hu
    · rw [eqU_of r f.1]; exact eqAt_V r rx f.1 fx
    · exact mem_eqAt rx fx t f.2 u' hu
def inV (x : V) (xs : List V) : Bool := xs.any fun y => eqV y x
def rIn (K : PySem.W.Frag) (neg : Bool) : R2 := fun x y H Q => ∃ p xs, y = .ref p ∧ (SqL K H p xs ∨ SqT K H p xs) ∧ flatV x = true ∧ xs.all flatV = true ∧ Q (.bl (if neg then !inV x xs else inV x xs)) H
theorem op_in_seq : OpR X (compareOp .In) (rIn X.K false) := by
  intro pins s σ H x y v u Q I rx ry h
  obtain ⟨p, xs, rfl, hq, fx, fs, q⟩ := h
  cases ry
  rcases hq with hq | hq
  · obtain ⟨its, r, pl, hz⟩ := I.list hq
    refine SeqAt.in_listAt (eqU x) pl.isList (fun w hw => mem_eqAt rx fx r fs w (by simpa using hw)) ⟨.bl _, H, I, rfl, ?_⟩
    rw [show its.toArray.any (eqU x) = its.any (eqU x) by simp, any_eqU r fs]
    exact q
  · obtain ⟨its, r, pl, hz⟩ := I.tuple hq
    refine SeqAt.in_tupleAt (eqU x) pl (fun w hw => mem_eqAt rx fx r fs w (by simpa using hw)) ⟨.bl _, H, I, rfl, ?_⟩
    rw [show its.toArray.any (eqU x) = its.any (eqU x) by simp, any_eqU r fs]
    exact q
theorem op_notIn_seq : OpR X (compareOp .NotIn) (rIn X.K true) := by
  intro pins s σ H x y v u Q I rx ry h
  obtain ⟨p, xs, rfl, hq, fx, fs, q⟩ := h
  cases ry
  rcases hq with hq | hq
  · obtain ⟨its, r, pl, hz⟩ := I.list hq
    refine SeqAt.notIn_listAt (eqU x) pl.isList (fun w hw => mem_eqAt rx fx r fs w (by simpa using hw)) ⟨.bl _, H, I, rfl, ?_⟩
    rw [show its.toArray.any (eqU x) = its.any (eqU x) by simp, any_eqU r fs]
    exact q
  · obtain ⟨its, r, pl, hz⟩ := I.tuple hq
    refine SeqAt.notIn_tupleAt (eqU x) pl (fun w hw => mem_eqAt rx fx r fs w (by simpa using hw)) ⟨.bl _, H, I, rfl, ?_⟩
    rw [show its.toArray.any (eqU x) = its.any (eqU x) by simp, any_eqU r fs]
    exact q
theorem op_notIn_str : OpR X (compareOp .NotIn) (fun x y H Q => ∃ i j, x = .str i ∧ y = .str j ∧ Q (.bl (!(!(Builtin.Str.occurrences j i 0 j.length 1).isEmpty))) H) := by
  intro pins s σ H x y v u Q I rx ry h
  obtain ⟨i, j, rfl, rfl, q⟩ := h
  obtain ⟨t, rfl⟩ := rx
  obtain ⟨t', rfl⟩ := ry
  exact notIn_str ⟨.bl _, H, I, rfl, q⟩
theorem call_len_seq : CallR X (.builtin "len") (fun xs H Q => ∃ p ys, xs = [.ref p] ∧ (SqL X.K H p ys ∨ SqT X.K H p ys) ∧ Q (.int ys.length) H) := by
  intro pins s σ H xs us Q I r h
  obtain ⟨p, ys, rfl, hq, q⟩ := h
  obtain ⟨u, rfl, rx⟩ := vals1 r
  cases rx
  have hn := line63
  rcases hq with hq | hq
  · obtain ⟨its, r', pl, hz⟩ := I.list hq
    have hlen := r'.length
    exact Calls.call_len_list pl.isList (by simp only [List.size_toArray] <;> omega) ⟨.int ys.length, H, I.tok _, ⟨s.toks + 1, by rw [List.size_toArray, hlen]⟩, q⟩
  · obtain ⟨its, r', pl, hz⟩ := I.tuple hq
    have hlen := r'.length
    exact len_tuple pl (by simp only [List.size_toArray] <;> omega) ⟨.int ys.length, H, I.tok _, ⟨s.toks + 1, by rw [List.size_toArray, hlen]⟩, q⟩
theorem call_len_str : CallR X (.builtin "len") (fun xs H Q => ∃ z, xs = [.str z] ∧ z.length ≤ sizeLine ∧ Q (.int z.length) H) := by
  intro pins s σ H xs us Q I r h
  obtain ⟨z, rfl, hz, q⟩ := h
  obtain ⟨u, rfl, t, rfl⟩ := vals1 r
  have hn := line63
  exact len_str (by omega) ⟨.int z.length, H, I.tok _, ⟨_, rfl⟩, q⟩
theorem CallR.or {f : Value} {r r' : List V → Hp → VK → Prop} (h : CallR X f r) (h' : CallR X f r') : CallR X f (fun xs H Q => r xs H Q ∨ r' xs H Q) := by
  intro pins s σ H xs us Q I rs q
  rcases q with q | q
  · exact h pins s σ H xs us Q I rs q
  · exact h' pins s σ H xs us Q I rs q
theorem call_tuple_of : CallR X (.type "tuple") (fun xs H Q => ∃ p ys, xs = [.ref p] ∧ ((SqL X.K H p ys ∧ ∀ l, H l = none → Q (.ref l) (upd H l (.tup ys))) ∨ (SqT X.K H p ys ∧ Q (.ref p) H))) := by
  intro pins s σ H xs us Q I r h
  obtain ⟨p, ys, rfl, h⟩ := h
  obtain ⟨u, rfl, rx⟩ := vals1 r
  cases rx
  rcases h with ⟨hq, q⟩ | ⟨hq, q⟩
  · obtain ⟨its, r', pl, hz⟩ := I.list hq
    have hlen := r'.length
    refine call_tuple_list pl.isList (fun h' kp => ?_) (by simp only [List.size_toArray] <;> omega)
    have I1 : Inv X pins σ H { s with heap := h' } := I.kept (t' := s.toks) kp
    have I2 : Inv X pins σ (upd H h'.objs.size (.tup ys)) { s with heap := h'.push { cls := .type "tuple", data := .seq its.toArray } } :=
      I1.laid (t' := s.toks) (fun b o e => Heap.get?_push_of_some _ e) (Nat.le_refl _) (show ObjOk X.prog X.w _ _ _ (.tup ys) from ⟨hz, its, r', IsTup.new _ _⟩)
    exact ⟨.ref h'.objs.size, _, I2, rfl, q _ (I1.hok.fresh (Nat.le_refl _))⟩
  · obtain ⟨its, r', pl, hz⟩ := I.tuple hq
    exact call_tuple_same pl ⟨.ref p, H, I, rfl, q⟩
def tyV (K : PySem.W.Frag) (T : String) (x : V) (H : Hp) : Prop := match x with
  | .str _ => T = "str"
  | .int _ => T = "int"
  | .ref p => (T = "list" ∧ ∃ xs, SqL K H p xs) ∨ (T = "tuple" ∧ ∃ o, K.lookup p = some o ∧ o.cls = .type "tuple" ∧ o.dict = none) ∨
      (T = "dict" ∧ ((∃ kvs, H p = some (.dK kvs)) ∨ ∃ kvs, H p = some (.dT kvs))) ∨ (T = "set" ∧ ∃ S n, H p = some (.set S n))
  | _ => False
theorem tyV_is {pins : List (Addr × Obj)} {σ : St} {H : Hp} {s : Shared} {T : String} {x : V} {v : Value} (I : Inv X pins σ H s) (r : RelV x v) (ty : tyV X.K T x H) :
    s.TypeIs v T ∧ ∀ a, v = .ref a → ∃ ob, s.heap.get? a = some ob ∧ ob.dict = none := by
  cases x with
  | str z =>
    obtain ⟨t, rfl⟩ := r
    cases (show T = "str" from ty)
    exact ⟨typeIs_str s z t, fun _ e => nomatch e⟩
  | int i =>
    obtain ⟨t, rfl⟩ := r
    cases (show T = "int" from ty)
    exact ⟨typeIs_int s i t, fun _ e => nomatch e⟩
  | ref p =>
    cases r
    rcases ty with ⟨rfl, xs, hq⟩ | ⟨rfl, o, hk, hc, hd⟩ | ⟨rfl, hk⟩ | ⟨rfl, S, n, hk⟩
    · obtain ⟨its, _, pl, _⟩ := I.list hq
      refine ⟨pl.isList.typeIs, fun a e => ?_⟩
      cases e
      obtain ⟨o, n, e, c, hd, _⟩ := pl
      exact ⟨o, e, hd⟩
    · refine ⟨⟨o, I.kIn p o hk, hc⟩, fun a e => ?_⟩
      cases e
      exact ⟨o, I.kIn _ o hk, hd⟩
    · have z : ∃ o, s.heap.get? p = some o ∧ o.ExactDict := by
        rcases hk with ⟨kvs, hk⟩ | ⟨kvs, hk⟩
        · obtain ⟨_, _, _, _, o, _, _, e, ex, _⟩ := I.hok p _ hk
          exact ⟨o, e, ex⟩
        · obtain ⟨_, _, _, _, o, _, _, e, ex, _⟩ := I.hok p _ hk
          exact ⟨o, e, ex⟩
      obtain ⟨o, e, ex⟩ := z
      refine ⟨⟨o, e, ex.1⟩, fun a e2 => ?_⟩
      cases e2
      exact ⟨o, e, ex.2.1⟩
    · obtain ⟨o, _, _, _, e, ex, _⟩ := I.hok p _ hk
      refine ⟨⟨o, e, ex.1⟩, fun a e2 => ?_⟩
      cases e2
      exact ⟨o, e, ex.2.1⟩
  | _ => exact False.elim ty
def tBM (K : PySem.W.Frag) (T : String) (r : V → List V → Hp → VK → Prop) (to : TE) (t : TA) : TE := fun σ H Q => to σ H fun x H1 => tyV K T x H1 ∧ t σ H1 fun xs H2 => r x xs H2 Q
variable {o e : Expr} {es : List Expr} {to : TE} {t : TA} {name : Str} {apos cpos : Pos} {T id : String} {r : V → List V → Hp → VK → Prop}
theorem pe_bm (pa : PlainAttrs T) (slot : Slot T name id) (hty : typeOf (.builtin id) = pure (.type "method_descriptor")) (hm : MtR X id r) (ho : PE X o to) (ha : PA X (e :: es) t)
    (hbase : attributeBase o name X.env (eval o X.env) = eval o X.env := by rfl)
    (hfew : ((backTo cpos (starEach (e :: es) X.env)).all (fun x => !x.1) && (backToKw cpos (keywordEach [] X.env)).all (fun x => x.1.isSome)
      && decide ((e :: es).length + ([] : List Keyword).length + (if ([] : List Keyword).isEmpty then 0 else 1) < 30)) = true := by rfl)
    (hline : (apos.endLine == cpos.line) = true := by rfl) (hs : starEach (e :: es) X.env = (false, eval e X.env) :: starEach es X.env := by rfl) (hplain : (backTo cpos (starEach es X.env)).any (·.1) = false := by rfl) :
    PE X (.Call (.Attribute o name apos) (e :: es) [] cpos) (tBM X.K T r to t) := by
  intro pins s σ H Q I h
  refine wpAny_Call_method_late hbase hfew hline rfl (thn (ho pins s σ H _ I h) fun v s1 ⟨x, H1, I1, r1, ty, q1⟩ => ?_)
  obtain ⟨h1, h2⟩ := tyV_is I1 r1 ty
  refine ⟨T, id, pa, slot, hty, h1, h2, ?_⟩
  have hA := ha cpos pins s1 σ H1 _ I1 q1
  rw [hs] at hA ⊢
  refine Calls.callWith_builtin (by show (false || (backTo cpos (starEach es X.env)).any (·.1)) = false; rw [hplain] <;> rfl) (Calls.evalArgs_plain ?_)
  exact thn hA fun us s2 ⟨vs, H2, I2, r2, q2⟩ => hm pins s2 σ H2 x vs v us Q I2 r1 r2 q2
end
end L2
namespace L2
open PySem PySem.Spec PyProof.Rows
def MtM (X : Cx) (id : String) (r : V → List V → Hp → VK → Prop) : Prop :=
  ∀ (pins : List (Addr × Obj)) (s : Shared) (σ : St) (H : Hp) (x : V) (xs : List V) (v : Value) (us : List Value) (Q : VK), Inv X pins σ H s → RelV x v → Vals xs us → r x xs H Q →
    wpAny (model X.prog X.w) X.A (call (.builtin id) (v :: us)) (EP X pins σ Q) X.xe s
theorem Vals.one : ∀ {x : V} {us : List Value}, Vals [x] us → ∃ u, us = [u] ∧ RelV x u
  | _, _, .cons r .nil => ⟨_, rfl, r⟩
theorem Vals.two : ∀ {x y : V} {us : List Value}, Vals [x, y] us → ∃ u v, us = [u, v] ∧ RelV x u ∧ RelV y v
  | _, _, _, .cons r (.cons q .nil) => ⟨_, _, rfl, r, q⟩
theorem Vals.rep {xs : List V} {us : List Value} (h : Vals xs us) : ∀ k : Nat, Vals (List.replicate k xs).flatten (List.replicate k us).flatten
  | 0 => .nil
  | k + 1 => by
    rw [List.replicate_succ, List.replicate_succ, List.flatten_cons, List.flatten_cons]
    exact Vals.append h (Vals.rep h k)
theorem foldl_rep (its : List Value) : ∀ (k : Nat) (acc : List Value),
    List.foldl (fun x1 x2 => x1 ++ x2) acc.toArray (List.replicate k its.toArray) = (acc ++ (List.replicate k its).flatten).toArray
  | 0, acc => by simp
  | k + 1, acc => by
    have e : acc.toArray ++ its.toArray = (acc ++ its).toArray := by simp
    have e2 : (acc ++ its) ++ (List.replicate k its).flatten = acc ++ (List.replicate (k + 1) its).flatten := by
      rw [List.replicate_succ, List.flatten_cons, List.append_assoc]
    rw [← e2, ← foldl_rep its k (acc ++ its), ← e, List.replicate_succ, List.foldl_cons]
section
variable {X : Cx} {pins : List (Addr × Obj)} {σ : St} {H : Hp} {s : Shared} {l b : Addr} {xs ys zs : List V}
theorem Inv.lset {its its' : List Value} {n : Nat} {f : Array Value → Array Value} {t' : Nat} (I : Inv X pins σ H s) (hH : H l = some (.lst xs))
    (e : s.heap.get? l = some { cls := .type "list", data := .seq its.toArray n }) (hf : f its.toArray = its'.toArray) (hv : Vals ys its') (hz : ys.length ≤ sizeLine) (ht : 0 < t' := by first | exact Nat.succ_pos _ | assumption | exact Inv.tk ‹_› | omega) :
    Inv X pins σ (upd H l (.lst ys)) { s with heap := s.heap.update l (Obj.mapSeq f), toks := t' } := by
  have q := PySem.IsL.update e f
  rw [hf] at q
  refine I.write (x := l) (e := l) (by rw [hH]; exact trivial) (.inl rfl) (fun b' u hb hu => (Heap.get?_update_other s.heap (Obj.mapSeq f) (Ne.symm hb)).trans hu) ⟨_, q⟩ ?_
  exact ⟨hz, its', _, hv, q⟩
theorem Inv.lnew {its : List Value} {t' : Nat} (I : Inv X pins σ H s) (hv : Vals ys its) (hz : ys.length ≤ sizeLine) (ht : 0 < t' := by first | exact Nat.succ_pos _ | assumption | exact Inv.tk ‹_› | omega) :
    Inv X pins σ (upd H s.heap.objs.size (.lst ys)) { s with heap := s.heap.push { cls := .type "list", data := .seq its.toArray }, toks := t' } :=
  I.laid (fun _ _ q => Heap.get?_push_of_some _ q) (Nat.le_refl _) ⟨hz, its, 0, hv, Heap.get?_push_size _ rfl⟩
theorem Inv.fresh (I : Inv X pins σ H s) : H s.heap.objs.size = none := I.hok.fresh (Nat.le_refl _)
theorem Inv.lstM (I : Inv X pins σ H s) (hH : H l = some (.lst xs)) : xs.length ≤ sizeLine ∧ ∃ (its : List Value) (n : Nat), Vals xs its ∧ xs.length = its.length ∧ s.heap.get? l = some { cls := .type "list", data := .seq its.toArray n } := by
  obtain ⟨z, its, n, r, e⟩ := I.hok l _ hH
  exact ⟨z, its, n, r, r.length, e⟩
theorem notLongL {n : Nat} (h : n ≤ sizeLine) : Builtin.List.listTooLong n = false := by
  unfold Builtin.List.listTooLong
  exact decide_eq_false (by omega)
end
section
variable {X : Cx}
def rAppend : V → List V → Hp → VK → Prop := fun x vs H Q => ∃ l xs y, x = .ref l ∧ vs = [y] ∧ H l = some (.lst xs) ∧ xs.length < sizeLine ∧ Q .non (upd H l (.lst (xs ++ [y])))
theorem mt_append : MtM X "list.append" rAppend := by
  intro pins s σ H x vs v us Q I rx rv h
  obtain ⟨l, xs, y, rfl, rfl, hH, hz, q⟩ := h
  cases rx
  obtain ⟨u, rfl, ru⟩ := rv.one
  obtain ⟨z, its, n, r, hl, e⟩ := I.lstM hH
  refine call_meets F.slot_list_append ⟨_, e, rfl⟩ F.entry_list_append (F.args_list_append_2 _ _) (PySem.list_append l its.toArray n u (by rw [List.size_toArray]; omega)) ⟨e, ?_⟩
  refine ⟨.non, _, I.lset (its' := its ++ [u]) hH e (by simp) (r.append (.cons ru .nil)) ?_, rfl, q⟩
  rw [List.length_append, List.length_singleton]
  omega
def rCat : R2 := fun x y H Q => ∃ l b xs zs, x = .ref l ∧ y = .ref b ∧ H l = some (.lst xs) ∧ H b = some (.lst zs) ∧ xs.length + zs.length ≤ sizeLine ∧ ∀ p, H p = none → Q (.ref p) (upd H p (.lst (xs ++ zs)))
theorem op_cat : OpR X (binaryOp .Add) rCat := by
  intro pins s σ H x y v u Q I rx ry h
  obtain ⟨l, b, xs, zs, rfl, rfl, hH, hB, hz, q⟩ := h
  cases rx
  cases ry
  obtain ⟨z, its, n, r, hl, e⟩ := I.lstM hH
  obtain ⟨z2, its2, n2, r2, hl2, e2⟩ := I.lstM hB
  refine PySem.P.add_list e e2 ?_ (by rw [List.size_toArray, List.size_toArray]; omega)
  have ea : its.toArray ++ its2.toArray = (its ++ its2).toArray := by simp
  rw [ea]
  exact ⟨.ref _, _, I.lnew (t' := s.toks) (r.append r2) (by rw [List.length_append]; omega), rfl, q _ I.fresh⟩
def rRep : R2 := fun x y H Q => ∃ l k xs, x = .ref l ∧ y = .int k ∧ H l = some (.lst xs) ∧ -(2 ^ 63) ≤ k ∧ k < 2 ^ 63 ∧ xs.length * k.toNat ≤ sizeLine ∧
  ∀ p, H p = none → Q (.ref p) (upd H p (.lst (List.replicate k.toNat xs).flatten))
theorem len_rep {α : Type} (xs : List α) (k : Nat) : (List.replicate k xs).flatten.length = k * xs.length := by
  induction k with
  | zero => simp
  | succ k ih => rw [List.replicate_succ, List.flatten_cons, List.length_append, ih, Nat.succ_mul, Nat.add_comm]
theorem op_rep : OpR X (binaryOp .Mult) rRep := by
  intro pins s σ H x y v u Q I rx ry h
  obtain ⟨l, k, xs, rfl, rfl, hH, h1, h2, hz, q⟩ := h
  cases rx
  obtain ⟨t, rfl⟩ := ry
  obtain ⟨z, its, n, r, hl, e⟩ := I.lstM hH
  have hlen : its.toArray.size * k.toNat ≤ sizeLine := by rw [List.size_toArray, ← hl]; exact hz
  have hcap : ¬ its.toArray.size * k.toNat > (2 ^ 63 - 1) / 8 := by
    have : (sizeLine : Nat) ≤ (2 ^ 63 - 1) / 8 := by decide
    omega
  have hfit : ¬ (!Builtin.List.listFitsIndex k) = true := by
    rw [fitsIndex_both h1 h2]
    exact Bool.false_ne_true
  have hlong : ¬ Builtin.List.listTooLong (its.toArray.size * k.toNat) = true := by
    rw [notLongL hlen]
    exact Bool.false_ne_true
  have hnew : List.foldl (fun x1 x2 => x1 ++ x2) #[] (List.replicate (if its.toArray.isEmpty = true then 0 else k.toNat) its.toArray) = (List.replicate k.toNat its).flatten.toArray := by
    have f0 : ∀ m : Nat, List.foldl (fun x1 x2 => x1 ++ x2) #[] (List.replicate m its.toArray) = (List.replicate m its).flatten.toArray := fun m => by
      have := foldl_rep its m []
      rw [List.nil_append] at this
      exact this
    rw [f0]
    cases its with
    | nil => simp
    | cons a r' => rw [if_neg (by simp)]
  refine wpAny_binaryOp_repeat_ref (T := "list") (U := "int") (by decide) ⟨_, e, rfl⟩ (fun s' => typeIs_int s' k t) noFill_list_mul F.fills_int_mul F.slot_int_rmul repeat_list F.slot_int_index.lookup
    (call_meets F.slot_int_rmul (typeIs_int s k t) F.entry_int_rmul (F.args_int_rmul_2 _ _) (int___rmul___int_list k t l its.toArray n)
      ⟨e, rfl, ⟨_, e, rfl⟩, call_meets F.slot_list_mul ⟨_, e, rfl⟩ F.entry_list_mul (F.args_list_mul_2 _ _) (AutoListH.list___mul___list_int_3 l its.toArray n k t hfit hcap hlong) ⟨e, ?_⟩⟩)
  rw [hnew]
  exact ⟨.ref _, _, I.lnew (t' := s.toks) (r.rep k.toNat) (by rw [len_rep, Nat.mul_comm]; exact hz), rfl, q _ I.fresh⟩
end
section
variable {prog : Program} {w : World} {A : Around} {E : Value → Shared → Prop} {s : Shared}
end
section
variable {X : Cx}
end
end L2
namespace L2
open PySem PySem.Spec PyProof.Rows
section
variable {κ : Type} [DecidableEq κ]
def valV (kvs : List (κ × V)) (k : κ) : Option V := (kvs.find? fun kv => decide (kv.1 = k)).map (·.2)
def putK (kvs : List (κ × V)) (k : κ) (v : V) : List (κ × V) :=
  if (kvs.any fun kv => decide (kv.1 = k)) = true then kvs.map (fun kv => if kv.1 = k then (kv.1, v) else kv) else kvs ++ [(k, v)]
theorem valV_pos {p : κ × V} {r : List (κ × V)} {k : κ} (e : p.1 = k) : valV (p :: r) k = some p.2 := by simp [valV, List.find?_cons, e]
theorem valV_neg {p : κ × V} {r : List (κ × V)} {k : κ} (e : ¬ p.1 = k) : valV (p :: r) k = valV r k := by simp [valV, List.find?_cons, e]
theorem valV_any (k : κ) : ∀ kvs : List (κ × V), (kvs.any fun kv => decide (kv.1 = k)) = (valV kvs k).isSome
  | [] => rfl
  | p :: r => by
    rw [List.any_cons]
    by_cases e : p.1 = k
    · simp only [valV_pos e, decide_eq_true e, Bool.true_or, Option.isSome_some]
    · rw [valV_neg e, decide_eq_false e, Bool.false_or]; exact valV_any k r
theorem length_putK (kvs : List (κ × V)) (k : κ) (v : V) : (putK kvs k v).length ≤ kvs.length + 1 := by
  unfold putK
  split
  · rw [List.length_map]; omega
  · rw [List.length_append, List.length_cons, List.length_nil]; omega
theorem RelO.isSome_eq {o : Option V} {u : Option Value} (r : RelO o u) : o.isSome = u.isSome := by
  cases o with
  | none => cases u with
    | none => rfl
    | some _ => exact (show False from r).elim
  | some _ => cases u with
    | none => exact (show False from r).elim
    | some _ => rfl
theorem KV.val {kvs : List (κ × V)} {vs : List (κ × Value)} (r : KV kvs vs) (k : κ) : RelO (valV kvs k) (valueAt vs k) := by
  unfold KV at r
  induction r with
  | nil => exact True.intro
  | @cons p q ps qs h t ih =>
    obtain ⟨h1, h2⟩ := h
    by_cases e : p.1 = k
    · have e' : q.1 = k := h1.symm.trans e
      have b : valueAt (q :: qs) k = some q.2 := by simp [valueAt, List.find?_cons, e']
      rw [valV_pos e, b]; exact h2
    · have e' : ¬ q.1 = k := fun z => e (h1.trans z)
      have b : valueAt (q :: qs) k = valueAt qs k := by simp [valueAt, List.find?_cons, e']
      rw [valV_neg e, b]; exact ih
theorem KV.any {kvs : List (κ × V)} {vs : List (κ × Value)} (r : KV kvs vs) (k : κ) : (kvs.any fun kv => decide (kv.1 = k)) = vs.any fun kv => decide (kv.1 = k) := by
  unfold KV at r
  induction r with
  | nil => rfl
  | cons h t ih => rw [List.any_cons, List.any_cons, ih, h.1]
theorem KV.repl {kvs : List (κ × V)} {vs : List (κ × Value)} (r : KV kvs vs) (k : κ) {y : V} {u : Value} (ry : RelV y u) :
    KV (kvs.map fun kv => if kv.1 = k then (kv.1, y) else kv) (vs.map fun kv => if kv.1 = k then (kv.1, u) else kv) := by
  unfold KV at r ⊢
  induction r with
  | nil => exact .nil
  | @cons p q ps qs h t ih =>
    rw [List.map_cons, List.map_cons]
    refine .cons ?_ ih
    obtain ⟨h1, h2⟩ := h
    by_cases e : p.1 = k
    · rw [if_pos e, if_pos (h1.symm.trans e)]; exact ⟨h1, ry⟩
    · rw [if_neg e, if_neg (fun z => e (h1.trans z))]; exact ⟨h1, h2⟩
theorem KV.put {kvs : List (κ × V)} {vs : List (κ × Value)} (r : KV kvs vs) (k : κ) {y : V} {u : Value} (ry : RelV y u) : KV (putK kvs k y) (stored vs k u) := by
  unfold putK stored
  rw [r.any k]
  by_cases e : (vs.any fun kv => decide (kv.1 = k)) = true
  · rw [if_pos e, if_pos e]; exact r.repl k ry
  · rw [if_neg e, if_neg e]; exact Paired.snoc r ⟨rfl, ry⟩
theorem KV.length {kvs : List (κ × V)} {vs : List (κ × Value)} (r : KV kvs vs) : kvs.length = vs.length := Paired.length r
end
theorem kV_is {P : Program} {w : World} {k : Key} {u : Value} (r : RelV (kV k) u) : (mixKind P w).is k u = true := by
  cases k with
  | inl i => obtain ⟨t, e⟩ := (show ∃ t, u = Value.int i t from r); subst e; exact mixKind_int P w i t
  | inr x => obtain ⟨t, e⟩ := (show ∃ t, u = Value.str x t from r); subst e; exact mixKind_str P w x t
theorem items_are {P : Program} {w : World} : ∀ {ks : List Key} {us : List Value}, Vals (ks.map kV) us → ItemsAre (mixKind P w) ks us
  | [], _, r => by rw [List.map_nil] at r; cases r; exact .nil
  | k :: ks, _, r => by
    rw [List.map_cons] at r
    cases r with
    | cons h t => exact .cons (kV_is h) (items_are t)
abbrev KT (H : Hp) : List (List Key × V) → List (List Key × Addr × Value) → Prop := Paired fun p q => p.1 = q.1 ∧ H q.2.1 = some (.tup (p.1.map kV)) ∧ RelV p.2 q.2.2
theorem KT.val {H : Hp} {kvs : List (List Key × V)} {xs : List (List Key × Addr × Value)} (r : KT H kvs xs) (k : List Key) : RelO (valV kvs k) ((atKey xs k).map (·.2)) := by
  induction r with
  | nil => exact True.intro
  | @cons p q ps qs h t ih =>
    obtain ⟨h1, _, h2⟩ := h
    by_cases e : p.1 = k
    · have e' : q.1 = k := h1.symm.trans e
      have b : atKey (q :: qs) k = some q.2 := by simp [atKey, List.find?_cons, e']
      rw [valV_pos e, b]; exact h2
    · have e' : ¬ q.1 = k := fun z => e (h1.trans z)
      have b : atKey (q :: qs) k = atKey qs k := by simp [atKey, List.find?_cons, e']
      rw [valV_neg e, b]; exact ih
theorem KT.repl {H : Hp} {kvs : List (List Key × V)} {xs : List (List Key × Addr × Value)} (r : KT H kvs xs) (k : List Key) {y : V} {u : Value} (ry : RelV y u) :
    KT H (kvs.map fun kv => if kv.1 = k then (kv.1, y) else kv) (xs.map (putAt k u)) := by
  induction r with
  | nil => exact .nil
  | @cons p q ps qs h t ih =>
    rw [List.map_cons, List.map_cons]
    refine .cons ?_ ih
    obtain ⟨h1, h2, h3⟩ := h
    unfold putAt
    by_cases e : p.1 = k
    · rw [if_pos e, if_pos (h1.symm.trans e)]; exact ⟨h1, h2, ry⟩
    · rw [if_neg e, if_neg (fun z => e (h1.trans z))]; exact ⟨h1, h2, h3⟩
theorem KT.put {H : Hp} {kvs : List (List Key × V)} {xs : List (List Key × Addr × Value)} (r : KT H kvs xs) (k : List Key) {b : Addr} {y : V} {u : Value} (hb : H b = some (.tup (k.map kV))) (ry : RelV y u) :
    KT H (putK kvs k y) (storedH xs k b u) := by
  have e : (kvs.any fun kv => decide (kv.1 = k)) = (atKey xs k).isSome := by
    rw [valV_any, (r.val k).isSome_eq, Option.isSome_map]
  unfold putK storedH
  rw [e]
  by_cases q : (atKey xs k).isSome = true
  · rw [if_pos q, if_pos q]; exact r.repl k ry
  · rw [if_neg q, if_neg q]; exact Paired.snoc r ⟨rfl, hb, ry⟩
theorem KT.keeps {H H' : Hp} {kvs : List (List Key × V)} {xs : List (List Key × Addr × Value)} (r : KT H kvs xs) (ht : ∀ b ys, H b = some (.tup ys) → H' b = some (.tup ys)) : KT H' kvs xs :=
  Paired.mapP r fun _ _ z => ⟨z.1, ht _ _ z.2.1, z.2.2⟩
section
variable {P : Program} {w : World} {H : Hp} {h : Heap} {a : Addr}
theorem rd_of {u : HO} (ok : HOk P w H h) (e : Rd H a u) : ObjOk P w H h a u := e.ok ok
theorem dk_rd {kvs : List (Key × V)} (ok : HOk P w H h) (e : Rd H a (.dK kvs)) : kvs.length ≤ sizeLine ∧ (a == sysModules) = false ∧ ∃ vs, KV kvs vs ∧ h.DictOf (mixKind P w) a vs :=
  show ObjOk P w H h a (.dK kvs) from rd_of ok e
theorem dk_of {kvs : List (Key × V)} (ok : HOk P w H h) (e : H a = some (.dK kvs)) : kvs.length ≤ sizeLine ∧ (a == sysModules) = false ∧ ∃ vs, KV kvs vs ∧ h.DictOf (mixKind P w) a vs := dk_rd ok (.inl e)
theorem key_of {ks : List Key} (ok : HOk P w H h) (e : H a = some (.tup (ks.map kV))) : (tupleKind (mixKind P w)).is h ks a := by
  obtain ⟨_, its, r, o, h1, h2, n, h3⟩ := (show ObjOk P w H h a (.tup (ks.map kV)) from ok a _ e)
  exact ⟨o, its.toArray, n, h1, h2, h3, by simpa using items_are r⟩
theorem dt_rd {kvs : List (List Key × V)} (ok : HOk P w H h) (e : Rd H a (.dT kvs)) : kvs.length ≤ sizeLine ∧ (a == sysModules) = false ∧
    ∃ xs, KT H kvs xs ∧ h.DictOfH (tupleKind (mixKind P w)) a xs := by
  obtain ⟨z, y, xs, r, o, es, ep, h1, h2, h3, h4, h5⟩ := (show ObjOk P w H h a (.dT kvs) from rd_of ok e)
  refine ⟨z, y, xs, r, o, es, ep, h1, h2, h3, h4, fun x hx => ?_, h5⟩
  have all : ∀ {l : List (List Key × V)} {m : List (List Key × Addr × Value)}, KT H l m → ∀ x ∈ m, (tupleKind (mixKind P w)).is h x.1 x.2.1 := by
    intro l m q
    induction q with
    | nil => intro x hx; exact nomatch hx
    | @cons p q ps qs hq t ih =>
      intro x hx
      rcases List.mem_cons.mp hx with e | hx
      · subst e
        exact key_of ok (by rw [← hq.1]; exact hq.2.1)
      · exact ih x hx
  exact all r x hx
theorem dt_of {kvs : List (List Key × V)} (ok : HOk P w H h) (e : H a = some (.dT kvs)) : kvs.length ≤ sizeLine ∧ (a == sysModules) = false ∧
    ∃ xs, KT H kvs xs ∧ h.DictOfH (tupleKind (mixKind P w)) a xs := dt_rd ok (.inl e)
end
def DGet (H : Hp) (a : Addr) (y : V) (r : Option V) : Prop :=
  (∃ kvs k, Rd H a (.dK kvs) ∧ y = kV k ∧ r = valV kvs k) ∨ ∃ kvs k b, Rd H a (.dT kvs) ∧ y = .ref b ∧ H b = some (.tup (k.map kV)) ∧ r = valV kvs k
def DPut (H : Hp) (a : Addr) (y v : V) (H' : Hp) : Prop :=
  (∃ kvs k, H a = some (.dK kvs) ∧ y = kV k ∧ kvs.length < sizeLine ∧ H' = upd H a (.dK (putK kvs k v))) ∨
  ∃ kvs k b, H a = some (.dT kvs) ∧ y = .ref b ∧ H b = some (.tup (k.map kV)) ∧ kvs.length < sizeLine ∧ H' = upd H a (.dT (putK kvs k v))
section
variable {X : Cx} {pins : List (Addr × Obj)} {σ : St} {H : Hp} {s : Shared} {a : Addr} {y v : V} {u r : Value} {o : Option V} {A : Around} {E : Value → Shared → Prop}
theorem d_in {Q : Value → Shared → Prop} (hu : A.units + 1 < cLine) (I : Inv X pins σ H s) (g : DGet H a y o) (ry : RelV y u) (h : ∀ s', Inv X pins σ H s' → Q (.bool o.isSome) s') :
    wpAny (model X.prog X.w) A (compareOp .In u (.ref a)) Q E s := by
  rcases g with ⟨kvs, k, e, ey, l⟩ | ⟨kvs, k, b, e, ey, eb, l⟩
  · subst ey
    obtain ⟨z, hd, vs, rel, dd⟩ := dk_rd I.hok e
    refine wpAny_in_of (kV_is ry) hd dd.mapOf ?_
    rw [← (rel.val k).isSome_eq, ← l]
    exact h _ (I.tok _)
  · subst ey
    cases (show u = Value.ref b from ry)
    obtain ⟨z, hd, xs, rel, dd⟩ := dt_rd I.hok e
    refine wpAny_in_heap (tupleKind_room_in1 hu) (key_of I.hok eb) hd dd ?_
    have q := (rel.val k).isSome_eq
    rw [Option.isSome_map] at q
    rw [← q, ← l]
    exact h _ (I.tok _)
theorem d_notIn {Q : Value → Shared → Prop} (hu : A.units + 1 < cLine) (I : Inv X pins σ H s) (g : DGet H a y o) (ry : RelV y u) (h : ∀ s', Inv X pins σ H s' → Q (.bool (!o.isSome)) s') :
    wpAny (model X.prog X.w) A (compareOp .NotIn u (.ref a)) Q E s := by
  rcases g with ⟨kvs, k, e, ey, l⟩ | ⟨kvs, k, b, e, ey, eb, l⟩
  · subst ey
    obtain ⟨z, hd, vs, rel, dd⟩ := dk_rd I.hok e
    refine wpAny_notIn_of (kV_is ry) hd dd.mapOf ?_
    rw [← (rel.val k).isSome_eq, ← l]
    exact h _ (I.tok _)
  · subst ey
    cases (show u = Value.ref b from ry)
    obtain ⟨z, hd, xs, rel, dd⟩ := dt_rd I.hok e
    refine wpAny_notIn_heap (tupleKind_room_in1 hu) (key_of I.hok eb) hd dd ?_
    have q := (rel.val k).isSome_eq
    rw [Option.isSome_map] at q
    rw [← q, ← l]
    exact h _ (I.tok _)
theorem d_write {h' : Heap} {t' : Nat} {ob : HO} (I : Inv X pins σ H s) (mu : Mut (H a)) (hs : Heap.SameBut a s.heap h') (he : ∃ q, h'.get? a = some q) (new : ObjOk X.prog X.w (upd H a ob) h' a ob) (ht : 0 < t' := by first | exact Nat.succ_pos _ | assumption | exact Inv.tk ‹_› | omega) :
    Inv X pins σ (upd H a ob) { s with heap := h', toks := t' } :=
  I.write (x := a) (e := a) mu (.inl rfl) (fun b q hb z => (hs.2 b hb).trans z) he new
theorem dk_new {P : Program} {w : World} {H' : Hp} {h' : Heap} {kvs : List (Key × V)} {vs : List (Key × Value)} (z : kvs.length ≤ sizeLine) (hd : (a == sysModules) = false) (rel : KV kvs vs) (dd : h'.DictOf (mixKind P w) a vs) :
    ObjOk P w H' h' a (.dK kvs) := ⟨z, hd, vs, rel, dd⟩
theorem d_setItem {H' : Hp} {Q : Unit → Shared → Prop} (hu : A.units + 1 < cLine) (I : Inv X pins σ H s) (g : DPut H a y v H') (ry : RelV y u) (rv : RelV v r) (h : ∀ s', Inv X pins σ H' s' → Q () s') :
    wpAny (model X.prog X.w) A (setItem (.ref a) u r) Q E s := by
  rcases g with ⟨kvs, k, e, ey, l, eH⟩ | ⟨kvs, k, b, e, ey, eb, l, eH⟩
  · subst ey eH
    obtain ⟨z, hd, vs, rel, dd⟩ := dk_of I.hok e
    have hz : vs.length ≤ sizeLine := by rw [← rel.length]; exact z
    have hl : (putK kvs k v).length ≤ sizeLine := by have := length_putK kvs k v; omega
    refine wpAny_setItem_pairs (hsz := hz) (kV_is ry) dd fun h' dd' hs => h _ ?_
    have he : ∃ q, h'.get? a = some q := let ⟨q, _, _, hq, _⟩ := dd'; ⟨q, hq⟩
    exact d_write I (by rw [e]; exact True.intro) hs he (dk_new hl hd (rel.put k rv) dd')
  · subst ey eH
    cases (show u = Value.ref b from ry)
    obtain ⟨z, hd, xs, rel, dd⟩ := dt_of I.hok e
    have hz : xs.length ≤ sizeLine := by rw [← Paired.length rel]; exact z
    have hl : (putK kvs k v).length ≤ sizeLine := by have := length_putK kvs k v; omega
    refine wpAny_setItem_heap (hsz := hz) (tupleKind_room_in1 hu) (key_of I.hok eb) dd fun h' dd' hs => h _ ?_
    obtain ⟨q, es, ep, hq, h2, h3, h4, _, h5⟩ := dd'
    refine d_write I (by rw [e]; exact True.intro) hs ⟨q, hq⟩ ⟨hl, hd, _, (rel.put k eb rv).keeps fun c ys ec => ?_, q, es, ep, hq, h2, h3, h4, h5⟩
    rw [upd_ne (ne_of ec e (fun z => nomatch z))]
    exact ec
end
section
variable {X : Cx} {pins : List (Addr × Obj)} {σ : St} {H : Hp} {s : Shared} {a : Addr} {kvs : List (Key × V)} {k : Key} {u : Value} {A : Around} {E : Value → Shared → Prop}
theorem d_len {Q : Value → Shared → Prop} (I : Inv X pins σ H s) (e : Rd H a (.dK kvs)) (h : ∀ t s', Inv X pins σ H s' → Q (.int kvs.length t) s') : wpAny (model X.prog X.w) A (call (.builtin "len") [.ref a]) Q E s := by
  obtain ⟨z, hd, vs, rel, dd⟩ := dk_rd I.hok e
  refine call_len_dict hd dd (by rw [← rel.length]; rw [sizeLine_eq] at z; omega) ?_
  rw [← rel.length]
  exact h _ _ (I.tok _)
end
section
variable {X : Cx} {o i e value : Expr} {pos pos' tpos : Pos} {td ty tv : TE}
end
section
variable {X : Cx} {pos : Pos}
end
section
variable {X : Cx} {pins : List (Addr × Obj)} {σ : St} {H : Hp} {s : Shared} {a : Addr} {y d : V} {u r : Value} {o : Option V} {A : Around} {E : Value → Shared → Prop}
end
section
variable {X : Cx} {o e f : Expr} {apos cpos : Pos} {td ty tx : TE}
end
section
variable {X : Cx} {pins : List (Addr × Obj)} {σ : St} {H : Hp} {s : Shared} {a : Addr} {kvs : List (Key × V)} {A : Around} {E : Value → Shared → Prop}
end
section
variable {X : Cx} {pins : List (Addr × Obj)} {σ : St} {H : Hp} {s : Shared} {a : Addr} {y : V} {u : Value} {A : Around} {E : Value → Shared → Prop}
end
end L2
namespace Att
open PySem PySem.W PySem.Calls PyProof.Rows
theorem ints_of_wellAll {P : Params} {h : Heap} : ∀ (ns : List Int) (vs : List Value), WellAll P h vs (ns.map WData.int) → IntsAre vs ns := by
  intro ns
  induction ns with
  | nil =>
    intro vs w
    rw [List.map_nil] at w
    cases w
    exact .nil
  | cons n ns ih =>
    intro vs w
    rw [List.map_cons] at w
    cases w with
    | cons a b =>
      cases a
      exact .cons _ _ (ih _ b)
theorem script_of {l : OpenLaw} {n : Nat} (hn : l.most = some n) {P : Params} {h : Heap} {args : List WData} {vals : List Value}
    (hpre : l.row.toRowW.claim.pre args = true) (hwl : WellAll P h vals args) :
    ∃ a vs ns, vals = [Value.ref a] ∧ args = [WData.list (ns.map WData.int)] ∧ h.get? a = some { cls := .type "list", data := .seq vs.toArray } ∧ IntsAre vs ns ∧ ns.length ≤ n := by
  have hsh : WShape.hasAll [] args [.list .int] = true := (pre_splitW hpre).1
  have hc : l.pre.holds [] { args := args } = true := (pre_splitW hpre).2
  obtain ⟨d, r, rfl, h1, h2⟩ := hasAllW_cons hsh
  obtain rfl := hasAllW_nil h2
  obtain ⟨xs, rfl, h3⟩ := hasW_list h1
  obtain ⟨ns, rfl⟩ := items_int h3
  have hlen : ns.length ≤ n := by
    unfold OpenLaw.pre at hc
    have h4 : (WTm.not (.lt (.lit (.int (n : Int))) (.len (.arg 0)))).holds [] { args := [.list (ns.map .int)] } = true := by
      have h4 := (holds_andW hc).1
      rw [hn] at h4
      exact h4
    have h5 := condW_of h4 (w_not (w_lt w_lit (w_len_list (w_arg rfl))))
    rw [List.length_map] at h5
    refine Nat.le_of_not_lt fun q => ?_
    have q' : (n : Int) < ((ns.length : Nat) : Int) := by omega
    first
      | (rw [decide_eq_true q'] at h5; exact absurd h5 (by decide))
      | (simp at h5; omega)
  cases hwl with
  | cons w1 w2 =>
    cases w2
    cases w1 with
    | list ho hall => exact ⟨_, _, ns, rfl, rfl, ho, ints_of_wellAll ns _ hall, hlen⟩
theorem post_true (l : OpenLaw) (args : List WData) : l.row.toRowW.claim.post args (.bool true) args = true :=
  postW_of (r := l.row.toRowW) (X := (true == true))
    (show WShape.has [] (.bool true) .bool = true by first | rfl | decide | simp [WShape.has, WShape.arms, WShape.armsAll])
    (show (WTm.eq .res (.lit (.bool true))).value [] { args := args, res := some (.bool true), after := args } = some (.bool (true == true)) from w_eq_bool (w_res rfl) w_lit) rfl
section
variable {prog : Program} {w : World} {A : Around} {E : Value → Shared → Prop} {s : Shared} {K : Frag}
end
end Att
namespace L2
open PySem PySem.Spec PyProof.Rows
theorem vals_ints : ∀ {vs : List Value} {ns : List Int}, IntsAre vs ns → Vals (ns.map V.int) vs
  | _, _, .nil => .nil
  | _, _, .cons n t h => .cons ⟨t, rfl⟩ (vals_ints h)
def Only (H : Hp) : Prop := ∀ b, H b = none ∨ ∃ o xs, H b = some (.frz o (.lst xs))
theorem law_call {P : Program} {w : World} {K : PySem.W.Frag} {mg mb : Str → Option Value} {CX : CXT} {k : Nat} {fa a : Addr} {fd : FuncData} {x : Str} {sp : Sp} {s₁ : Shared} {vs : List Value} {ns : List Int}
    (KX : K.In s₁.heap) (hns : s₁.heap.Ns mainGlobals mg) (hb : s₁.heap.Ns builtinsNs mb) (hbb : ∀ x : Str, x ≠ "__name__" → mb x = bootBuiltins x) (hlim : s₁.heap.NoLimit) (hg : s₁.gens = #[]) (htk : 0 < s₁.toks)
    (ha : s₁.heap.get? a = some { cls := .type "list", data := .seq vs.toArray }) (hi : IntsAre vs ns) (hl : ns.length ≤ sizeLine) (hr : Room k callerA)
    (F : ∀ base : Heap, K.In base → base.Ns mainGlobals mg → FnOk P w K mg base CX k fa fd [x] sp) (hbind : ∀ (s : Shared) (u : Value), BindsTo s fd ⟨[u], []⟩ [(x, u)])
    (hsp : ∀ H : Hp, Only H → SqL K H a (ns.map V.int) → sp [.ref a] H (fun v _ => v = .bl true) fun _ _ _ => False)
    (hCX : ∀ H e s', CX [] H s₁ (fun _ _ _ => False) e s' → False) :
    codeAny (model P w) callerA (.call (.ref fa) ⟨[.ref a], []⟩) (fun r s' => r = .ok (.ret (.bool true)) ∧ OldK s₁.heap s'.heap ∧ s'.os = s₁.os ∧ AllBare s'.gens) s₁ := by
  have rv := vals_ints hi
  have lenV := hi.length
  have core : ∀ H : Hp, Only H → SqL K H a (ns.map V.int) → HOk P w H s₁.heap → (∀ b, H b ≠ none → b = a) → (H a ≠ none → K.lookup a = none) →
      codeAny (model P w) callerA (.call (.ref fa) ⟨[.ref a], []⟩) (fun r s' => r = .ok (.ret (.bool true)) ∧ OldK s₁.heap s'.heap ∧ s'.os = s₁.os ∧ AllBare s'.gens) s₁ := by
    intro H hO hS hok hA hK
    have base_of : ∀ {b : Addr} {o : Obj}, s₁.heap.get? b = some o → H b = none → (hidT s₁.heap H).get? b = some o := fun e n => hidT_get e n
    have noA : ∀ {b : Addr} {o : Obj} {es : Array DictEntry} {ep : Nat}, s₁.heap.get? b = some o → o.data = .dict es ep → H b = none := fun {b o es ep} e d => by
      cases q : H b with
      | none => rfl
      | some u =>
        have e' : b = a := hA b (by rw [q]; simp)
        subst e'
        rw [ha] at e; cases e
        have d' : Data.seq vs.toArray _ = Data.dict es ep := d
        cases d'
    have nsK : ∀ {b : Addr} {m : Str → Option Value}, s₁.heap.Ns b m → (hidT s₁.heap H).Ns b m := fun {b m} ⟨o, es, ep, e, d, r⟩ => ⟨o, es, ep, base_of e (noA e d), d, r⟩
    have hKb : K.In (hidT s₁.heap H) := fun b o e => base_of (KX b o e) (by
      cases q : H b with
      | none => rfl
      | some u =>
        have e' : b = a := hA b (by rw [q]; simp)
        subst e'
        rw [hK (by rw [q]; simp)] at e; cases e)
    have hM : Mod K mg (hidT s₁.heap H) := ⟨hKb, nsK hns, ⟨mb, nsK hb, hbb⟩, let ⟨mc, h1, h2⟩ := hlim; ⟨mc, nsK h1, h2⟩⟩
    have e0 : Env0 P w K mg (hidT s₁.heap H) callerA [] s₁ H := ⟨rfl, hM, fun b o e => of_hidT e, Nat.le_of_eq (hidT_size _ _), trivial, fun b hb => absurd (show b ∈ ([] : List Addr) from hb) (by simp), hok, .of_eq hg, htk⟩
    refine codeAny_mono ((F _ hKb (nsK hns)).run callerA [] s₁ H ⟨[.ref a], []⟩ [.ref a] [.ref a] _ _ hr e0 (hbind s₁ (.ref a)) (.cons rfl .nil) (hsp H hO hS)) fun r s' h => ?_
    cases r with
    | error e => exact (hCX H e s' h).elim
    | ok fl =>
      cases fl with
      | next => exact False.elim h
      | brk => exact False.elim h
      | cont => exact False.elim h
      | ret u =>
        obtain ⟨v, H', _, os, bare, un, hok', r', q⟩ := h
        have q' : v = .bl true := q
        subst q'
        obtain rfl : u = Value.bool true := r'
        refine ⟨rfl, OldK.of_keep fun b o e => ?_, os, bare⟩
        cases q : H b with
        | none => exact un.keep b o e q (by intro z; exact absurd (show b ∈ ([] : List Addr) from z) (by simp)) (by simp)
        | some u =>
          rcases hO b with z | ⟨ob, xs, z⟩
          · rw [q] at z; cases z
          · have z2 := un.frzs b ob _ z
            obtain ⟨e1, _⟩ := hok b _ z
            obtain ⟨e2, _⟩ := hok' b _ z2
            rw [e] at e1; cases e1
            exact e2
  cases hk : K.lookup a with
  | some o =>
    have e := KX a o hk
    rw [ha] at e
    cases e
    refine core (fun _ => none) (fun _ => .inl rfl) (.inr ⟨_, vs.toArray, _, hk, rfl, rfl, rfl, by rw [List.size_toArray, lenV]; exact hl, by simpa using rv⟩) (fun b u z => by have z' : (none : Option HO) = some u := z; cases z') (fun b z => absurd rfl z) fun z => absurd rfl z
  | none =>
    refine core (fun b => if b = a then some (.frz { cls := .type "list", data := .seq vs.toArray } (.lst (ns.map V.int))) else none) (fun b => ?_) (.inl (.inr ⟨{ cls := .type "list", data := .seq vs.toArray }, if_pos rfl⟩)) (fun b u z => ?_) (fun b z => ?_) fun _ => hk
    · by_cases hb : b = a
      · exact .inr ⟨_, _, if_pos hb⟩
      · exact .inl (if_neg hb)
    · by_cases hb : b = a
      · have z' := (if_pos hb).symm.trans z
        cases z'
        subst hb
        exact ⟨ha, by rw [List.length_map]; exact hl, vs, _, rv, ha⟩
      · have z' := (if_neg hb).symm.trans z
        cases z'
    · by_cases hb : b = a
      · exact hb
      · exact absurd (if_neg hb) z
end L2
namespace L2
open PySem PySem.Spec PyProof.Rows
theorem ofPys_ints : ∀ ns : List Int, PySem.W.ofPys (ns.map PyData.int) = ns.map PySem.W.WData.int
  | [] => by simp [PySem.W.ofPys]
  | n :: ns => by simp only [List.map_cons, PySem.W.ofPys, PySem.W.ofPy]; rw [ofPys_ints ns]
theorem walk_of {l : PySem.W.OpenLaw} {n k : Nat} {q : Program} {loose : List Str} {XP : (Str → Option Value) → Heap → Prop} {as : List Addr} {z t : Nat} {d : DefRec} {K : Params → PySem.W.Frag} {CX : World → CXT} {sp : World → Sp} {x : Str}
    (hn : l.most = some n) (hn2 : n ≤ sizeLine) (hdf : d.params.defaults = []) (hr : Room k callerA) (hk : ∀ P, as = (K P).map (·.1)) (h0 : 0 < t)
    (F : ∀ (w : World) (mg : Str → Option Value) (fa : Addr) (h : Heap), (K w.params).In h → h.Ns mainGlobals mg → mg d.name = some (.ref fa) →
      ∃ fd : FuncData, (∀ (s : Shared) (u : Value), BindsTo s fd ⟨[u], []⟩ [(x, u)]) ∧
        ∀ base : Heap, (K w.params).In base → base.Ns mainGlobals mg → FnOk l.prog w (K w.params) mg base (CX w) k fa fd [x] (sp w))
    (hsp : ∀ (w : World) (H : Hp) (a : Addr) (ns : List Int), ns.length ≤ n → Only H → SqL (K w.params) H a (ns.map V.int) → sp w [.ref a] H (fun v _ => v = .bl true) fun _ _ _ => False)
    (hCX : ∀ (w : World) (H : Hp) (s : Shared) (e : Value) (s' : Shared), CX w [] H s (fun _ _ _ => False) e s' → False) :
    PySem.W.WalkX q loose XP (PySem.W.X.obsZ as) (PySem.W.X.valZ K z t) l.row.toRowW d [] (fun f vs => PySem.call f vs) := by
  intro w s₀ s₁ mg mb G y fa o pm cd doc dV kV ho hd hcd hD hmg hg args vals aa L hpre hlay hrd hwl hlo
  obtain rfl : dV = .none := PySem.W.Dflts.none hD hdf
  obtain rfl : kV = .none := PySem.W.Dflts.noKw hD
  obtain ⟨a, vs, ns, rfl, rfl, hobj, hints, hlen⟩ := Att.script_of hn hpre hwl
  obtain ⟨_, KI, _, htk⟩ := PySem.W.X.z_facts hk y
  have KX := PySem.W.InK.keeps w _ _ KI L.keeps
  have tk : 0 < s₁.toks := Nat.lt_of_lt_of_le h0 (PySem.W.X.script_toks (ns := ns) (a := a) (by rw [PySem.W.ofPy, ofPys_ints]; exact L) htk)
  obtain ⟨fd, hb, hF⟩ := F w mg fa _ KX G.T.g hmg
  refine PySem.W.enter_call (codeAny_mono (law_call KX G.T.g G.T.b G.T.builtins G.T.nolimit hg tk hobj hints (Nat.le_trans hlen hn2) hr hF hb (fun H hO hS => hsp w H a ns hlen hO hS) fun H e s' => hCX w H s₁ e s') fun r s' hq => ?_)
  obtain ⟨rfl, h2, h3, h4⟩ := hq
  exact ⟨.inl ⟨.bool true, .bool true, [], rfl, fun _ => rfl, .bool true, Att.post_true l _, fun _ => ⟨List.Pairwise.nil, fun _ hm => (nomatch hm)⟩⟩, h2, h3, h4⟩
end L2
namespace L2
open PySem PySem.Spec PyProof.Rows
def defArgs (s : Stmt) : Arguments := match s with
  | .FunctionDef _ a _ _ _ _ _ _ _ _ => a
  | _ => { posonlyargs := [], args := [], vararg := none, kwonlyargs := [], kw_defaults := [], kwarg := none, defaults := [] }
def defBody (s : Stmt) : List Stmt := match s with
  | .FunctionDef _ _ b _ _ _ _ _ _ _ => b
  | _ => []
def defScope (s : Stmt) : Scope := match s with
  | .FunctionDef _ _ _ _ _ _ sc _ _ _ => sc
  | _ => { kind := .function, names := [], isGenerator := false, isCoroutine := false }
abbrev CX0 : CXT := fun _ _ _ _ _ _ => False
abbrev E0 : XK := fun _ _ _ => False
theorem pass0 {X : Cx} : Passes CX0 X E0 := fun _ _ _ _ _ _ _ h => h.elim
structure Fun (K : PySem.W.Frag) (x qual : Str) (st : Stmt) (f : Addr) (fd : FuncData) : Prop where
  ex : ∃ (oc : Value) (od : Option Addr) (kV doc pm : Value) (an : Option Addr) (cdv ct : Value) (osl : Array (Option Value)),
    fd = PySem.W.fnOf x qual (defArgs st) (defBody st) (defScope st) .none kV doc pm an cdv ct ∧ K.lookup f = some ⟨oc, od, .func fd, osl⟩ ∧ PySem.W.codeIn K cdv qual = true
  kp : PySem.W.keepIn K (.ref f) = true
section
variable {P : Program} {w : World} {K : PySem.W.Frag} {mg : Str → Option Value} {base : Heap}
theorem Fun.ok {x qual : Str} {st : Stmt} {f : Addr} {fd : FuncData} {N ps : List Str} {k : Nat} {sp : Sp} (F : Fun K x qual st f fd) (S : FnScope N ps (defScope st)) (len : ∀ vs H Q E, sp vs H Q E → vs.length = ps.length)
    (hbody : ∀ (cdv : Value) (A : Around) (outer : List Env) (s : Shared) (H : Hp) (vs : List V) (Q : VK) (E : XK), Room k (A.deeper (envOfC qual (defScope st) s.heap.objs.size f cdv)) → sp vs H Q E →
      ∃ t, PSs (cxOf CX0 P w K mg base N qual (defScope st) f cdv A outer s H E).nox (defBody st) t ∧ t { nx := fun _ H' => Q .non H', rt := Q } (start N vs) H) : FnOk P w K mg base CX0 (k + 1) f fd ps sp := by
  obtain ⟨oc, od, kV, doc, pm, an, cdv, ct, osl, rfl, lk, hcd⟩ := F.ex
  refine fn_of lk hcd S len fun A outer s H vs Q E hr hsp => ?_
  obtain ⟨t, h, q⟩ := hbody cdv A outer s H vs Q E hr hsp
  exact ⟨t, h.nox, q⟩
theorem Fun.binds {x qual : Str} {st : Stmt} {f : Addr} {fd : FuncData} {ps : List Str} (F : Fun K x qual st f fd)
    (h : ∀ (kV doc pm : Value) (an : Option Addr) (cdv ct : Value) (us : List Value), us.length = ps.length → bindArgs (PySem.W.fnOf x qual (defArgs st) (defBody st) (defScope st) .none kV doc pm an cdv ct) ⟨us, []⟩ = pure (ps.zip us)) : Binds K fd ps [] := by
  obtain ⟨oc, od, kV, doc, pm, an, cdv, ct, osl, rfl, lk, hcd⟩ := F.ex
  exact .all (h kV doc pm an cdv ct)
theorem fun_mk {x qual : Str} {st : Stmt} {f : Addr} {oc : Value} {od an : Option Addr} {osl : Array (Option Value)} {kV doc pm cdv ct : Value} (l : K.lookup f = some ⟨oc, od, .func (PySem.W.fnOf x qual (defArgs st) (defBody st) (defScope st) .none kV doc pm an cdv ct), osl⟩)
    (c : PySem.W.codeIn K cdv qual = true) (k : PySem.W.keepIn K (.ref f) = true) : Fun K x qual st f (PySem.W.fnOf x qual (defArgs st) (defBody st) (defScope st) .none kV doc pm an cdv ct) := ⟨⟨oc, od, kV, doc, pm, an, cdv, ct, osl, rfl, l, c⟩, k⟩
end
theorem hu_of {A : Around} {k : Nat} (hr : Room k A) : A.units + 1 < cLine := Nat.lt_of_le_of_lt (Nat.add_le_add_left (by decide : 1 ≤ 64) _) hr.units
theorem small1000 {n : Nat} (h : n ≤ 1000) : n < sizeLine := Nat.lt_of_le_of_lt h (by decide)
section
variable {X : Cx}
theorem pv (i : Nat) {x : Str} {pos : Pos} (hN : X.N[i]? = some x := by rfl) (hv : Vis X.env.scope x := by first | exact Or.inl rfl | exact Or.inr (Or.inl rfl) | exact Or.inr (Or.inr rfl)) (hd : (x == ("__debug__" : Str)) = false := by decide)
    (hcd : (x == ("__classdict__" : Str)) = false := by decide) : PE X (.Name x pos) (tVar i) := pe_var hN hv hd hcd
end
theorem iteF {A B : Prop} (h : B) : if false = true then A else B := by
  rw [if_neg Bool.false_ne_true]
  exact h
theorem iteT {A B : Prop} (h : A) : if true = true then A else B := by
  rw [if_pos rfl]
  exact h
def Same (H H' : Hp) : Prop := ∀ b o, H b = some o → H' b = some o
theorem Same.refl (H : Hp) : Same H H := fun _ _ h => h
theorem Same.trans {H H1 H2 : Hp} (a : Same H H1) (b : Same H1 H2) : Same H H2 := fun c o h => b c o (a c o h)
theorem Same.free {H H' : Hp} (e : Same H H') {l : Addr} (h : H' l = Option.none) : H l = Option.none := by
  cases q : H l with
  | none => rfl
  | some o =>
    rw [e l o q] at h
    cases h
theorem Same.seq {K : PySem.W.Frag} {H H' : Hp} {a : Addr} {xs : List V} (e : Same H H') (h : SqL K H a xs) : SqL K H' a xs := by
  rcases h with (h | ⟨o, h⟩) | h
  · exact .inl (.inl (e _ _ h))
  · exact .inl (.inr ⟨o, e _ _ h⟩)
  · exact .inr h
section
variable {X : Cx}
theorem call_lenD : CallR X (.builtin "len") (fun xs H Q => ∃ a kvs, xs = [V.ref a] ∧ H a = some (.dK kvs) ∧ Q (.int kvs.length) H) := by
  intro pins s σ H xs us Q I r h
  obtain ⟨a, kvs, rfl, ha, q⟩ := h
  obtain ⟨u, rfl, ru⟩ := vals1 r
  cases ru
  exact d_len I (.inl ha) fun t s' I' => ⟨.int kvs.length, H, I', ⟨t, rfl⟩, q⟩
end
section
variable {κ : Type} [DecidableEq κ]
end
end L2
namespace L2
open PySem PySem.Spec PyProof.Rows
theorem noE {α : Type} {t : Sem α} {Q : α → Shared → Prop} {M : Model} {A : Around} {E : Value → Shared → Prop} {s : Shared} (h : wpAny M A t Q (fun _ _ => False) s) : wpAny M A t Q E s :=
  wpAny_mono h (fun _ _ q => q) fun _ _ z => False.elim z
theorem closure_ex {env : Env} : ∀ (names : List (Str × NameKind)) (acc : List (Str × Addr)), (∀ y ∈ names, y.2 = .free → ∃ c, env.cells.lookup y.1 = some c) → (∀ x c, acc.lookup x = some c → env.cells.lookup x = some c) →
    ∃ cl, (forIn names acc fun (x : Str × NameKind) (r : List (Str × Addr)) =>
        (if (x.2 == .free) = true then (do let a ← cellOf env x.1; pure (ForInStep.yield ((x.1, a) :: r))) else pure (ForInStep.yield r) : Sem (ForInStep (List (Str × Addr))))) = (pure cl : Sem (List (Str × Addr))) ∧
      (∀ x c, cl.lookup x = some c → env.cells.lookup x = some c) ∧ (∀ x, (∃ c, acc.lookup x = some c) → ∃ c, cl.lookup x = some c) ∧ ∀ y ∈ names, y.2 = .free → ∃ c, cl.lookup y.1 = some c
  | [], acc, _, h2 => ⟨acc, by rw [List.forIn_nil], h2, fun _ h => h, fun _ h => by cases h⟩
  | (n, k) :: r, acc, h1, h2 => by
    by_cases hk : k = .free
    · subst hk
      obtain ⟨c, hc⟩ := h1 (n, .free) List.mem_cons_self rfl
      obtain ⟨cl, e, q1, q2, q3⟩ := closure_ex r ((n, c) :: acc) (fun y hy => h1 y (List.mem_cons_of_mem _ hy)) (fun x d hd => by
        rw [List.lookup_cons] at hd
        cases hx : x == n with
        | true => rw [hx] at hd; cases hd; rw [beq_iff_eq.mp hx]; exact hc
        | false => rw [hx] at hd; exact h2 x d hd)
      refine ⟨cl, ?_, q1, fun x hx => q2 x ?_, fun y hy hf => ?_⟩
      · rw [List.forIn_cons]
        have e0 : cellOf env n = pure c := by unfold cellOf; rw [hc]
        simp only [beq_self_eq_true, if_true, e0]
        exact e
      · rw [List.lookup_cons]
        cases x == n with
        | true => exact ⟨c, rfl⟩
        | false => exact hx
      · rcases List.mem_cons.mp hy with rfl | hy
        · exact q2 n ⟨c, by rw [List.lookup_cons]; simp⟩
        · exact q3 y hy hf
    · obtain ⟨cl, e, q1, q2, q3⟩ := closure_ex r acc (fun y hy => h1 y (List.mem_cons_of_mem _ hy)) h2
      refine ⟨cl, ?_, q1, q2, fun y hy hf => ?_⟩
      · rw [List.forIn_cons]
        have hb : (k == NameKind.free) = false := by simpa using hk
        simp only [hb, Bool.false_eq_true, if_false]
        exact e
      · rcases List.mem_cons.mp hy with rfl | hy
        · exact absurd hf hk
        · exact q3 y hy hf
theorem closureFor_ex {env : Env} {scope : Scope} (h : ∀ y ∈ scope.names, y.2 = .free → ∃ c, env.cells.lookup y.1 = some c) :
    ∃ cl, closureFor scope env = pure cl ∧ (∀ x c, cl.lookup x = some c → env.cells.lookup x = some c) ∧ ∀ y ∈ scope.names, y.2 = .free → ∃ c, cl.lookup y.1 = some c := by
  obtain ⟨cl, e, q1, _, q3⟩ := closure_ex (env := env) scope.names [] h (fun x c hc => by simp at hc)
  refine ⟨cl, ?_, q1, q3⟩
  unfold closureFor
  simp only []
  rw [show (forIn scope.names ([] : List (Str × Addr)) fun (x : Str × NameKind) (r : List (Str × Addr)) =>
        (match x with | (name, kind) => if (kind == .free) = true then (do let a ← cellOf env name; pure (ForInStep.yield ((name, a) :: r))) else pure (ForInStep.yield r) : Sem (ForInStep (List (Str × Addr))))) = (pure cl : Sem (List (Str × Addr))) from e]
  rfl
theorem lookup_relabel_free {env : Env} : ∀ {names : List (Str × NameKind)} {x : Str}, names.lookup x = some .free →
    (names.map fun (n, k) => if (k == NameKind.free && env.scope.kind == .function && env.kindOf n == some .cell) then (n, NameKind.cell) else (n, k)).lookup x = some .cell ∨
    (names.map fun (n, k) => if (k == NameKind.free && env.scope.kind == .function && env.kindOf n == some .cell) then (n, NameKind.cell) else (n, k)).lookup x = some .free
  | [], _, h => by simp at h
  | (n, k) :: r, x, h => by
    have ih := @lookup_relabel_free env r x
    show List.lookup x ((if (k == NameKind.free && env.scope.kind == .function && env.kindOf n == some .cell) = true then (n, NameKind.cell) else (n, k)) :: _) = _ ∨ List.lookup x ((if (k == NameKind.free && env.scope.kind == .function && env.kindOf n == some .cell) = true then (n, NameKind.cell) else (n, k)) :: _) = _
    cases hx : x == n with
    | true =>
      simp only [List.lookup_cons, hx] at h
      cases h
      by_cases hc : (NameKind.free == NameKind.free && env.scope.kind == .function && env.kindOf n == some .cell) = true
      · rw [if_pos hc]; exact .inl (by simp only [List.lookup_cons, hx])
      · rw [if_neg hc]; exact .inr (by simp only [List.lookup_cons, hx])
    | false =>
      simp only [List.lookup_cons, hx] at h
      by_cases hc : (k == NameKind.free && env.scope.kind == .function && env.kindOf n == some .cell) = true
      · rw [if_pos hc]; simp only [List.lookup_cons, hx]; exact ih h
      · rw [if_neg hc]; simp only [List.lookup_cons, hx]; exact ih h
theorem lookup_relabel_back {env : Env} : ∀ {names : List (Str × NameKind)} {x : Str} {k : NameKind},
    (names.map fun (n, k) => if (k == NameKind.free && env.scope.kind == .function && env.kindOf n == some .cell) then (n, NameKind.cell) else (n, k)).lookup x = some k →
    names.lookup x = some k ∨ (k = .cell ∧ names.lookup x = some .free)
  | [], _, _, h => by simp at h
  | (n, j) :: r, x, k, h => by
    have ih := @lookup_relabel_back env r x k
    have h : List.lookup x ((if (j == NameKind.free && env.scope.kind == .function && env.kindOf n == some .cell) = true then (n, NameKind.cell) else (n, j)) :: _) = some k := h
    by_cases hc : (j == NameKind.free && env.scope.kind == .function && env.kindOf n == some .cell) = true
    · rw [if_pos hc] at h
      cases hx : x == n with
      | true =>
        simp only [List.lookup_cons, hx] at h ⊢
        cases h
        have : j = .free := by
          cases j <;> simp at hc ⊢
        exact .inr ⟨rfl, by rw [this]⟩
      | false => simp only [List.lookup_cons, hx] at h ⊢; exact ih h
    · rw [if_neg hc] at h
      cases hx : x == n with
      | true => simp only [List.lookup_cons, hx] at h ⊢; exact .inl h
      | false => simp only [List.lookup_cons, hx] at h ⊢; exact ih h
theorem codeAny_compLoop_gen {prog : Program} {w : World} {A : Around} {R : Result → Shared → Prop} {s : Shared} {elt target iter : Expr} {ifs : List Expr} {scope : Scope} {pos : Pos} {it acc : Value} {env : Env} (I : Nat → Shared → Prop)
    (turn : ∀ n s, I n s → wpAny (model prog w) A (pyNext it) (fun r s₁ => match r with
      | none => R (.ok .next) s₁
      | some v => wpAny (model prog w) A (letOwnedTupleGo target it v) (fun _ s₁' => wpAny (model prog w) A (assign target env v) (fun _ s₂ =>
          wpAny (model prog w) A (forIn ifs true fun c r => if r = true then do let ok ← isTrue c env (eval c env); pure (ForInStep.yield ok) else pure (ForInStep.yield r)) (fun ok s₃ =>
            if ok = true then wpAny (model prog w) A (eval elt env) (fun x s₄ =>
              wpAny (model prog w) A (call (.builtin "list.append") [acc, x]) (fun _ s₅ => ∃ m, m < n ∧ I m s₅) (notedBy (model prog w) A env fun e s' => R (.error e) s') s₄) (notedBy (model prog w) A env fun e s' => R (.error e) s') s₃
            else ∃ m, m < n ∧ I m s₃) (notedBy (model prog w) A env fun e s' => R (.error e) s') s₂) (notedBy (model prog w) A env fun e s' => R (.error e) s') s₁') (notedBy (model prog w) A env fun e s' => R (.error e) s') s₁)
      (notedBy (model prog w) A env fun e s' => R (.error e) s') s)
    (n : Nat) (h : I n s) :
    codeAny (model prog w) A (.compLoop (.ListComp elt [⟨target, iter, ifs, 0⟩] scope pos) 0 it acc env) R s := by
  refine codeAny_loop rfl I (fun n s hI => ?_) n h
  show wpAny _ A ((compTurn (.ListComp elt [⟨target, iter, ifs, 0⟩] scope pos) 0 it acc env).onRaise (fun x => do noteFrame x env; theTreesLotGoes x)) _ _ s
  refine wpAny_noted ?_
  rw [compTurn_list]
  refine wpAny_bind (wpAny_standAt (wpAny_bind (wpAny_mono (turn n s hI) (fun r s₁ h₁ => ?_) fun _ _ h' => h')))
  cases r with
  | none => exact wpAny_pure h₁
  | some v =>
    refine wpAny_bind (wpAny_mono h₁ (fun _ s₁' h₁' => ?_) fun _ _ h' => h')
    refine wpAny_bind (wpAny_mono h₁' (fun _ s₂ h₂ => wpAny_bind (wpAny_mono h₂ (fun ok s₃ h₃ => ?_) fun _ _ h' => h')) fun _ _ h' => h')
    cases ok with
    | false => exact wpAny_pure ⟨rfl, h₃⟩
    | true =>
      exact wpAny_bind (wpAny_bind (wpAny_mono h₃ (fun x s₄ h₄ => wpAny_bind (wpAny_mono h₄ (fun _ s₅ h₅ => wpAny_pure (wpAny_pure ⟨rfl, h₅⟩)) fun _ _ h' => h')) fun _ _ h' => h'))
def blk (X : Cx) (N : List Str) (scope : Scope) (cl : List (Str × Addr)) (C : Addr) (s₂ : Shared) (H₂ : Hp) (fp : List Addr) (pn : List (Addr × Obj)) : Cx :=
  { X with N := N, s₀ := s₂, H₀ := H₂, env := compEnvC scope cl C X.env, outer := X.stack, stack := X.stack, ex := fp, fn := fun _ => false, pn := pn, xe := fun _ _ => False }
def grab (fr : List (Option Nat)) (σ : St) : St := fr.map fun o => match o with | some i => (σ[i]?).join | none => none
theorem grab_get {fr : List (Option Nat)} {σ : St} {j : Nat} {v : V} (h : (grab fr σ)[j]? = some (some v)) : ∃ i, fr[j]? = some (some i) ∧ σ[i]? = some (some v) := by
  unfold grab at h
  rw [List.getElem?_map] at h
  cases e : fr[j]? with
  | none => rw [e] at h; cases h
  | some o =>
    rw [e] at h
    cases o with
    | none => cases h
    | some i =>
      refine ⟨i, rfl, ?_⟩
      have h' : (σ[i]?).join = some v := Option.some.inj h
      cases e2 : σ[i]? with
      | none => rw [e2] at h'; cases h'
      | some x => rw [e2] at h'; cases x with
        | none => cases h'
        | some y => cases h'; rfl
def TgOk (fr : List (Option Nat)) (g : TG) : Prop := ∀ (x : V) (σ : St) (H : Hp) (Q : St → Hp → Prop), g x σ H Q → g x σ H fun σ2 H2 => Q σ2 H2 ∧ ∀ (j i : Nat), fr[j]? = some (some i) → σ2[j]? = σ[j]?
def TgsOk (fr : List (Option Nat)) (g : TGs) : Prop := ∀ (xs : List V) (σ : St) (H : Hp) (Q : St → Hp → Prop), g xs σ H Q → g xs σ H fun σ2 H2 => Q σ2 H2 ∧ ∀ (j i : Nat), fr[j]? = some (some i) → σ2[j]? = σ[j]?
theorem tg_name {fr : List (Option Nat)} {i : Nat} (h : fr[i]? = some none := by rfl) : TgOk fr (gName i) := fun x σ H Q q => ⟨q, fun j k hj => by
  have : i ≠ j := by rintro rfl; rw [h] at hj; cases hj
  rw [List.getElem?_set_ne this]⟩
theorem tg_nil {fr : List (Option Nat)} : TgsOk fr gNil := fun xs σ H Q ⟨e, q⟩ => ⟨e, q, fun _ _ _ => rfl⟩
theorem tg_cons {fr : List (Option Nat)} {i : Nat} {u : TGs} (h : fr[i]? = some none) (hu : TgsOk fr u) : TgsOk fr (gCons (gName i) u) := fun xs σ H Q ⟨v, r, e, q⟩ => by
  refine ⟨v, r, e, ?_⟩
  have q : u r (σ.set i (some v)) H Q := q
  have e2 := hu _ _ _ _ q
  have k : ∀ j k, fr[j]? = some (some k) → (σ.set i (some v))[j]? = σ[j]? := fun j k hj => by
    have : i ≠ j := by rintro rfl; rw [h] at hj; cases hj
    rw [List.getElem?_set_ne this]
  have e3 : (fun (σ2 : St) (H2 : Hp) => Q σ2 H2 ∧ ∀ (j k : Nat), fr[j]? = some (some k) → σ2[j]? = σ[j]?) = (fun (σ2 : St) (H2 : Hp) => Q σ2 H2 ∧ ∀ (j k : Nat), fr[j]? = some (some k) → σ2[j]? = (σ.set i (some v))[j]?) := by
    funext σ2 H2
    refine propext ⟨fun ⟨a, b⟩ => ⟨a, fun j m hj => (b j m hj).trans (k j m hj).symm⟩, fun ⟨a, b⟩ => ⟨a, fun j m hj => (b j m hj).trans (k j m hj)⟩⟩
  show u r (σ.set i (some v)) H _
  rw [e3]
  exact e2
theorem tg_tup {fr : List (Option Nat)} {K : PySem.W.Frag} {n : Nat} {u : TGs} (hu : TgsOk fr u) : TgOk fr (gTup K n u) := fun x σ H Q ⟨a, xs, e1, e2, e3, q⟩ => ⟨a, xs, e1, e2, e3, hu _ _ _ _ q⟩
def PTs (X : Cx) (ifs : List Expr) (t : TT) : Prop :=
  ∀ (pins : List (Addr × Obj)) (s : Shared) (σ : St) (H : Hp) (Q : Bool → Hp → Prop), Inv X pins σ H s → t σ H Q →
    wpAny (model X.prog X.w) X.A (forIn ifs true fun c r => if r = true then do let ok ← isTrue c X.env (eval c X.env); pure (ForInStep.yield ok) else pure (ForInStep.yield r)) (TP X pins σ Q) X.xe s
def tTT : TT := fun _ H Q => Q true H
theorem pts_nil {X : Cx} : PTs X [] tTT := fun _ _ _ H _ I h => wpAny_tests_nil ⟨H, I, h⟩
theorem pts_one {X : Cx} {c : Expr} {t : TT} (h : PT X c t) : PTs X [c] t := fun pins s σ H Q I hq => wpAny_tests_one (h pins s σ H Q I hq)
structure CompScope (X : Cx) (scope : Scope) (N : List Str) (fr : List (Option Nat)) : Prop where
  kind : scope.kind = .function
  nocell : ∀ y ∈ scope.names, y.2 ≠ .cell
  names : ∀ y ∈ scope.names, y.2 = .local → scope.names.lookup y.1 = some .local
  free : ∀ y ∈ scope.names, y.2 = .free → X.env.scope.names.lookup y.1 = some .cell ∨ X.env.scope.names.lookup y.1 = some .free
  len : N.length = fr.length
  at_ : ∀ (j i : Nat) (x : Str), fr[j]? = some (some i) → N[j]? = some x → X.N[i]? = some x ∧ scope.names.lookup x = some .free
def compChk (osc : Scope) (ON : List Str) (scope : Scope) (N : List Str) (fr : List (Option Nat)) : Bool :=
  decide (scope.kind = .function) && scope.names.all (fun y => decide (y.2 ≠ .cell)) && scope.names.all (fun y => decide (y.2 ≠ .local) || decide (scope.names.lookup y.1 = some .local)) &&
  scope.names.all (fun y => decide (y.2 ≠ .free) || decide (osc.names.lookup y.1 = some .cell) || decide (osc.names.lookup y.1 = some .free)) && decide (N.length = fr.length) &&
  (fr.zip N).all (fun p => match p.1 with | some i => decide (ON[i]? = some p.2) && decide (scope.names.lookup p.2 = some .free) | none => true)
theorem comp_scope {X : Cx} {osc : Scope} {ON : List Str} {scope : Scope} {N : List Str} {fr : List (Option Nat)} (h : compChk osc ON scope N fr = true) (e1 : X.env.scope = osc) (e2 : X.N = ON) : CompScope X scope N fr := by
  subst e1 e2
  unfold compChk at h
  simp only [Bool.and_eq_true, List.all_eq_true, Bool.or_eq_true, decide_eq_true_eq] at h
  obtain ⟨⟨⟨⟨⟨h1, h2⟩, h3⟩, h4⟩, h5⟩, h6⟩ := h
  refine ⟨h1, h2, fun y hy e => (h3 y hy).resolve_left fun z => z e, fun y hy e => ?_, h5, fun j i x e1 e2 => ?_⟩
  · rcases h4 y hy with (z | z) | z
    · exact absurd e z
    · exact .inl z
    · exact .inr z
  · have hm : (some i, x) ∈ fr.zip N := by
      apply List.mem_of_getElem? (i := j)
      rw [List.getElem?_zip_eq_some]
      exact ⟨e1, e2⟩
    have := h6 _ hm
    simpa using this
def tComp (fr : List (Option Nat)) (wi : TI) (g : TG) (tt : TT) (te : TE) : TE := fun σ H Q => wi σ H fun J H1 =>
  ∃ W : Nat → Nat → List V → Hp → Prop, (∃ m, W 0 m [] H1) ∧ ∀ i m ys H, W i m ys H → ys.length ≤ sizeLine ∧
    ((J.stop i H ∧ ∀ p, H p = none → Q (.ref p) (upd H p (.lst ys))) ∨
     (J.go i H ∧ ∃ NN : List V → Hp → Prop, (∀ ys' H', NN ys' H' → ∃ m', m' < m ∧ W (i + 1) m' ys' H') ∧ ∀ x H', J.yld i H x H' → g x (grab fr σ) H' fun σ2 H2 => tt σ2 H2 fun b H3 =>
        if b = true then te σ2 H3 fun y H4 => NN (ys ++ [y]) H4 else NN ys H3))
structure BlkEnd (X : Cx) (pins : List (Addr × Obj)) (σ : St) (Q : VK) (C D : Addr) (s' : Shared) : Prop where
  ex : ∃ (ys : List V) (H : Hp), H D = none ∧ (∃ m, s'.heap.Ns C m) ∧ D ≠ C ∧ C ≠ X.env.locals ∧ (∀ x c, X.env.cells.lookup x = some c → c ≠ C) ∧ (∀ p ∈ X.pn ++ pins, p.1 ≠ C) ∧ X.s₀.heap.objs.size ≤ C ∧ C ∉ X.fs ∧
    (upd H D (.lst ys)) C = none ∧
    (∀ h', Heap.SameBut C s'.heap h' → Inv X pins σ (upd H D (.lst ys)) { s' with heap := h' }) ∧ Q (.ref D) (upd H D (.lst ys))
theorem comp_block {X : Cx} {elt iter tg : Expr} {ifs : List Expr} {scope : Scope} {pos : Pos} {N : List Str} {fr : List (Option Nat)} {g : TG} {tt : TT} {te : TE} {cl : List (Str × Addr)}
    (hcalm : X.calm = true) (S : CompScope X scope N fr) (hclS : ∀ x c, cl.lookup x = some c → X.env.cells.lookup x = some c) (hclH : ∀ y ∈ scope.names, y.2 = .free → ∃ c, cl.lookup y.1 = some c)
    (hg : ∀ C s₂ H₂ fp pn, PG (blk X N scope cl C s₂ H₂ fp pn) tg g) (hgo : TgOk fr g) (ht : ∀ C s₂ H₂ fp pn, PTs (blk X N scope cl C s₂ H₂ fp pn) ifs tt) (he : ∀ C s₂ H₂ fp pn, PE (blk X N scope cl C s₂ H₂ fp pn) elt te)
    {pins : List (Addr × Obj)} {s2 : Shared} {σ : St} {H2 : Hp} {Q : VK} {it : Addr} {fp : List Addr} {tn : Nat → Heap → Prop} {J : It} (I2 : Inv X pins σ H2 s2) (T : Turn X.prog X.w X.K tg J fp it tn) (st2 : tn 0 s2.heap) (f2 : ∀ b ∈ fp, FpOk X pins H2 b)
    (W : Nat → Nat → List V → Hp → Prop) (w0 : ∃ m, W 0 m [] H2)
    (turn : ∀ i m ys H, W i m ys H → ys.length ≤ sizeLine ∧
    ((J.stop i H ∧ ∀ p, H p = none → Q (.ref p) (upd H p (.lst ys))) ∨
     (J.go i H ∧ ∃ NN : List V → Hp → Prop, (∀ ys' H', NN ys' H' → ∃ m', m' < m ∧ W (i + 1) m' ys' H') ∧ ∀ x H', J.yld i H x H' → g x (grab fr σ) H' fun σ2 H2 => tt σ2 H2 fun b H3 =>
        if b = true then te σ2 H3 fun y H4 => NN (ys ++ [y]) H4 else NN ys H3)))
    {E : Value → Shared → Prop} {RR : Value → Addr → Result → Shared → Prop} (hRR : ∀ C D s', BlkEnd X pins σ Q C D s' → RR (.ref D) C (.ok .next) s') :
    wpAny (model X.prog X.w) X.A (newList []) (fun acc s₃ => wpAny (model X.prog X.w) X.A (newFunctionEnv scope X.env.globals cl [] X.env.qual none .none (some X.env)) (fun cenv s₄ =>
      codeAny (model X.prog X.w) X.A (.compStart (.ListComp elt [⟨tg, iter, ifs, 0⟩] scope pos) 0 (.ref it) acc { cenv with scope := relabel scope X.env }) (RR acc cenv.locals) s₄) E s₃) E s2 := by
  obtain ⟨m0, w0⟩ := w0
  refine wpAny_newObj_type (wpAny_newFunctionEnv S.nocell (by intro y hy; simp at hy) (fun h₁ hns₁ hsb₁ => ?_) S.kind)
  dsimp only at hns₁ hsb₁ ⊢
  generalize hHH : s2.heap.push { cls := .type "list", dict := none, data := .seq ([] : List Value).toArray } = HH at hns₁ hsb₁ ⊢
  have hC : HH.objs.size = s2.heap.objs.size + 1 := by rw [← hHH, Heap.size_push]
  generalize hDD : s2.heap.objs.size = D at *
  generalize hCC : HH.objs.size = C at *
  have hDlt : Nat.lt D C := by show D < C; rw [hC]; exact Nat.lt_succ_self _
  have hDC : D ≠ C := Nat.ne_of_lt hDlt
  have neD : ∀ {b : Addr}, Nat.lt b D → b ≠ D := fun h => Nat.ne_of_lt h
  have neC : ∀ {b : Addr}, Nat.lt b D → b ≠ C := fun h => Nat.ne_of_lt (Nat.lt_trans h hDlt)
  have below : ∀ (b : Addr) (o : Obj), s2.heap.get? b = some o → Nat.lt b D := fun b o e => by rw [← hDD]; exact Heap.lt_size e
  have old : ∀ b o, s2.heap.get? b = some o → h₁.get? b = some o := fun b o e => hsb₁.extBut b o (neC (below b o e)) (Heap.get?_push_of_some _ (hHH ▸ Heap.get?_push_of_some _ e))
  have hacc : h₁.get? D = some { cls := .type "list", data := .seq ([] : List Value).toArray } := hsb₁.extBut _ _ hDC (Heap.get?_push_of_some _ (by rw [← hHH, ← hDD]; exact Heap.get?_push_size _ rfl))
  have Lt : Nat.lt X.env.locals D := by rw [← hDD]; exact I2.lt
  have cellLt : ∀ x c, X.env.cells.lookup x = some c → Nat.lt c D := fun x c e => by
    obtain ⟨v, q⟩ := I2.cell x c e
    rw [← hDD]; exact q.lt
  have pinLt : ∀ p ∈ X.pn ++ pins, Nat.lt p.1 D := fun p hp => below p.1 p.2 (I2.pin p hp).1
  have freshH : ∀ b : Addr, Nat.le D b → H2 b = none := fun b hb => I2.hok.fresh (by rw [hDD]; exact hb)
  let X' : Cx := blk X N scope cl C s2 H2 fp (X.pn ++ pins)
  have okX : X'.Ok := by
    refine ⟨I2.ok.mod, S.kind, I2.ok.glob, I2.ok.blt, by show s2.heap.objs.size ≤ C; rw [hDD]; exact Nat.le_of_lt hDlt, fun x y c e1 e2 => I2.ok.inj x y c (hclS _ _ e1) (hclS _ _ e2), fun x hx => ?_, fun x c hf _ => (by cases hf), I2.ok.hd, I2.ok.frames, .inl rfl, fun b hb => ⟨?_, fun x c e => (f2 b hb).2.2.2.2.1 x c (hclS _ _ e)⟩, I2.bs, Nat.le_trans I2.ok.bsz I2.sz, fun b o e hb => ?_, fun b hb hm => ?_, I2.stack, I2.stkFree⟩
    · have hx : (relabel scope X.env).names.lookup x = some .cell ∨ (relabel scope X.env).names.lookup x = some .free := hx
      have hf : scope.names.lookup x = some .free := by
        rcases hx with hx | hx
        · rcases lookup_relabel_back hx with h | ⟨_, h⟩
          · exact absurd rfl (S.nocell _ (PySem.mem_of_lookup h))
          · exact h
        · rcases lookup_relabel_back hx with h | ⟨h, _⟩
          · exact h
          · cases h
      exact hclH _ (PySem.mem_of_lookup hf) rfl
    · obtain ⟨o, e, _⟩ := T.obj 0 _ st2 b hb
      exact neC (below b o e)
    · obtain ⟨_, _, _, h, _⟩ := f2 b hb
      rcases h with h | h
      · exact I2.ok.noex b o e h
      · have := Heap.lt_size (I2.ok.bs b o e).1
        exact absurd (Nat.lt_of_lt_of_le this h) (Nat.lt_irrefl _)
    · rcases List.mem_cons.mp (I2.stkSub b hm) with h | h
      · exact (f2 b hb).2.1 h
      · exact (f2 b hb).2.2.1 h
  have I4 : ∀ tk, 0 < tk → Inv X' [(D, { cls := .type "list", data := .seq ([] : List Value).toArray })] (grab fr σ) H2 { s2 with heap := h₁, toks := tk } := fun tk htk => by
    refine ⟨okX, rfl, I2.bare, Un.kept old, ⟨_, hns₁, fun j x v e1 e2 e3 => ?_⟩, fun x c e => ?_, freshH C (Nat.le_of_lt hDlt), fun x c e => I2.freeC x c (hclS _ _ e), fun p hp => ?_, I2.hok.kept old, ?_, htk⟩
    · obtain ⟨i, q1, q2⟩ := grab_get e2
      obtain ⟨a1, a2⟩ := S.at_ j i x q1 e1
      obtain ⟨m, hn, hl⟩ := I2.loc
      have vis : Vis X.env.scope x := by
        rcases S.free _ (PySem.mem_of_lookup a2) rfl with h | h
        · exact .inr (.inl h)
        · exact .inr (.inr h)
      obtain ⟨u, r, l⟩ := hl i x v a1 q2 vis
      refine ⟨u, r, .inr ⟨?_, ?_⟩⟩
      · exact lookup_relabel_free (env := X.env) a2
      · rcases l with ⟨hk, _⟩ | ⟨_, c, hc, hcell⟩
        · have hk : X.env.scope.names.lookup x = some .local := hk
          rcases S.free _ (PySem.mem_of_lookup a2) rfl with h | h
          · have h : X.env.scope.names.lookup x = some .cell := h
            rw [hk] at h; cases h
          · have h : X.env.scope.names.lookup x = some .free := h
            rw [hk] at h; cases h
        · obtain ⟨c', hc'⟩ := hclH _ (PySem.mem_of_lookup a2) rfl
          have : c = c' := by
            have := hclS _ _ hc'
            rw [hc] at this
            exact Option.some.inj this
          subst this
          obtain ⟨o, ho, hd⟩ := hcell
          exact ⟨c, hc', o, old c o ho, hd⟩
    · obtain ⟨v, o, ho, hd⟩ := I2.cell x c (hclS _ _ e)
      exact ⟨v, o, old c o ho, hd⟩
    · rcases List.mem_append.mp hp with hp | hp
      · obtain ⟨e, n, ne, nf, d⟩ := I2.pin p hp
        refine ⟨old _ _ e, n, ?_, fun hm => ?_, d⟩
        · exact neC (pinLt p hp)
        · rcases List.mem_cons.mp (I2.stkSub _ hm) with h | h
          · exact ne h
          · exact nf h
      · have hp : p = (D, { cls := .type "list", data := .seq ([] : List Value).toArray }) := by simpa using hp
        subst hp
        refine ⟨hacc, freshH D (Nat.le_refl _), hDC, fun hm => ?_, fun v z => by cases z⟩
        rcases List.mem_cons.mp (I2.stkSub _ hm) with h | h
        · exact neD Lt h.symm
        · exact I2.nofs (by rw [hDD]; exact Nat.le_refl _) h
    · show (grab fr σ).length = N.length
      unfold grab
      rw [List.length_map, S.len]
  have fpLt : ∀ b ∈ fp, Nat.lt b D := fun b hb => by
    obtain ⟨o, e, _⟩ := T.obj 0 _ st2 b hb
    exact below b o e
  have fpk : ∀ {H : Hp} {oD : Obj}, (∀ b ∈ fp, H b = none) → ∀ b ∈ fp, FpOk X' [(D, oD)] H b := fun {H oD} hn b hb => by
    refine ⟨hn b hb, ?_, fun hm => ?_, .inl hb, fun x c e => (f2 b hb).2.2.2.2.1 x c (hclS _ _ e), fun p hp => ?_⟩
    · exact neC (fpLt b hb)
    · rcases List.mem_cons.mp (I2.stkSub b hm) with h | h
      · exact (f2 b hb).2.1 h
      · exact (f2 b hb).2.2.1 h
    · rcases List.mem_append.mp hp with hp | hp
      · exact (f2 b hb).2.2.2.2.2 p hp
      · have hp : p = (D, oD) := by simpa using hp
        subst hp
        exact (neD (fpLt b hb)).symm
  have loop : ∀ s₃ : Shared, s₃ = { s2 with heap := h₁, toks := s2.toks + ([] : List (Str × Value)).length } →
      codeAny (model X.prog X.w) X.A (.compLoop (.ListComp elt [⟨tg, iter, ifs, 0⟩] scope pos) 0 (.ref it) (.ref D) (compEnvC scope cl C X.env)) (RR (.ref D) C) s₃ := by
    rintro s₃ rfl
    refine codeAny_compLoop_gen (fun n s' => ∃ i ys its k H', Inv X' [(D, ({ cls := .type "list", data := .seq its k } : Obj))] (grab fr σ) H' s' ∧ tn i s'.heap ∧ (∀ b ∈ fp, H' b = none) ∧ Vals ys its.toList ∧ W i n ys H') ?_ m0
      ⟨0, [], #[], _, H2, I4 _ (by first | exact I2.tk | exact Nat.succ_pos _), T.keep 0 _ _ st2 (fun b _ o e => old b o e), fun b hb => (f2 b hb).1, .nil, w0⟩
    rintro n s3 ⟨i, ys, its, k, H3, I3, st3, fr3, vy, w3⟩
    obtain ⟨hsz, h⟩ := turn i n ys H3 w3
    rcases h with ⟨stop, qn⟩ | ⟨go, NN, hNN, step⟩
    · refine noE (thn (T.done X' rfl rfl rfl hcalm i [(D, _)] s3 (grab fr σ) H3 _ I3 (fpk fr3) st3 stop) fun r s4 ⟨hr, I4⟩ => ?_)
      subst hr
      refine hRR C D s4 ⟨ys, H3, ?_⟩
      obtain ⟨pD, nD, _, _, _⟩ := I4.pin (D, _) (List.mem_append_right _ (List.mem_singleton.mpr rfl))
      have pD : s4.heap.get? D = some { cls := .type "list", data := .seq its k } := pD
      have nD : H3 D = none := nD
      have nC : H3 C = none := I4.free
      obtain ⟨mC, hnC, _⟩ := I4.loc
      refine ⟨nD, ⟨mC, hnC⟩, hDC, (neC Lt).symm, fun x c e z => ?_, fun p hp z => ?_, ?_, fun hm => ?_, ?_, fun h' hsb => ?_, qn D nD⟩
      · exact neC (cellLt x c e) z
      · exact neC (pinLt p hp) z
      · have := I2.sz; rw [hDD] at this; exact Nat.le_trans this (Nat.le_of_lt hDlt)
      · exact I2.nofs (by rw [hDD]; exact Nat.le_of_lt hDlt) hm
      · rw [upd_ne (Ne.symm hDC)]; exact nC
      · have un : Un (frs X.stack) fp H2 (upd H3 D (.lst ys)) s2.heap h' := by
          have u := I4.base
          have neC : ∀ (b : Addr) (o : Obj), s2.heap.get? b = some o → b ≠ C := fun b o e => neC (below b o e)
          have neD : ∀ (b : Addr) (o : Obj), s2.heap.get? b = some o → b ≠ D := fun b o e => neD (below b o e)
          have trkNe : ∀ b (o : HO), H3 b = some o → b ≠ D := fun b o e z => by rw [z, nD] at e; cases e
          refine ⟨fun b o e n hb hx => hsb.extBut b o (neC b o e) (u.keep b o e n hb hx), fun b o e n hb hx => ?_, fun b o e n hx => by rw [upd_ne (neD b o e)]; exact u.free b o e n hx, fun b o e hx => ?_, fun b xs e => ?_, fun b o xs e => ?_, fun b ps e => ?_⟩
          · obtain ⟨sl, q⟩ := u.slot b o e n hb hx
            exact ⟨sl, hsb.extBut b _ (neC b o e) q⟩
          · obtain ⟨o', q⟩ := u.there b o e hx
            exact ⟨o', hsb.extBut b _ (neC b o e) q⟩
          · have q := u.tups b xs e
            rw [upd_ne (trkNe b _ q)]; exact q
          · have q := u.frzs b o xs e
            rw [upd_ne (trkNe b _ q)]; exact q
          · obtain ⟨more, q⟩ := u.tbls b ps e
            exact ⟨more, by rw [upd_ne (trkNe b _ q)]; exact q⟩
        have hok : HOk X.prog X.w (upd H3 D (.lst ys)) h' := fun b u e => by
          by_cases hb : b = D
          · rw [hb, upd_same] at e
            cases e
            rw [hb]
            exact ⟨hsz, its.toList, k, vy, by simpa using hsb.extBut D _ hDC pD⟩
          · rw [upd_ne hb] at e
            refine (I4.hok b u e).stay (fun c v hc q => hsb.extBut c v ?_ q) (fun c q => ?_) fun c xs q => ?_
            · rcases hc with rfl | hc
              · rintro rfl; rw [nC] at e; cases e
              · rintro rfl; rw [nC] at hc; cases hc
            · rw [upd_ne (ne_of_none q nD)]; exact q
            · rw [upd_ne (ne_of_none q nD)]; exact q
        obtain ⟨hh, gg, dd, tt', os'⟩ := s4
        obtain rfl : os' = s2.os := I4.os
        refine (show Inv X pins σ (upd H3 D (.lst ys)) { s2 with heap := h', gens := gg, drawn := dd, toks := tt' } from I2.call (h' := h') (g' := gg) (d' := dd) (t' := tt') (ch := fp) un hok I4.bare fun b hb => ?_)
        obtain ⟨_, f1, _, f3, f4, f5⟩ := f2 b hb
        exact ⟨f3, f1, f4, f5⟩
    · refine noE (thn (T.item X' rfl rfl rfl hcalm i [(D, _)] s3 (grab fr σ) H3 _ I3 (fpk fr3) st3 go) fun r s4 ⟨u, hr, h4⟩ => ?_)
      subst hr
      refine noE (thn h4 fun _ s5 ⟨x, H5, I5, r5, y5, st5, fr5⟩ => ?_)
      have I5' := I5.pinned (fpk fr5) (T.obj _ _ st5)
      refine noE (thn (hg C s2 H2 fp (X.pn ++ pins) _ s5 (grab fr σ) H5 x u _ I5' r5 (hgo _ _ _ _ (step x H5 y5))) fun _ s6 ⟨σ6, H6, I6, q6, k6⟩ => ?_)
      refine noE (thn (ht C s2 H2 fp (X.pn ++ pins) _ s6 σ6 H6 _ I6 q6) fun b s7 ⟨H7, I7, q7⟩ => ?_)
      have back : ∀ {s8 : Shared} {H8 : Hp}, Inv X' ([(D, ({ cls := .type "list", data := .seq its k } : Obj))] ++ pinsAt fp s5.heap) σ6 H8 s8 → Inv X' [(D, ({ cls := .type "list", data := .seq its k } : Obj))] (grab fr σ) H8 s8 ∧ tn (i + 1) s8.heap ∧ ∀ b ∈ fp, H8 b = none := fun {s8 H8} I8 => by
        refine ⟨(I8.unpinned).weak ?_ fun j v e => ?_, T.keep _ _ _ st5 fun b hb o e => (I8.pin (b, o) (List.mem_append_right _ (List.mem_append_right _ (mem_pinsAt hb e)))).1, fun b hb => ?_⟩
        · rw [I8.len]; show (grab fr σ).length = N.length; unfold grab; rw [List.length_map, S.len]
        · obtain ⟨i', q1, _⟩ := grab_get e
          rw [k6 j i' q1]; exact e
        · obtain ⟨o, e, d⟩ := T.obj _ _ st5 b hb
          exact (I8.pin (b, o) (List.mem_append_right _ (List.mem_append_right _ (mem_pinsAt hb e)))).2.1
      cases b with
      | false =>
        rw [if_neg Bool.false_ne_true] at q7 ⊢
        obtain ⟨m', hm, w7⟩ := hNN _ _ q7
        obtain ⟨J1, J2, J3⟩ := back I7
        exact ⟨m', hm, i + 1, ys, its, k, H7, J1, J2, J3, vy, w7⟩
      | true =>
        rw [if_pos rfl] at q7 ⊢
        refine noE (thn (he C s2 H2 fp (X.pn ++ pins) _ s7 σ6 H7 _ I7 q7) fun y s8 ⟨yv, H8, I8, r8, n8⟩ => ?_)
        obtain ⟨m', hm, w8⟩ := hNN _ _ n8
        obtain ⟨J1, J2, J3⟩ := back I8
        obtain ⟨pD, nD, _, _, _⟩ := J1.pin (D, _) (List.mem_append_right _ (List.mem_singleton.mpr rfl))
        have pD : s8.heap.get? D = some { cls := .type "list", data := .seq its k } := pD
        have nD : H8 D = none := nD
        have hz' : its.size ≤ sizeLine := by
          have e1 : its.size = ys.length := by rw [vy.length]; simp
          rw [e1]; exact hsz
        refine wpAny_list_append_plain (hsz := hz') ⟨k, pD⟩ fun h' ⟨k', hl'⟩ hsb => ?_
        · refine ⟨m', hm, i + 1, ys ++ [yv], its.push y, k', H8, ?_, T.keep _ _ _ J2 fun b hb o e => ?_, J3, ?_, w8⟩
          · have K0 : Inv X' [] (grab fr σ) H8 s8 := J1.pins_of fun p hp => by cases hp
            have K1 : Inv X' [] (grab fr σ) H8 { s8 with heap := h' } := by
              refine K0.turned (it := D) (t' := s8.toks) (fun b o hb e => hsb.extBut b o hb e) nD hDC (.inr (by show s2.heap.objs.size ≤ D; rw [hDD]; exact Nat.le_refl _)) (fun x c e z => ?_) fun p hp z => ?_
              · exact neD (cellLt x c (hclS _ _ e)) z
              · have hp : p ∈ X.pn ++ pins := by
                  rcases List.mem_append.mp hp with hp | hp
                  · exact hp
                  · cases hp
                exact neD (pinLt p hp) z
            refine K1.pins_of fun p hp => ?_
            have hp : p = (D, ({ cls := .type "list", data := .seq (its.push y) k' } : Obj)) := by simpa using hp
            subst hp
            refine ⟨hl', nD, hDC, fun hm => ?_, fun v z => by cases z⟩
            rcases List.mem_cons.mp (I2.stkSub _ hm) with h | h
            · exact neD Lt h.symm
            · exact I2.nofs (by rw [hDD]; exact Nat.le_refl _) h
          · exact hsb.extBut b o (neD (fpLt b hb)) e
          · rw [Array.toList_push]
            exact Vals.append vy (.cons r8 .nil)
  exact codeAny_compStart_list (loop _ rfl) (T.self _ 0 _ _ _ (T.keep 0 _ _ st2 fun b _ o e => old b o e) (loop _ rfl))
theorem pe_comp {X : Cx} {elt iter tg : Expr} {ifs : List Expr} {scope : Scope} {pos : Pos} {N : List Str} {fr : List (Option Nat)} {wi : TI} {g : TG} {tt : TT} {te : TE}
    (hcalm : X.calm = true) (S : CompScope X scope N fr) (hi : PI X tg iter wi)
    (hg : ∀ cl C s₂ H₂ fp pn, PG (blk X N scope cl C s₂ H₂ fp pn) tg g) (hgo : TgOk fr g) (ht : ∀ cl C s₂ H₂ fp pn, PTs (blk X N scope cl C s₂ H₂ fp pn) ifs tt) (he : ∀ cl C s₂ H₂ fp pn, PE (blk X N scope cl C s₂ H₂ fp pn) elt te)
    (hs : ∀ x, foldedSetIterable iter X.env x = pure x := by intro _; rfl) : PE X (.ListComp elt [⟨tg, iter, ifs, 0⟩] scope pos) (tComp fr wi g tt te) := by
  intro pins s σ H Q I h
  obtain ⟨cl, hclos, hclS, hclH⟩ := closureFor_ex (env := X.env) (scope := scope) fun y hy hf => I.ok.has y.1 (S.free y hy hf)
  rw [eval_ListComp]
  refine wpAny_comprehension_free (use := none) rfl hs hclos S.kind S.names (thn (hi pins s σ H _ I h) fun v s1 h1 => thn h1 fun itv s2 h2 => ?_)
  obtain ⟨it, fp, tn, J, H2, e, I2, T, st2, f2, W, w0, turn⟩ := h2
  subst e
  refine comp_block (RR := fun acc C => compPost (model X.prog X.w) X.A X.xe none (EP X pins σ Q) acc C) hcalm S hclS hclH (hg cl) hgo (ht cl) (he cl) I2 T st2 f2 W w0 turn fun C D s' B => ?_
  obtain ⟨ys, H', nD, hC, _, _, _, _, _, _, _, hI, q⟩ := B.ex
  obtain ⟨m, hn⟩ := hC
  exact ⟨m, hn, fun h' hs' => ⟨.ref D, _, hI h' hs', rfl, q⟩⟩
theorem ps_setC {X : Cx} {elt iter tg : Expr} {ifs : List Expr} {scope : Scope} {pos spos py : Pos} {N : List Str} {fr : List (Option Nat)} {wi : TI} {g : TG} {tt : TT} {te : TE} {i : Nat} {y : Str}
    (hN : X.N.Nodup) (hy : X.N[i]? = some y) (hly : X.env.scope.names.lookup y = some .local)
    (hcalm : X.calm = true) (S : CompScope X scope N fr) (hi : PI X tg iter wi)
    (hg : ∀ cl C s₂ H₂ fp pn, PG (blk X N scope cl C s₂ H₂ fp pn) tg g) (hgo : TgOk fr g) (ht : ∀ cl C s₂ H₂ fp pn, PTs (blk X N scope cl C s₂ H₂ fp pn) ifs tt) (he : ∀ cl C s₂ H₂ fp pn, PE (blk X N scope cl C s₂ H₂ fp pn) elt te)
    (hsw : swapsWith (.ListComp elt [⟨tg, iter, ifs, 0⟩] scope pos) (some (.Name y py)) spos.line X.env = pure true := by rfl)
    (hs : ∀ x, foldedSetIterable iter X.env x = pure x := by intro _; rfl) : PS X (.Assign [.Name y py] (.ListComp elt [⟨tg, iter, ifs, 0⟩] scope pos) spos) (tAsg (tComp fr wi g tt te) (gName i)) := by
  intro pins s σ H D I h
  obtain ⟨cl, hclos, hclS, hclH⟩ := closureFor_ex (env := X.env) (scope := scope) fun y hy hf => I.ok.has y.1 (S.free y hy hf)
  rw [exec_Assign_Name_used _ _ _ _ hsw]
  refine wpAny_bind (wpAny_standAt (wpAny_bind ?_))
  show wpAny _ X.A (do let _ ← comprehension (.ListComp elt [⟨tg, iter, ifs, 0⟩] scope pos) scope X.env _ (newList []) false (eval iter X.env) (some (assign (.Name y py) X.env))) _ _ s
  refine wpAny_bind (wpAny_mono (wpAny_comprehension_free (use := some (assign (.Name y py) X.env)) (Q := fun _ s' => SP X pins D .next s') rfl hs hclos S.kind S.names
    (thn (hi pins s σ H _ I h) fun v s1 h1 => thn h1 fun itv s2 h2 => ?_)) (fun _ s' hq => wpAny_pure (wpAny_pure hq)) fun _ _ e => e)
  obtain ⟨it, fp, tn, J, H2, e, I2, T, st2, f2, W, w0, turn⟩ := h2
  subst e
  refine comp_block (Q := fun x H1 => gName i x σ H1 D.nx) (RR := fun acc C => compPost (model X.prog X.w) X.A X.xe (some (assign (.Name y py) X.env)) (fun _ s' => SP X pins D .next s') acc C) hcalm S hclS hclH (hg cl) hgo (ht cl) (he cl) I2 T st2 f2 W w0 turn fun C D' s' B => ?_
  obtain ⟨ys, H', nD, hC, hDC, hCL, hCc, hCp, hCs, hCf, hCn, hI, q⟩ := B.ex
  obtain ⟨m, hn⟩ := hC
  have I1 : Inv X pins σ (upd H' D' (.lst ys)) s' := by
    have := hI s'.heap (.refl ..)
    obtain ⟨hh, gg, dd, tt', os'⟩ := s'
    exact this
  show wpAny _ X.A (assign (.Name y py) X.env (.ref D')) _ _ _
  refine wpAny_assign_Name (store_ok2 I1 hN hy (.inl hly) (v := .ref D') rfl (fun s2 I3 ⟨a, sb, ha⟩ => ?_) (.inr hly))
  have hCa : C ≠ a := by
    rcases ha with rfl | ha
    · exact hCL
    · exact fun z => hCc y a ha z.symm
  refine ⟨m, hn.sameBut sb hCa, fun h3 hs3 => ?_⟩
  exact ⟨_, _, I3.turned (it := C) (t' := s2.toks) (fun b o hb e => hs3.extBut b o hb e) hCn hCL (.inr hCs) hCc hCp, q⟩
end L2
namespace L2
open PySem PySem.Spec PyProof.Rows
mutual
def Dv (K : PySem.W.Frag) (H : Hp) : PyData → V → Prop
  | .none, v => v = .non
  | .bool b, v => v = .bl b
  | .int i, v => v = .int i
  | .str x, v => v = .str x
  | .list ds, v => ∃ a vs, v = .ref a ∧ SqL K H a vs ∧ Dvs K H ds vs
  | .tuple ds, v => ∃ a vs, v = .ref a ∧ SqT K H a vs ∧ Dvs K H ds vs
  | .dict _, _ => False
def Dvs (K : PySem.W.Frag) (H : Hp) : List PyData → List V → Prop
  | [], vs => vs = []
  | d :: ds, vs => ∃ v r, vs = v :: r ∧ Dv K H d v ∧ Dvs K H ds r
end
section
variable {K : PySem.W.Frag} {H H' : Hp}
theorem Dvs.length : ∀ {ds : List PyData} {vs : List V}, Dvs K H ds vs → vs.length = ds.length
  | [], _, h => by rw [Dvs] at h; subst h; rfl
  | d :: ds, _, h => by
    rw [Dvs] at h
    obtain ⟨v, r, rfl, _, h⟩ := h
    rw [List.length_cons, List.length_cons, Dvs.length h]
theorem Dvs.get' : ∀ {ds : List PyData} {vs : List V} {i : Nat} {v : V}, Dvs K H ds vs → vs[i]? = some v → ∃ d, ds[i]? = some d ∧ Dv K H d v
  | [], _, _, _, h, e => by rw [Dvs] at h; subst h; simp at e
  | d :: ds, _, 0, _, h, e => by
    rw [Dvs] at h
    obtain ⟨v, r, rfl, h, _⟩ := h
    cases e
    exact ⟨d, rfl, h⟩
  | d :: ds, _, i + 1, _, h, e => by
    rw [Dvs] at h
    obtain ⟨v, r, rfl, _, h⟩ := h
    exact Dvs.get' (i := i) h (by simpa using e)
theorem dvs_nil : Dvs K H [] [] := by rw [Dvs]
theorem dvs_cons {d : PyData} {ds : List PyData} {v : V} {vs : List V} (h : Dv K H d v) (t : Dvs K H ds vs) : Dvs K H (d :: ds) (v :: vs) := by rw [Dvs]; exact ⟨v, vs, rfl, h, t⟩
theorem dv_none {v : V} : Dv K H .none v ↔ v = .non := by rw [Dv]
theorem dv_bool {b : Bool} {v : V} : Dv K H (.bool b) v ↔ v = .bl b := by rw [Dv]
theorem dv_int {i : Int} {v : V} : Dv K H (.int i) v ↔ v = .int i := by rw [Dv]
theorem dv_str {x : Str} {v : V} : Dv K H (.str x) v ↔ v = .str x := by rw [Dv]
theorem dv_list {ds : List PyData} {v : V} : Dv K H (.list ds) v ↔ ∃ a vs, v = .ref a ∧ SqL K H a vs ∧ Dvs K H ds vs := by rw [Dv]
theorem dv_tuple {ds : List PyData} {v : V} : Dv K H (.tuple ds) v ↔ ∃ a vs, v = .ref a ∧ SqT K H a vs ∧ Dvs K H ds vs := by rw [Dv]
def sDa (xs : List Str) : List PyData := xs.map .str
def strV (xs : List Str) : List V := xs.map .str
theorem dvs_sDa : ∀ {xs : List Str} {vs : List V}, Dvs K H (sDa xs) vs ↔ vs = strV xs
  | [], _ => by show Dvs K H [] _ ↔ _ = []; rw [Dvs]
  | x :: xs, vs => by
    show Dvs K H (.str x :: sDa xs) vs ↔ vs = V.str x :: strV xs
    rw [Dvs]
    constructor
    · rintro ⟨v, r, rfl, h1, h2⟩
      rw [dv_str.mp h1, dvs_sDa.mp h2]
    · rintro rfl
      exact ⟨_, _, rfl, dv_str.mpr rfl, dvs_sDa.mpr rfl⟩
end
def TupK (H H' : Hp) : Prop := (∀ b xs, H b = some (.tup xs) → H' b = some (.tup xs)) ∧ ∀ b o xs, H b = some (.frz o (.tup xs)) → H' b = some (.frz o (.tup xs))
theorem Same.tupK {H H' : Hp} (h : Same H H') : TupK H H' := ⟨fun b xs e => h b _ e, fun b o xs e => h b _ e⟩
theorem TupK.sqT {K : PySem.W.Frag} {H H' : Hp} {a : Addr} {xs : List V} (e : TupK H H') (h : SqT K H a xs) : SqT K H' a xs := by
  rcases h with (h | ⟨o, h⟩) | h
  · exact .inl (.inl (e.1 _ _ h))
  · exact .inl (.inr ⟨o, e.2 _ _ _ h⟩)
  · exact .inr h
theorem Same.sqT {K : PySem.W.Frag} {H H' : Hp} {a : Addr} {xs : List V} (e : Same H H') (h : SqT K H a xs) : SqT K H' a xs := e.tupK.sqT h
theorem Same.sqL {K : PySem.W.Frag} {H H' : Hp} {a : Addr} {xs : List V} (e : Same H H') (h : SqL K H a xs) : SqL K H' a xs := e.seq h
theorem Same.new {H : Hp} {p : Addr} (h : H p = none) (o : HO) : Same H (upd H p o) := fun b u q => by rw [upd_ne (ne_of_none q h)]; exact q
def But (ps : List Addr) (H H' : Hp) : Prop := ∀ b o, H b = some o → b ∉ ps → H' b = some o
theorem But.upd {ps : List Addr} {H : Hp} {p : Addr} (h : p ∈ ps) (o : HO) : But ps H (upd H p o) := fun b u q n => by rw [upd_ne (by rintro rfl; exact n h)]; exact q
mutual
/-- data without lists -/
def fix : PyData → Bool
  | .none => true | .bool _ => true | .int _ => true | .str _ => true
  | .list _ => false
  | .tuple ds => fixs ds
  | .dict _ => false
def fixs : List PyData → Bool
  | [] => true
  | d :: ds => fix d && fixs ds
end
mutual
theorem Dv.tupK {K : PySem.W.Frag} {H H' : Hp} (k : TupK H H') : ∀ (d : PyData) (v : V), fix d = true → Dv K H d v → Dv K H' d v
  | .none, _, _, h => dv_none.mpr (dv_none.mp h)
  | .bool _, _, _, h => dv_bool.mpr (dv_bool.mp h)
  | .int _, _, _, h => dv_int.mpr (dv_int.mp h)
  | .str _, _, _, h => dv_str.mpr (dv_str.mp h)
  | .list _, _, f, _ => by rw [fix] at f; cases f
  | .tuple ds, v, f, h => by
    rw [fix] at f
    obtain ⟨a, vs, rfl, hq, h⟩ := dv_tuple.mp h
    exact dv_tuple.mpr ⟨a, vs, rfl, k.sqT hq, Dvs.tupK k ds vs f h⟩
  | .dict _, _, f, _ => by rw [fix] at f; cases f
theorem Dvs.tupK {K : PySem.W.Frag} {H H' : Hp} (k : TupK H H') : ∀ (ds : List PyData) (vs : List V), fixs ds = true → Dvs K H ds vs → Dvs K H' ds vs
  | [], _, _, h => by rw [Dvs] at h ⊢; exact h
  | d :: ds, vs, f, h => by
    rw [fixs, Bool.and_eq_true] at f
    rw [Dvs] at h ⊢
    obtain ⟨v, r, e, h1, h2⟩ := h
    exact ⟨v, r, e, Dv.tupK k d v f.1 h1, Dvs.tupK k ds r f.2 h2⟩
end
mutual
theorem Dv.same {K : PySem.W.Frag} {H H' : Hp} (k : Same H H') : ∀ (d : PyData) (v : V), Dv K H d v → Dv K H' d v
  | .none, _, h => dv_none.mpr (dv_none.mp h)
  | .bool _, _, h => dv_bool.mpr (dv_bool.mp h)
  | .int _, _, h => dv_int.mpr (dv_int.mp h)
  | .str _, _, h => dv_str.mpr (dv_str.mp h)
  | .list ds, v, h => by
    obtain ⟨a, vs, rfl, hq, h⟩ := dv_list.mp h
    exact dv_list.mpr ⟨a, vs, rfl, k.sqL hq, Dvs.same k ds vs h⟩
  | .tuple ds, v, h => by
    obtain ⟨a, vs, rfl, hq, h⟩ := dv_tuple.mp h
    exact dv_tuple.mpr ⟨a, vs, rfl, k.sqT hq, Dvs.same k ds vs h⟩
  | .dict _, _, h => by rw [Dv] at h; exact h.elim
theorem Dvs.same {K : PySem.W.Frag} {H H' : Hp} (k : Same H H') : ∀ (ds : List PyData) (vs : List V), Dvs K H ds vs → Dvs K H' ds vs
  | [], _, h => by rw [Dvs] at h ⊢; exact h
  | d :: ds, vs, h => by
    rw [Dvs] at h ⊢
    obtain ⟨v, r, e, h1, h2⟩ := h
    exact ⟨v, r, e, Dv.same k d v h1, Dvs.same k ds r h2⟩
end
mutual
theorem Dv.reads {X : Cx} {pins : List (Addr × Obj)} {σ : St} {H : Hp} {s : Shared} (I : Inv X pins σ H s) : ∀ (d : PyData) (v : V) (u : Value), Dv X.K H d v → RelV v u → ∃ as, Reads s.heap u d as
  | .none, _, _, h, r => by rw [dv_none.mp h] at r; cases r; exact ⟨_, .none⟩
  | .bool b, _, _, h, r => by rw [dv_bool.mp h] at r; cases r; exact ⟨_, .bool b⟩
  | .int i, _, _, h, r => by rw [dv_int.mp h] at r; obtain ⟨t, rfl⟩ := r; exact ⟨_, .int i t⟩
  | .str x, _, _, h, r => by rw [dv_str.mp h] at r; obtain ⟨t, rfl⟩ := r; exact ⟨_, .str x t⟩
  | .list ds, _, _, h, r => by
    obtain ⟨a, vs, rfl, hq, h⟩ := dv_list.mp h
    cases r
    obtain ⟨its, rv, pl, _⟩ := I.list hq
    obtain ⟨o, e, c, n, d⟩ := pl.isList
    obtain ⟨as, ra⟩ := Dvs.reads I ds vs its h rv
    exact ⟨_, .list e c d (by simpa using ra)⟩
  | .tuple ds, _, _, h, r => by
    obtain ⟨a, vs, rfl, hq, h⟩ := dv_tuple.mp h
    cases r
    obtain ⟨its, rv, pl, _⟩ := I.tuple hq
    obtain ⟨o, e, c, n, d⟩ := pl
    obtain ⟨as, ra⟩ := Dvs.reads I ds vs its h rv
    exact ⟨_, .tuple e c d (by simpa using ra)⟩
  | .dict _, _, _, h, _ => by rw [Dv] at h; exact h.elim
theorem Dvs.reads {X : Cx} {pins : List (Addr × Obj)} {σ : St} {H : Hp} {s : Shared} (I : Inv X pins σ H s) : ∀ (ds : List PyData) (vs : List V) (us : List Value), Dvs X.K H ds vs → Vals vs us → ∃ as, ReadsAll s.heap us ds as
  | [], _, _, h, r => by rw [Dvs] at h; subst h; cases r; exact ⟨_, .nil⟩
  | d :: ds, _, _, h, r => by
    rw [Dvs] at h
    obtain ⟨v, r', rfl, h1, h2⟩ := h
    cases r with
    | cons r1 r2 =>
      obtain ⟨as, a1⟩ := Dv.reads I d v _ h1 r1
      obtain ⟨bs, a2⟩ := Dvs.reads I ds r' _ h2 r2
      exact ⟨_, .cons a1 a2⟩
end
end L2
namespace L2
open PySem PySem.Spec PyProof.Rows PySem.SeqAt
mutual
def nd : PyData → Bool
  | .none => true | .bool _ => true | .int _ => true | .str _ => true
  | .list ds => nds ds
  | .tuple ds => nds ds
  | .dict _ => false
def nds : List PyData → Bool
  | [] => true
  | d :: ds => nd d && nds ds
end
mutual
theorem Dv.nd {K : PySem.W.Frag} {H : Hp} : ∀ (d : PyData) (v : V), Dv K H d v → nd d = true
  | .none, _, _ => by rw [L2.nd]
  | .bool _, _, _ => by rw [L2.nd]
  | .int _, _, _ => by rw [L2.nd]
  | .str _, _, _ => by rw [L2.nd]
  | .list ds, _, h => by
    obtain ⟨a, vs, _, _, h⟩ := dv_list.mp h
    rw [L2.nd]; exact Dvs.nd ds vs h
  | .tuple ds, _, h => by
    obtain ⟨a, vs, _, _, h⟩ := dv_tuple.mp h
    rw [L2.nd]; exact Dvs.nd ds vs h
  | .dict _, _, h => by rw [Dv] at h; exact h.elim
theorem Dvs.nd {K : PySem.W.Frag} {H : Hp} : ∀ (ds : List PyData) (vs : List V), Dvs K H ds vs → nds ds = true
  | [], _, _ => by rw [nds]
  | d :: ds, vs, h => by
    rw [Dvs] at h
    obtain ⟨v, r, _, h1, h2⟩ := h
    rw [nds, Dv.nd d v h1, Dvs.nd ds r h2]; rfl
end
mutual
theorem one_read {h : Heap} : ∀ (d d' : PyData) (v : Value) (as as' : List Addr), nd d = true → Reads h v d as → Reads h v d' as' → d = d'
  | .none, _, _, _, _, _, r, q => by cases r; cases q; rfl
  | .bool _, _, _, _, _, _, r, q => by cases r; cases q; rfl
  | .int _, _, _, _, _, _, r, q => by cases r; cases q; rfl
  | .str _, _, _, _, _, _, r, q => by cases r; cases q; rfl
  | .dict _, _, _, _, _, n, _, _ => by rw [L2.nd] at n; cases n
  | .list xs, d', _, _, _, n, r, q => by
    rw [L2.nd] at n
    cases r with
    | list a1 a2 a3 a4 =>
      cases q with
      | list b1 b2 b3 b4 => rw [a1] at b1; cases b1; rw [a3] at b3; cases b3; rw [one_reads xs _ _ _ _ n a4 b4]
      | tuple b1 b2 b3 b4 => rw [a1] at b1; cases b1; rw [a2] at b2; exact absurd b2 (by simp)
      | dict b1 b2 => rw [a1] at b1; cases b1; rw [a2] at b2; exact absurd b2 (by simp)
  | .tuple xs, d', _, _, _, n, r, q => by
    rw [L2.nd] at n
    cases r with
    | tuple a1 a2 a3 a4 =>
      cases q with
      | tuple b1 b2 b3 b4 => rw [a1] at b1; cases b1; rw [a3] at b3; cases b3; rw [one_reads xs _ _ _ _ n a4 b4]
      | list b1 b2 b3 b4 => rw [a1] at b1; cases b1; rw [a2] at b2; exact absurd b2 (by simp)
      | dict b1 b2 => rw [a1] at b1; cases b1; rw [a2] at b2; exact absurd b2 (by simp)
theorem one_reads {h : Heap} : ∀ (xs ys : List PyData) (vs : List Value) (as as' : List Addr), nds xs = true → ReadsAll h vs xs as → ReadsAll h vs ys as' → xs = ys
  | [], _, _, _, _, _, r, q => by cases r; cases q; rfl
  | x :: xs, _, _, _, _, n, r, q => by
    rw [nds, Bool.and_eq_true] at n
    cases r with
    | cons r1 r2 =>
      cases q with
      | cons q1 q2 => rw [one_read x _ _ _ _ n.1 r1 q1, one_reads xs _ _ _ _ n.2 r2 q2]
end
mutual
theorem eqv_self : ∀ d : PyData, nd d = true → PyData.eqv d d = true
  | .none, _ => rfl
  | .bool b, _ => by simp [PyData.eqv]
  | .int i, _ => by simp [PyData.eqv]
  | .str x, _ => by simp [PyData.eqv]
  | .list xs, h => by rw [PyData.eqv]; rw [L2.nd] at h; exact eqvs_self xs h
  | .tuple xs, h => by rw [PyData.eqv]; rw [L2.nd] at h; exact eqvs_self xs h
  | .dict _, h => by rw [L2.nd] at h; cases h
theorem eqvs_self : ∀ xs : List PyData, nds xs = true → PyData.eqvAll xs xs = true
  | [], _ => rfl
  | x :: xs, h => by
    rw [nds, Bool.and_eq_true] at h
    rw [PyData.eqvAll, eqv_self x h.1, eqvs_self xs h.2]; rfl
end
theorem readsAll_len {h : Heap} : ∀ {xs : List PyData} {vs : List Value} {as : List Addr}, ReadsAll h vs xs as → vs.length = xs.length
  | [], _, _, r => by cases r; rfl
  | _ :: xs, _, _, r => by
    cases r with
    | cons _ r' => rw [List.length_cons, List.length_cons, readsAll_len r']
mutual
theorem eqAt_own : ∀ (da db : PyData) (A : Around) (s : Shared) (a b : Value) (as bs : List Addr), Reads s.heap a da as → Reads s.heap b db bs → nd da = true → nd db = true → A.units + min da.depth db.depth < cLine → EqAt A s a b (PyData.eqv da db)
  | .none, db, A, s, _, _, _, _, ra, rb, _, hb, hu => by
    cases ra
    cases rb with
    | none => exact EqAt.same _
    | bool y => exact EqAt.none_bool y
    | int y u => exact EqAt.none_int y u
    | str y u => exact EqAt.none_str y u
    | list k1 k2 k3 k4 => exact EqAt.none_list ⟨_, k1, k2, _, k3⟩ (room_here hu)
    | tuple k1 k2 k3 k4 => exact EqAt.none_tuple ⟨_, k1, k2, _, k3⟩ (room_here hu)
    | dict => rw [L2.nd] at hb; cases hb
  | .bool x, db, A, s, _, _, _, _, ra, rb, _, hb, hu => by
    cases ra
    cases rb with
    | none => exact EqAt.bool_none x
    | bool y => exact EqAt.bool_bool x y
    | int y u => exact EqAt.bool_int x y u
    | str y u => exact EqAt.bool_str x y u
    | list k1 k2 k3 k4 => exact EqAt.bool_list x ⟨_, k1, k2, _, k3⟩ (room_here hu)
    | tuple k1 k2 k3 k4 => exact EqAt.bool_tuple x ⟨_, k1, k2, _, k3⟩ (room_here hu)
    | dict => rw [L2.nd] at hb; cases hb
  | .int x, db, A, s, _, _, _, _, ra, rb, _, hb, hu => by
    cases ra
    cases rb with
    | none => exact EqAt.int_none x _
    | bool y => exact EqAt.int_bool x _ y
    | int y u => exact EqAt.int_int x _ y u
    | str y u => exact EqAt.int_str x _ y u
    | list k1 k2 k3 k4 => exact EqAt.int_list x _ ⟨_, k1, k2, _, k3⟩ (room_here hu)
    | tuple k1 k2 k3 k4 => exact EqAt.int_tuple x _ ⟨_, k1, k2, _, k3⟩ (room_here hu)
    | dict => rw [L2.nd] at hb; cases hb
  | .str x, db, A, s, _, _, _, _, ra, rb, _, hb, hu => by
    cases ra
    cases rb with
    | none => exact EqAt.str_none x _
    | bool y => exact EqAt.str_bool x _ y
    | int y u => exact EqAt.str_int x _ y u
    | str y u => exact EqAt.str_str x _ y u
    | list k1 k2 k3 k4 => exact EqAt.str_list x _ ⟨_, k1, k2, _, k3⟩ (room_here hu)
    | tuple k1 k2 k3 k4 => exact EqAt.str_tuple x _ ⟨_, k1, k2, _, k3⟩ (room_here hu)
    | dict => rw [L2.nd] at hb; cases hb
  | .list xs, db, A, s, _, _, _, _, ra, rb, ha, hb, hu => by
    have ra0 := ra
    have rb0 := rb
    cases ra with
    | @list l o1 vs1 n1 xs as h1 h2 h3 h4 =>
      cases rb with
      | none => exact EqAt.list_none ⟨_, h1, h2, _, h3⟩ (room_here hu)
      | bool y => exact EqAt.list_bool y ⟨_, h1, h2, _, h3⟩ (room_here hu)
      | int y u => exact EqAt.list_int y u ⟨_, h1, h2, _, h3⟩ (room_here hu)
      | str y u => exact EqAt.list_str y u ⟨_, h1, h2, _, h3⟩ (room_here hu)
      | tuple k1 k2 k3 k4 => exact EqAt.list_tuple ⟨_, h1, h2, _, h3⟩ ⟨_, k1, k2, _, k3⟩ (room_here hu)
      | @list b o vs2 n2 ys bs k1 k2 k3 k4 =>
        by_cases e : l = b
        · subst e
          rw [one_read _ _ _ _ _ ha ra0 rb0, eqv_self _ hb]
          exact EqAt.same _
        · refine EqAt.of_refs e ?_
          have l1 := readsAll_len h4
          have l2 := readsAll_len k4
          rw [L2.nd] at ha hb
          by_cases hz : xs.length = ys.length
          · have := RcAt.lists (A := A) (s := s) (e := pairEq xs ys) ⟨_, h1, h2, _, h3⟩ ⟨_, k1, k2, _, k3⟩ (by simp at l1 l2; omega) (room_here hu) (fun j h1 h2 => by have q := eqAt_items xs ys A.in1 s _ _ _ _ h4 k4 ha hb (room_in (by rw [PyData.depth, PyData.depth] at hu; exact hu)) j (by simpa using h1) (by simpa using h2); rw [Array.getElem_toList, Array.getElem_toList] at q; exact q)
            rw [show PyData.eqv (.list xs) (.list ys) = PyData.eqvAll xs ys by rw [PyData.eqv], ← eqvAll_same_length hz]
            have e1 : vs1.size = xs.length := by simpa using l1
            rw [e1] at this
            exact this
          · rw [show PyData.eqv (.list xs) (.list ys) = PyData.eqvAll xs ys by rw [PyData.eqv], eqvAll_other_length hz]
            exact RcAt.lists_lengths ⟨_, h1, h2, _, h3⟩ ⟨_, k1, k2, _, k3⟩ (by simp at l1 l2; simp; omega) (room_here hu)
      | dict => rw [L2.nd] at hb; cases hb
  | .tuple xs, db, A, s, _, _, _, _, ra, rb, ha, hb, hu => by
    have ra0 := ra
    have rb0 := rb
    cases ra with
    | @tuple l o1 vs1 n1 xs as h1 h2 h3 h4 =>
      cases rb with
      | none => exact EqAt.tuple_none ⟨_, h1, h2, _, h3⟩ (room_here hu)
      | bool y => exact EqAt.tuple_bool y ⟨_, h1, h2, _, h3⟩ (room_here hu)
      | int y u => exact EqAt.tuple_int y u ⟨_, h1, h2, _, h3⟩ (room_here hu)
      | str y u => exact EqAt.tuple_str y u ⟨_, h1, h2, _, h3⟩ (room_here hu)
      | list k1 k2 k3 k4 => exact EqAt.tuple_list ⟨_, h1, h2, _, h3⟩ ⟨_, k1, k2, _, k3⟩ (room_here hu)
      | @tuple b o vs2 n2 ys bs k1 k2 k3 k4 =>
        by_cases e : l = b
        · subst e
          rw [one_read _ _ _ _ _ ha ra0 rb0, eqv_self _ hb]
          exact EqAt.same _
        · refine EqAt.of_refs e ?_
          have l1 := readsAll_len h4
          have l2 := readsAll_len k4
          rw [L2.nd] at ha hb
          have := RcAt.tuples (A := A) (s := s) (e := pairEq xs ys) ⟨_, h1, h2, _, h3⟩ ⟨_, k1, k2, _, k3⟩ (room_here hu) (fun j h1 h2 => by have q := eqAt_items xs ys A.in1 s _ _ _ _ h4 k4 ha hb (room_in (by rw [PyData.depth, PyData.depth] at hu; exact hu)) j (by simpa using h1) (by simpa using h2); rw [Array.getElem_toList, Array.getElem_toList] at q; exact q)
          rw [show PyData.eqv (.tuple xs) (.tuple ys) = PyData.eqvAll xs ys by rw [PyData.eqv], ← eqvAll_eq xs ys]
          have e1 : vs1.size = xs.length := by simpa using l1
          have e2 : vs2.size = ys.length := by simpa using l2
          rw [e1, e2] at this
          exact this
      | dict => rw [L2.nd] at hb; cases hb
  | .dict _, _, _, _, _, _, _, _, _, _, ha, _, _ => by rw [L2.nd] at ha; cases ha
theorem eqAt_items : ∀ (xs ys : List PyData) (A : Around) (s : Shared) (us ws : List Value) (as bs : List Addr), ReadsAll s.heap us xs as → ReadsAll s.heap ws ys bs → nds xs = true → nds ys = true → A.units + min (PyData.depthAll xs) (PyData.depthAll ys) < cLine →
    ∀ j (h1 : j < us.length) (h2 : j < ws.length), EqAt A s us[j] ws[j] (pairEq xs ys j)
  | [], _, _, _, _, _, _, _, r, _, _, _, _ => by cases r; intro j h1; simp at h1
  | x :: xs, ys, A, s, _, ws, _, _, r, q, ha, hb, hu => by
    cases r with
    | @cons u us d ds as1 as2 r1 r2 =>
      cases q with
      | nil => intro j h1 h2; simp at h2
      | @cons w ws y ys bs1 bs2 q1 q2 =>
        rw [nds, Bool.and_eq_true] at ha hb
        rw [PyData.depthAll, PyData.depthAll] at hu
        intro j h1 h2
        cases j with
        | zero => exact eqAt_own x y A s u w _ _ r1 q1 ha.1 hb.1 (room_head hu)
        | succ j =>
          exact eqAt_items xs ys A s us ws _ _ r2 q2 ha.2 hb.2 (room_tail hu) j (by simpa using h1) (by simpa using h2)
end
theorem rc_own {da db : PyData} {A : Around} {s : Shared} {a b : Value} {as bs : List Addr} (ra : Reads s.heap a da as) (rb : Reads s.heap b db bs) (ha : nd da = true) (hb : nd db = true) (hu : A.units + min da.depth db.depth < cLine) : RcAt A s a b (PyData.eqv da db) := by
  cases ra with
  | none =>
    cases rb with
    | none => exact RcAt.none_none
    | bool y => exact RcAt.none_bool y
    | int y u => exact RcAt.none_int y u
    | str y u => exact RcAt.none_str y u
    | @list l2 o2 ws n2 ys bs k1 k2 k3 k4 => exact RcAt.none_list ⟨_, k1, k2, _, k3⟩ (room_here hu)
    | @tuple l2 o2 ws n2 ys bs k1 k2 k3 k4 => exact RcAt.none_tuple ⟨_, k1, k2, _, k3⟩ (room_here hu)
    | dict => rw [L2.nd] at hb; cases hb
  | bool x =>
    cases rb with
    | none => exact RcAt.bool_none x
    | bool y => exact RcAt.bool_bool x y
    | int y u => exact RcAt.bool_int x y u
    | str y u => exact RcAt.bool_str x y u
    | @list l2 o2 ws n2 ys bs k1 k2 k3 k4 => exact RcAt.bool_list x ⟨_, k1, k2, _, k3⟩ (room_here hu)
    | @tuple l2 o2 ws n2 ys bs k1 k2 k3 k4 => exact RcAt.bool_tuple x ⟨_, k1, k2, _, k3⟩ (room_here hu)
    | dict => rw [L2.nd] at hb; cases hb
  | int x t =>
    cases rb with
    | none => exact RcAt.int_none x t
    | bool y => exact RcAt.int_bool x t y
    | int y u => exact RcAt.int_int x t y u
    | str y u => exact RcAt.int_str x t y u
    | @list l2 o2 ws n2 ys bs k1 k2 k3 k4 => exact RcAt.int_list x t ⟨_, k1, k2, _, k3⟩ (room_here hu)
    | @tuple l2 o2 ws n2 ys bs k1 k2 k3 k4 => exact RcAt.int_tuple x t ⟨_, k1, k2, _, k3⟩ (room_here hu)
    | dict => rw [L2.nd] at hb; cases hb
  | str x t =>
    cases rb with
    | none => exact RcAt.str_none x t
    | bool y => exact RcAt.str_bool x t y
    | int y u => exact RcAt.str_int x t y u
    | str y u => exact RcAt.str_str x t y u
    | @list l2 o2 ws n2 ys bs k1 k2 k3 k4 => exact RcAt.str_list x t ⟨_, k1, k2, _, k3⟩ (room_here hu)
    | @tuple l2 o2 ws n2 ys bs k1 k2 k3 k4 => exact RcAt.str_tuple x t ⟨_, k1, k2, _, k3⟩ (room_here hu)
    | dict => rw [L2.nd] at hb; cases hb
  | @list l o vs n xs as h1 h2 h3 h4 =>
    cases rb with
    | none => exact RcAt.list_none ⟨_, h1, h2, _, h3⟩ (room_here hu)
    | bool y => exact RcAt.list_bool y ⟨_, h1, h2, _, h3⟩ (room_here hu)
    | int y u => exact RcAt.list_int y u ⟨_, h1, h2, _, h3⟩ (room_here hu)
    | str y u => exact RcAt.list_str y u ⟨_, h1, h2, _, h3⟩ (room_here hu)
    | @list l2 o2 ws n2 ys bs k1 k2 k3 k4 =>
      have l1 : vs.size = xs.length := by simpa using readsAll_len h4
      have l2 : ws.size = ys.length := by simpa using readsAll_len k4
      rw [L2.nd] at ha hb
      rw [PyData.depth, PyData.depth] at hu
      have hi : ∀ j (h1 : j < vs.size) (h2 : j < ws.size), EqAt A.in1 s vs[j] ws[j] (pairEq xs ys j) := fun j h1 h2 => by
        have q := eqAt_items xs ys A.in1 s _ _ _ _ h4 k4 ha hb (room_in hu) j (by simpa using h1) (by simpa using h2)
        rw [Array.getElem_toList, Array.getElem_toList] at q
        exact q
      have hu' : A.units < cLine := room_here hu
      rw [show PyData.eqv (.list xs) (.list ys) = PyData.eqvAll xs ys by rw [PyData.eqv]]
      by_cases hz : xs.length = ys.length
      · have q := RcAt.lists (A := A) (s := s) (e := pairEq xs ys) ⟨_, h1, h2, _, h3⟩ ⟨_, k1, k2, _, k3⟩ (by omega) hu' hi
        rw [l1, eqvAll_same_length hz] at q
        exact q
      · rw [eqvAll_other_length hz]
        exact RcAt.lists_lengths ⟨_, h1, h2, _, h3⟩ ⟨_, k1, k2, _, k3⟩ (by simp; omega) hu'
    | @tuple l2 o2 ws n2 ys bs k1 k2 k3 k4 => exact RcAt.list_tuple ⟨_, h1, h2, _, h3⟩ ⟨_, k1, k2, _, k3⟩ (room_here hu)
    | dict => rw [L2.nd] at hb; cases hb
  | @tuple l o vs n xs as h1 h2 h3 h4 =>
    cases rb with
    | none => exact RcAt.tuple_none ⟨_, h1, h2, _, h3⟩ (room_here hu)
    | bool y => exact RcAt.tuple_bool y ⟨_, h1, h2, _, h3⟩ (room_here hu)
    | int y u => exact RcAt.tuple_int y u ⟨_, h1, h2, _, h3⟩ (room_here hu)
    | str y u => exact RcAt.tuple_str y u ⟨_, h1, h2, _, h3⟩ (room_here hu)
    | @list l2 o2 ws n2 ys bs k1 k2 k3 k4 => exact RcAt.tuple_list ⟨_, h1, h2, _, h3⟩ ⟨_, k1, k2, _, k3⟩ (room_here hu)
    | @tuple l2 o2 ws n2 ys bs k1 k2 k3 k4 =>
      have l1 : vs.size = xs.length := by simpa using readsAll_len h4
      have l2 : ws.size = ys.length := by simpa using readsAll_len k4
      rw [L2.nd] at ha hb
      rw [PyData.depth, PyData.depth] at hu
      have hi : ∀ j (h1 : j < vs.size) (h2 : j < ws.size), EqAt A.in1 s vs[j] ws[j] (pairEq xs ys j) := fun j h1 h2 => by
        have q := eqAt_items xs ys A.in1 s _ _ _ _ h4 k4 ha hb (room_in hu) j (by simpa using h1) (by simpa using h2)
        rw [Array.getElem_toList, Array.getElem_toList] at q
        exact q
      have hu' : A.units < cLine := room_here hu
      rw [show PyData.eqv (.tuple xs) (.tuple ys) = PyData.eqvAll xs ys by rw [PyData.eqv]]
      have q := RcAt.tuples (A := A) (s := s) (e := pairEq xs ys) ⟨_, h1, h2, _, h3⟩ ⟨_, k1, k2, _, k3⟩ hu' hi
      rw [l1, l2, eqvAll_eq xs ys] at q
      exact q
    | dict => rw [L2.nd] at hb; cases hb
  | dict => rw [L2.nd] at ha; cases ha
theorem rcNe_own {da db : PyData} {A : Around} {s : Shared} {a b : Value} {as bs : List Addr} (ra : Reads s.heap a da as) (rb : Reads s.heap b db bs) (ha : nd da = true) (hb : nd db = true) (hu : A.units + min da.depth db.depth < cLine) : RcNeAt A s a b (!PyData.eqv da db) := by
  cases ra with
  | none =>
    cases rb with
    | none => exact RcNeAt.none_none
    | bool y => exact RcNeAt.none_bool y
    | int y u => exact RcNeAt.none_int y u
    | str y u => exact RcNeAt.none_str y u
    | @list l2 o2 ws n2 ys bs k1 k2 k3 k4 => exact RcNeAt.none_list ⟨_, k1, k2, _, k3⟩ (room_here hu)
    | @tuple l2 o2 ws n2 ys bs k1 k2 k3 k4 => exact RcNeAt.none_tuple ⟨_, k1, k2, _, k3⟩ (room_here hu)
    | dict => rw [L2.nd] at hb; cases hb
  | bool x =>
    cases rb with
    | none => exact RcNeAt.bool_none x
    | bool y => exact RcNeAt.bool_bool x y
    | int y u => exact RcNeAt.bool_int x y u
    | str y u => exact RcNeAt.bool_str x y u
    | @list l2 o2 ws n2 ys bs k1 k2 k3 k4 => exact RcNeAt.bool_list x ⟨_, k1, k2, _, k3⟩ (room_here hu)
    | @tuple l2 o2 ws n2 ys bs k1 k2 k3 k4 => exact RcNeAt.bool_tuple x ⟨_, k1, k2, _, k3⟩ (room_here hu)
    | dict => rw [L2.nd] at hb; cases hb
  | int x t =>
    cases rb with
    | none => exact RcNeAt.int_none x t
    | bool y => exact RcNeAt.int_bool x t y
    | int y u => exact RcNeAt.int_int x t y u
    | str y u => exact RcNeAt.int_str x t y u
    | @list l2 o2 ws n2 ys bs k1 k2 k3 k4 => exact RcNeAt.int_list x t ⟨_, k1, k2, _, k3⟩ (room_here hu)
    | @tuple l2 o2 ws n2 ys bs k1 k2 k3 k4 => exact RcNeAt.int_tuple x t ⟨_, k1, k2, _, k3⟩ (room_here hu)
    | dict => rw [L2.nd] at hb; cases hb
  | str x t =>
    cases rb with
    | none => exact RcNeAt.str_none x t
    | bool y => exact RcNeAt.str_bool x t y
    | int y u => exact RcNeAt.str_int x t y u
    | str y u => exact RcNeAt.str_str x t y u
    | @list l2 o2 ws n2 ys bs k1 k2 k3 k4 => exact RcNeAt.str_list x t ⟨_, k1, k2, _, k3⟩ (room_here hu)
    | @tuple l2 o2 ws n2 ys bs k1 k2 k3 k4 => exact RcNeAt.str_tuple x t ⟨_, k1, k2, _, k3⟩ (room_here hu)
    | dict => rw [L2.nd] at hb; cases hb
  | @list l o vs n xs as h1 h2 h3 h4 =>
    cases rb with
    | none => exact RcNeAt.list_none ⟨_, h1, h2, _, h3⟩ (room_here hu)
    | bool y => exact RcNeAt.list_bool y ⟨_, h1, h2, _, h3⟩ (room_here hu)
    | int y u => exact RcNeAt.list_int y u ⟨_, h1, h2, _, h3⟩ (room_here hu)
    | str y u => exact RcNeAt.list_str y u ⟨_, h1, h2, _, h3⟩ (room_here hu)
    | @list l2 o2 ws n2 ys bs k1 k2 k3 k4 =>
      have l1 : vs.size = xs.length := by simpa using readsAll_len h4
      have l2 : ws.size = ys.length := by simpa using readsAll_len k4
      rw [L2.nd] at ha hb
      rw [PyData.depth, PyData.depth] at hu
      have hi : ∀ j (h1 : j < vs.size) (h2 : j < ws.size), EqAt A.in1 s vs[j] ws[j] (pairEq xs ys j) := fun j h1 h2 => by
        have q := eqAt_items xs ys A.in1 s _ _ _ _ h4 k4 ha hb (room_in hu) j (by simpa using h1) (by simpa using h2)
        rw [Array.getElem_toList, Array.getElem_toList] at q
        exact q
      have hu' : A.units < cLine := room_here hu
      rw [show PyData.eqv (.list xs) (.list ys) = PyData.eqvAll xs ys by rw [PyData.eqv]]
      by_cases hz : xs.length = ys.length
      · have q := RcNeAt.lists (A := A) (s := s) (e := pairEq xs ys) ⟨_, h1, h2, _, h3⟩ ⟨_, k1, k2, _, k3⟩ (by omega) hu' hi
        rw [l1, eqvAll_same_length hz] at q
        exact q
      · rw [eqvAll_other_length hz]
        exact RcNeAt.lists_lengths ⟨_, h1, h2, _, h3⟩ ⟨_, k1, k2, _, k3⟩ (by simp; omega) hu'
    | @tuple l2 o2 ws n2 ys bs k1 k2 k3 k4 => exact RcNeAt.list_tuple ⟨_, h1, h2, _, h3⟩ ⟨_, k1, k2, _, k3⟩ (room_here hu)
    | dict => rw [L2.nd] at hb; cases hb
  | @tuple l o vs n xs as h1 h2 h3 h4 =>
    cases rb with
    | none => exact RcNeAt.tuple_none ⟨_, h1, h2, _, h3⟩ (room_here hu)
    | bool y => exact RcNeAt.tuple_bool y ⟨_, h1, h2, _, h3⟩ (room_here hu)
    | int y u => exact RcNeAt.tuple_int y u ⟨_, h1, h2, _, h3⟩ (room_here hu)
    | str y u => exact RcNeAt.tuple_str y u ⟨_, h1, h2, _, h3⟩ (room_here hu)
    | @list l2 o2 ws n2 ys bs k1 k2 k3 k4 => exact RcNeAt.tuple_list ⟨_, h1, h2, _, h3⟩ ⟨_, k1, k2, _, k3⟩ (room_here hu)
    | @tuple l2 o2 ws n2 ys bs k1 k2 k3 k4 =>
      have l1 : vs.size = xs.length := by simpa using readsAll_len h4
      have l2 : ws.size = ys.length := by simpa using readsAll_len k4
      rw [L2.nd] at ha hb
      rw [PyData.depth, PyData.depth] at hu
      have hi : ∀ j (h1 : j < vs.size) (h2 : j < ws.size), EqAt A.in1 s vs[j] ws[j] (pairEq xs ys j) := fun j h1 h2 => by
        have q := eqAt_items xs ys A.in1 s _ _ _ _ h4 k4 ha hb (room_in hu) j (by simpa using h1) (by simpa using h2)
        rw [Array.getElem_toList, Array.getElem_toList] at q
        exact q
      have hu' : A.units < cLine := room_here hu
      rw [show PyData.eqv (.tuple xs) (.tuple ys) = PyData.eqvAll xs ys by rw [PyData.eqv]]
      have q := RcNeAt.tuples (A := A) (s := s) (e := pairEq xs ys) ⟨_, h1, h2, _, h3⟩ ⟨_, k1, k2, _, k3⟩ hu' hi
      rw [l1, l2, eqvAll_eq xs ys] at q
      exact q
    | dict => rw [L2.nd] at hb; cases hb
  | dict => rw [L2.nd] at ha; cases ha
end L2
namespace L2
open PySem PySem.Spec PyProof.Rows PySem.SeqAt
section
variable {X : Cx}
theorem u190 {k : Nat} {A : Around} (r : Room k A) : A.units + 190 < cLine := by have := r.un; omega
def rEqA (K : PySem.W.Frag) : R2 := fun x y H Q => rEq x y H Q ∨ ∃ d e, Dv K H d x ∧ Dv K H e y ∧ min d.depth e.depth ≤ 190 ∧ Q (.bl (PyData.eqv d e)) H
def rNeA (K : PySem.W.Frag) : R2 := fun x y H Q => rNe x y H Q ∨ ∃ d e, Dv K H d x ∧ Dv K H e y ∧ min d.depth e.depth ≤ 190 ∧ Q (.bl (!PyData.eqv d e)) H
theorem op_eqA (hu : X.A.units + 190 < cLine) : OpR X (compareOp .Eq) (rEqA X.K) := by
  refine op_eq.or ?_
  intro pins s σ H x y v u Q I rx ry h
  obtain ⟨d, e, hx, hy, hz, q⟩ := h
  obtain ⟨as, ra⟩ := Dv.reads I d x v hx rx
  obtain ⟨bs, rb⟩ := Dv.reads I e y u hy ry
  have hroom : X.A.units + min d.depth e.depth < cLine := Nat.lt_of_le_of_lt (Nat.add_le_add_left hz _) hu
  exact rc_own ra rb (Dv.nd d x hx) (Dv.nd e y hy) hroom X.prog X.w X.xe _ ⟨.bl _, H, I, rfl, q⟩
theorem op_neA (hu : X.A.units + 190 < cLine) : OpR X (compareOp .NotEq) (rNeA X.K) := by
  refine op_ne.or ?_
  intro pins s σ H x y v u Q I rx ry h
  obtain ⟨d, e, hx, hy, hz, q⟩ := h
  obtain ⟨as, ra⟩ := Dv.reads I d x v hx rx
  obtain ⟨bs, rb⟩ := Dv.reads I e y u hy ry
  have hroom : X.A.units + min d.depth e.depth < cLine := Nat.lt_of_le_of_lt (Nat.add_le_add_left hz _) hu
  exact rcNe_own ra rb (Dv.nd d x hx) (Dv.nd e y hy) hroom X.prog X.w X.xe _ ⟨.bl _, H, I, rfl, q⟩
def rAddA (K : PySem.W.Frag) : R2 := fun x y H Q => rI0 (fun i j => .int (i + j)) x y H Q ∨ (∃ i j, x = .str i ∧ y = .str j ∧ i.length + j.length ≤ sizeLine ∧ Q (.str (i ++ j)) H) ∨ rCat x y H Q ∨ rCatT K x y H Q
theorem op_addA : OpR X (binaryOp .Add) (rAddA X.K) := op_add.or (op_add_str.or (op_cat.or op_catT))
def rMulS : R2 := fun x y H Q => ∃ z n, x = .str z ∧ y = .int n ∧ 0 ≤ n ∧ n ≤ 1000 ∧ z.length ≤ 1000 ∧ Q (.str (PySem.Txt.mul z n)) H
theorem op_mul_str : OpR X (binaryOp .Mult) rMulS := by
  intro pins s σ H x y v u Q I rx ry h
  obtain ⟨z, n, rfl, rfl, h0, h1, h2, q⟩ := h
  obtain ⟨t, rfl⟩ := rx
  obtain ⟨t', rfl⟩ := ry
  refine wpAny_with_toks (n := 1) I.tk (SB.mul ⟨?_, fun hn _ => ?_, fun hn _ => ?_⟩ fun t' k ht => ⟨.str _, H, I.tok _ ht, ⟨_, rfl⟩, q⟩)
  · rw [decide_eq_false (by omega), decide_eq_false (by omega)]; rfl
  · have e1 : (2 ^ 63 - 1 : Int) / n ≥ (2 ^ 63 - 1) / 1000 := by
      have hp : (0 : Int) < n := by omega
      apply Int.le_ediv_of_mul_le hp
      have : (2 ^ 63 - 1 : Int) / 1000 * n ≤ (2 ^ 63 - 1) / 1000 * 1000 := Int.mul_le_mul_of_nonneg_left h1 (by decide)
      have e : (2 ^ 63 - 1 : Int) / 1000 * 1000 ≤ 2 ^ 63 - 1 := by decide
      omega
    have e2 : (2 ^ 63 - 1 : Int) / 1000 ≥ 1000 := by decide
    omega
  · have : z.length * n.toNat ≤ 1000 * 1000 := Nat.mul_le_mul h2 (by omega)
    have hs : sizeLine = 16777216 := sizeLine_eq
    unfold Builtin.Str.tooLong
    exact decide_eq_false (by omega)
def rMulA : R2 := fun x y H Q => rI CMul (fun i j => .int (i * j)) x y H Q ∨ rMulS x y H Q ∨ rRep x y H Q
theorem op_mulA : OpR X (binaryOp .Mult) rMulA := op_mul.or (op_mul_str.or op_rep)
def rLtS : R2 := fun x y H Q => ∃ i j : Str, x = .str i ∧ y = .str j ∧ Q (.bl (decide (i.cps.toList < j.cps.toList))) H
def rLeS : R2 := fun x y H Q => ∃ i j : Str, x = .str i ∧ y = .str j ∧ Q (.bl (!decide (j.cps.toList < i.cps.toList))) H
def rGtS : R2 := fun x y H Q => ∃ i j : Str, x = .str i ∧ y = .str j ∧ Q (.bl (decide (j.cps.toList < i.cps.toList))) H
def rGeS : R2 := fun x y H Q => ∃ i j : Str, x = .str i ∧ y = .str j ∧ Q (.bl (!decide (i.cps.toList < j.cps.toList))) H
theorem op_le_str : OpR X (compareOp .LtE) rLeS := by
  intro pins s σ H x y v u Q I rx ry h
  obtain ⟨i, j, rfl, rfl, q⟩ := h
  obtain ⟨t, rfl⟩ := rx
  obtain ⟨t', rfl⟩ := ry
  exact PySem.P.le_str ⟨.bl _, H, I, rfl, q⟩
theorem op_gt_str : OpR X (compareOp .Gt) rGtS := by
  intro pins s σ H x y v u Q I rx ry h
  obtain ⟨i, j, rfl, rfl, q⟩ := h
  obtain ⟨t, rfl⟩ := rx
  obtain ⟨t', rfl⟩ := ry
  exact PySem.P.gt_str ⟨.bl _, H, I, rfl, q⟩
theorem op_ge_str : OpR X (compareOp .GtE) rGeS := by
  intro pins s σ H x y v u Q I rx ry h
  obtain ⟨i, j, rfl, rfl, q⟩ := h
  obtain ⟨t, rfl⟩ := rx
  obtain ⟨t', rfl⟩ := ry
  exact PySem.P.ge_str ⟨.bl _, H, I, rfl, q⟩
def rLtA : R2 := fun x y H Q => rI0 (fun i j => .bl (decide (i < j))) x y H Q ∨ rLtS x y H Q
def rLeA : R2 := fun x y H Q => rI0 (fun i j => .bl (decide (i ≤ j))) x y H Q ∨ rLeS x y H Q
def rGtA : R2 := fun x y H Q => rI0 (fun i j => .bl (decide (j < i))) x y H Q ∨ rGtS x y H Q
def rGeA : R2 := fun x y H Q => rI0 (fun i j => .bl (decide (j ≤ i))) x y H Q ∨ rGeS x y H Q
theorem op_ltA : OpR X (compareOp .Lt) rLtA := op_lt.or op_lt_str
theorem op_leA : OpR X (compareOp .LtE) rLeA := op_le.or op_le_str
theorem op_gtA : OpR X (compareOp .Gt) rGtA := op_gt.or op_gt_str
theorem op_geA : OpR X (compareOp .GtE) rGeA := op_ge.or op_ge_str
def rInS (neg : Bool) : R2 := fun x y H Q => ∃ i j : Str, x = .str i ∧ y = .str j ∧ Q (.bl (if neg then !(!(Builtin.Str.occurrences j i 0 j.length 1).isEmpty) else !(Builtin.Str.occurrences j i 0 j.length 1).isEmpty)) H
def rInA (K : PySem.W.Frag) (neg : Bool) : R2 := fun x y H Q => rIn K neg x y H Q ∨ rInS neg x y H Q
theorem op_inA : OpR X (compareOp .In) (rInA X.K false) := op_in_seq.or op_in_str
theorem op_notinA : OpR X (compareOp .NotIn) (rInA X.K true) := op_notIn_seq.or op_notIn_str
def rIsA : R2 := fun x y H Q => y = .non ∧ Q (.bl (decide (x = .non))) H
def rIsNotA : R2 := fun x y H Q => y = .non ∧ Q (.bl (!decide (x = .non))) H
theorem op_isA : OpR X (compareOp .Is) rIsA := op_isN
theorem op_isnotA : OpR X (compareOp .IsNot) rIsNotA := op_notN
def rLenA (K : PySem.W.Frag) : List V → Hp → VK → Prop := fun xs H Q => (∃ p ys, xs = [.ref p] ∧ (SqL K H p ys ∨ SqT K H p ys) ∧ Q (.int ys.length) H) ∨ (∃ z, xs = [.str z] ∧ z.length ≤ sizeLine ∧ Q (.int z.length) H) ∨
  ∃ a kvs, xs = [V.ref a] ∧ H a = some (.dK kvs) ∧ Q (.int kvs.length) H
theorem call_lenA : CallR X (.builtin "len") (rLenA X.K) := call_len_seq.or (call_len_str.or call_lenD)
def rTupleA (K : PySem.W.Frag) : List V → Hp → VK → Prop := fun xs H Q => ∃ p ys, xs = [.ref p] ∧ ((SqL K H p ys ∧ ∀ l, H l = none → Q (.ref l) (upd H l (.tup ys))) ∨ (SqT K H p ys ∧ Q (.ref p) H))
theorem call_tupleA : CallR X (.type "tuple") (rTupleA X.K) := call_tuple_of
def rIntA : List V → Hp → VK → Prop := fun xs H Q => (∃ i, xs = [.int i] ∧ Q (.int i) H) ∨ ∃ k, xs = [.bl k] ∧ Q (.int (if k then 1 else 0)) H
theorem call_intA : CallR X (.type "int") rIntA := call_int1
theorem strs_are : ∀ {xs : List Str} {us : List Value}, Vals (strV xs) us → StrsAre us xs
  | [], _, h => by cases h; exact .nil
  | x :: xs, _, h => by
    have h : Vals (V.str x :: strV xs) _ := h
    cases h with
    | cons r t =>
      obtain ⟨t', rfl⟩ := r
      exact .cons x t' (strs_are t)
theorem vals_strs : ∀ {xs : List Str} {us : List Value}, StrsAre us xs → Vals (strV xs) us
  | _, _, .nil => .nil
  | _, _, .cons y t h => .cons ⟨t, rfl⟩ (vals_strs h)
def rSortedS (K : PySem.W.Frag) : List V → Hp → VK → Prop := fun xs H Q => ∃ p ys, xs = [.ref p] ∧ SqL K H p (strV ys) ∧ ys.length < 64 ∧
  ∀ l ys', ys'.Perm ys → sortedS ys' = true → H l = none → Q (.ref l) (upd H l (.lst (strV ys')))
theorem call_sortedA : CallR X (.builtin "sorted") (rSortedS X.K) := by
  intro pins s σ H xs us Q I r h
  obtain ⟨p, ys, rfl, hq, hl, q⟩ := h
  obtain ⟨u, rfl, rx⟩ := vals1 r
  cases rx
  obtain ⟨its, rv, pl, hz⟩ := I.list hq
  have hlen := rv.length
  have hn : (strV ys).length = ys.length := List.length_map _
  refine sorted_strs pl.isList (strs_are rv) (by omega) fun out ss' h1 h2 h3 => ?_
  have kp : ∀ b o, s.heap.get? b = some o → (sortedAll s.heap its out).get? b = some o := fun b o e => sortedAll_old e
  obtain ⟨e, he⟩ := sortedAll_at s.heap its out
  have hf : H (s.heap.objs.size + 1) = none := I.hok.fresh (Nat.le_succ _)
  have hz' : (strV ss').length ≤ sizeLine := by
    have := h2.length_eq
    show (ss'.map V.str).length ≤ _
    rw [List.length_map]; rw [hn] at hz; omega
  refine ⟨.ref (s.heap.objs.size + 1), _, I.laid (t' := s.toks) (o := .lst (strV ss')) kp (Nat.le_succ _) ?_, rfl, q _ _ h2 h3 hf⟩
  exact ⟨hz', out.toList, e, vals_strs h1, by simpa [seqObj] using he⟩
def rJoin (K : PySem.W.Frag) : V → List V → Hp → VK → Prop := fun x vs H Q => ∃ z p ys, x = .str z ∧ vs = [.ref p] ∧ (SqL K H p (strV ys) ∨ SqT K H p (strV ys)) ∧ (ys.map (·.length)).sum + ys.length * z.length ≤ 16777216 ∧ Q (.str (PySem.Txt.join z ys)) H
theorem mt_join : MtR X "str.join" (rJoin X.K) := by
  intro pins s σ H x vs v us Q I rx rv h
  obtain ⟨z, p, ys, rfl, rfl, hq, hs, q⟩ := h
  obtain ⟨t, rfl⟩ := rx
  obtain ⟨u, rfl, ru⟩ := rv.one
  cases ru
  rcases hq with hq | hq
  · obtain ⟨its, r, pl, hz⟩ := I.list hq
    exact wpAny_with_toks (n := 1) I.tk (join_list pl.isList (by simpa using strs_are r) hs fun t' k ht => ⟨.str _, H, I.tok _ ht, ⟨_, rfl⟩, q⟩)
  · obtain ⟨its, r, pl, hz⟩ := I.tuple hq
    exact wpAny_with_toks (n := 1) I.tk (join_tuple pl (by simpa using strs_are r) hs fun t' k ht => ⟨.str _, H, I.tok _ ht, ⟨_, rfl⟩, q⟩)
def rIndexS : V → List V → Hp → VK → Prop := fun x vs H Q => ∃ (z y : Str) (i : Nat) (rest : List Nat), x = .str z ∧ vs = [.str y] ∧ Builtin.Str.occurrences z y 0 z.length 1 = i :: rest ∧ Q (.int i) H
theorem mt_index_str : MtR X "str.index" rIndexS := by
  intro pins s σ H x vs v us Q I rx rv h
  obtain ⟨z, y, i, rest, rfl, rfl, ho, q⟩ := h
  obtain ⟨t, rfl⟩ := rx
  obtain ⟨u, rfl, ru⟩ := rv.one
  obtain ⟨t', rfl⟩ := ru
  exact SC.index ho ⟨.int i, H, I.tok _, ⟨_, rfl⟩, q⟩
def insAt {α : Type} (xs : List α) (k : Nat) (y : α) : List α := xs.take k ++ y :: xs.drop k
def rInsert : V → List V → Hp → VK → Prop := fun x vs H Q => ∃ (l : Addr) (xs : List V) (i : Int) (y : V), x = .ref l ∧ vs = [.int i, y] ∧ H l = some (.lst xs) ∧ 0 ≤ i ∧ i ≤ xs.length ∧ xs.length < sizeLine ∧ Q .non (upd H l (.lst (insAt xs i.toNat y)))
theorem mt_insert : MtR X "list.insert" rInsert := by
  intro pins s σ H x vs v us Q I rx rv h
  obtain ⟨l, xs, i, y, rfl, rfl, hH, h0, h1, hz, q⟩ := h
  cases rx
  obtain ⟨u, w', rfl, ru, rw'⟩ := rv.two
  obtain ⟨t, rfl⟩ := ru
  obtain ⟨z, its, n, r, hl, e⟩ := I.lstM hH
  have hs : sizeLine = 16777216 := sizeLine_eq
  refine call_meets F.slot_list_insert ⟨_, e, rfl⟩ F.entry_list_insert (F.args_list_insert_3 _ _ _) (AutoListH.list_insert_list_int_val_1 l its.toArray n i t w' (by rw [fitsIndex_both (by omega) (by omega)]; exact Bool.false_ne_true) (by rw [List.size_toArray]; omega)) ⟨e, ?_⟩
  refine ⟨.non, _, I.lset (its' := insAt its i.toNat w') (t' := s.toks) hH e ?_ ?_ ?_, rfl, q⟩
  · have hi : ¬ i < 0 := by omega
    have hm : min i.toNat its.length = i.toNat := by omega
    simp only [hi, if_false, List.size_toArray, hm]
    unfold insAt
    apply Array.toList_inj.mp
    simp
    exact List.take_of_length_le (by rw [List.length_drop]; exact Nat.le_refl _)
  · exact Vals.append (r.take i.toNat) (.cons rw' (r.drop i.toNat))
  · unfold insAt
    rw [List.length_append, List.length_cons, List.length_take, List.length_drop]
    omega
end
end L2
namespace L2
open PySem PySem.Spec PyProof.Rows PySem.SeqAt
def iAny (K : PySem.W.Frag) (tl : TE) : TI := fun σ H R => tl σ H fun x H1 => ∃ a, x = .ref a ∧ (((∃ xs, SqL K H1 a xs) ∧ R (Itl K a) H1) ∨ ((∃ xs, SqT K H1 a xs) ∧ R (Itt K a) H1))
theorem pi_any {X : Cx} {tg l : Expr} {tl : TE} (hl : PE X l tl) : PI X tg l (iAny X.K tl) := by
  intro pins s σ H R I h
  refine thn (hl pins s σ H _ I h) fun v s1 ⟨x, H1, I1, r1, q1⟩ => ?_
  obtain ⟨a, e, q⟩ := q1
  subst e
  cases r1
  rcases q with ⟨⟨xs, hq⟩, q⟩ | ⟨⟨xs, hq⟩, q⟩
  · obtain ⟨its, rv, p, hz⟩ := I1.list hq
    refine wpAny_pyIter_list p.isList ?_
    refine ⟨s1.heap.objs.size, [s1.heap.objs.size], _, _, H1, rfl, I1.kept (t' := s1.toks) fun b o e => Heap.get?_push_of_some _ e, turn_list a _, ⟨_, Heap.get?_push_size _ rfl, rfl, rfl⟩, fun b hb => ?_, q⟩
    have e : b = s1.heap.objs.size := by simpa using hb
    subst e
    exact I1.fpOk (Nat.le_refl _) (I1.hok.fresh (Nat.le_refl _))
  · obtain ⟨its, rv, p, hz⟩ := I1.tuple hq
    refine wpAny_pyIter_tuple (show s1.heap.IsTuple a its.toArray from p) ?_
    refine ⟨s1.heap.objs.size, [s1.heap.objs.size], _, _, H1, rfl, I1.kept (t' := s1.toks) fun b o e => Heap.get?_push_of_some _ e, turn_tuple a _, ⟨_, Heap.get?_push_size _ rfl, rfl, rfl⟩, fun b hb => ?_, q⟩
    have e : b = s1.heap.objs.size := by simpa using hb
    subst e
    exact I1.fpOk (Nat.le_refl _) (I1.hok.fresh (Nat.le_refl _))
theorem st_for {wi : TI} {g : TG} {tb : TS} {D : Ends} {σ : St} {H : Hp} (h : wi σ H fun J H1 => ∃ W : Nat → Nat → St → Hp → Prop, (∃ m, W 0 m σ H1) ∧ ∀ i m σ H, W i m σ H →
  (J.stop i H ∧ D.nx σ H) ∨ (J.go i H ∧ ∃ N : St → Hp → Prop, (∀ σ' H', N σ' H' → ∃ m', m' < m ∧ W (i + 1) m' σ' H') ∧ ∀ x H', J.yld i H x H' → g x σ H' fun σ2 H2 => tb { D with nx := N, ct := N, bk := D.nx } σ2 H2)) : tFor wi g tb D σ H := h
abbrev ForW (g : TG) (tb : TS) (D : Ends) (σ : St) (J : It) (H1 : Hp) : Prop := ∃ W : Nat → Nat → St → Hp → Prop, (∃ m, W 0 m σ H1) ∧ ∀ i m σ H, W i m σ H →
  (J.stop i H ∧ D.nx σ H) ∨ (J.go i H ∧ ∃ N : St → Hp → Prop, (∀ σ' H', N σ' H' → ∃ m', m' < m ∧ W (i + 1) m' σ' H') ∧ ∀ x H', J.yld i H x H' → g x σ H' fun σ2 H2 => tb { D with nx := N, ct := N, bk := D.nx } σ2 H2)
theorem any_for {K : PySem.W.Frag} {g : TG} {tb : TS} {D : Ends} {σ : St} {H : Hp} {a : Addr} {xs : List V} (hq : SqL K H a xs ∨ SqT K H a xs) (Pv : Nat → St → Hp → Prop) (h0 : Pv 0 σ H)
    (hl : SqL K H a xs → ∀ i σ H, i ≤ xs.length → Pv i σ H → SqL K H a xs) (ht : SqT K H a xs → ∀ i σ H, i ≤ xs.length → Pv i σ H → SqT K H a xs)
    (hs : ∀ i x σ H, xs[i]? = some x → Pv i σ H → g x σ H fun σ2 H2 => tb { D with nx := PAt Pv (i + 1), ct := PAt Pv (i + 1), bk := D.nx } σ2 H2) (hd : ∀ σ H, Pv xs.length σ H → D.nx σ H) :
    ∃ b, V.ref a = .ref b ∧ (((∃ xs, SqL K H b xs) ∧ ForW g tb D σ (Itl K b) H) ∨ ((∃ xs, SqT K H b xs) ∧ ForW g tb D σ (Itt K b) H)) := by
  refine ⟨a, rfl, ?_⟩
  rcases hq with hq | hq
  · exact .inl ⟨⟨xs, hq⟩, for_list Pv h0 (hl hq) hs hd⟩
  · exact .inr ⟨⟨xs, hq⟩, for_tup Pv h0 (ht hq) hs hd⟩
theorem rng1_for {g : TG} {tb : TS} {D : Ends} {σ : St} {H : Hp} {n : Int} (h0 : 0 ≤ n) (hn : n < 2 ^ 62) (Pv : Nat → St → Hp → Prop) (p0 : Pv 0 σ H)
    (hs : ∀ (i : Nat) σ H, (i : Int) < n → Pv i σ H → g (.int i) σ H fun σ2 H2 => tb { D with nx := PAt Pv (i + 1), ct := PAt Pv (i + 1), bk := D.nx } σ2 H2) (hd : ∀ σ H, Pv n.toNat σ H → D.nx σ H) :
    ∃ j : Int, [V.int n] = [.int j] ∧ -(2 ^ 62) ≤ j ∧ j < 2 ^ 62 ∧ ForW g tb D σ (Itr 0 j.toNat) H :=
  ⟨n, rfl, by omega, hn, for_range (lo := 0) (n := n.toNat) Pv p0 (fun i σ H hi p => by rw [Int.zero_add]; exact hs i σ H (by omega) p) hd⟩
abbrev CompW (g : TG) (tt : TT) (te : TE) (σ' : St) (Q : VK) (J : It) (H1 : Hp) : Prop := ∃ W : Nat → Nat → List V → Hp → Prop, (∃ m, W 0 m [] H1) ∧ ∀ i m ys H, W i m ys H → ys.length ≤ sizeLine ∧
    ((J.stop i H ∧ ∀ p, H p = none → Q (.ref p) (upd H p (.lst ys))) ∨
     (J.go i H ∧ ∃ NN : List V → Hp → Prop, (∀ ys' H', NN ys' H' → ∃ m', m' < m ∧ W (i + 1) m' ys' H') ∧ ∀ x H', J.yld i H x H' → g x σ' H' fun σ2 H2 => tt σ2 H2 fun b H3 =>
        if b = true then te σ2 H3 fun y H4 => NN (ys ++ [y]) H4 else NN ys H3))
theorem st_comp {fr : List (Option Nat)} {wi : TI} {g : TG} {tt : TT} {te : TE} {σ : St} {H : Hp} {Q : VK} (h : wi σ H (CompW g tt te (grab fr σ) Q)) : tComp fr wi g tt te σ H Q := h
theorem comp_of {J : It} {n : Nat} {g : TG} {tt : TT} {te : TE} {σ' : St} {H : Hp} {Q : VK} (item : Nat → V → Prop) (Pv : Nat → List V → Hp → Prop) (h0 : Pv 0 [] H) (hlen : ∀ i ys H, i ≤ n → Pv i ys H → ys.length ≤ sizeLine)
    (hgo : ∀ i ys H, i < n → Pv i ys H → J.go i H) (hy : ∀ i ys H x H', i < n → Pv i ys H → J.yld i H x H' → H' = H ∧ item i x) (hst : ∀ ys H, Pv n ys H → J.stop n H)
    (hs : ∀ i x ys H, i < n → item i x → Pv i ys H → g x σ' H fun σ2 H2 => tt σ2 H2 fun b H3 => if b = true then te σ2 H3 fun y H4 => PAt Pv (i + 1) (ys ++ [y]) H4 else PAt Pv (i + 1) ys H3)
    (hd : ∀ ys H, Pv n ys H → ∀ p, H p = none → Q (.ref p) (upd H p (.lst ys))) : CompW g tt te σ' Q J H := by
  refine ⟨fun i m ys H => m = n - i ∧ i ≤ n ∧ Pv i ys H, ⟨n, by simp, Nat.zero_le _, h0⟩, ?_⟩
  rintro i m ys H ⟨rfl, hi, p⟩
  refine ⟨hlen i ys H hi p, ?_⟩
  by_cases hlt : i < n
  · refine .inr ⟨hgo i ys H hlt p, Pv (i + 1), fun ys' H' q => ⟨n - (i + 1), by omega, rfl, hlt, q⟩, fun x H' y => ?_⟩
    obtain ⟨rfl, hx⟩ := hy i ys H x H' hlt p y
    exact hs i x ys _ hlt hx p
  · have e : i = n := by omega
    subst e
    exact .inl ⟨hst ys H p, hd ys H p⟩
theorem any_compL {K : PySem.W.Frag} {g : TG} {tt : TT} {te : TE} {σ' : St} {H : Hp} {Q : VK} {a : Addr} {xs : List V} (hq : SqL K H a xs) (Pv : Nat → List V → Hp → Prop) (h0 : Pv 0 [] H) (hlen : ∀ i ys H, i ≤ xs.length → Pv i ys H → ys.length ≤ sizeLine)
    (hl : ∀ i ys H, i ≤ xs.length → Pv i ys H → SqL K H a xs)
    (hs : ∀ i x ys H, xs[i]? = some x → Pv i ys H → g x σ' H fun σ2 H2 => tt σ2 H2 fun b H3 => if b = true then te σ2 H3 fun y H4 => PAt Pv (i + 1) (ys ++ [y]) H4 else PAt Pv (i + 1) ys H3)
    (hd : ∀ ys H, Pv xs.length ys H → ∀ p, H p = none → Q (.ref p) (upd H p (.lst ys))) :
    ∃ b, V.ref a = .ref b ∧ (((∃ xs, SqL K H b xs) ∧ CompW g tt te σ' Q (Itl K b) H) ∨ ((∃ xs, SqT K H b xs) ∧ CompW g tt te σ' Q (Itt K b) H)) := by
  refine ⟨a, rfl, .inl ⟨⟨xs, hq⟩, comp_of (n := xs.length) (fun i x => xs[i]? = some x) Pv h0 hlen (fun i ys H hi p => ?_) (fun i ys H x H' hi p y => ?_) (fun ys H p => ?_) (fun i x ys H _ hx p => hs i x ys H hx p) hd⟩⟩
  · exact ⟨xs, xs[i], hl i ys H (Nat.le_of_lt hi) p, by simp [hi]⟩
  · exact ⟨y.1, y.2 xs (hl i ys H (Nat.le_of_lt hi) p)⟩
  · exact ⟨xs, hl _ ys H (Nat.le_refl _) p, Nat.le_refl _⟩
theorem rng1_comp {g : TG} {tt : TT} {te : TE} {σ' : St} {H : Hp} {Q : VK} {n : Int} (h0 : 0 ≤ n) (hn : n < 2 ^ 62) (Pv : Nat → List V → Hp → Prop) (p0 : Pv 0 [] H) (hlen : ∀ (i : Nat) ys H, (i : Int) ≤ n → Pv i ys H → ys.length ≤ sizeLine)
    (hs : ∀ (i : Nat) ys H, (i : Int) < n → Pv i ys H → g (.int i) σ' H fun σ2 H2 => tt σ2 H2 fun b H3 => if b = true then te σ2 H3 fun y H4 => PAt Pv (i + 1) (ys ++ [y]) H4 else PAt Pv (i + 1) ys H3)
    (hd : ∀ ys H, Pv n.toNat ys H → ∀ p, H p = none → Q (.ref p) (upd H p (.lst ys))) :
    ∃ j : Int, [V.int n] = [.int j] ∧ -(2 ^ 62) ≤ j ∧ j < 2 ^ 62 ∧ CompW g tt te σ' Q (Itr 0 j.toNat) H :=
  ⟨n, rfl, by omega, hn, comp_of (n := n.toNat) (fun i x => x = .int i) Pv p0 (fun i ys H hi p => hlen i ys H (by omega) p) (fun i ys H hi _ => hi) (fun i ys H x H' hi _ y => ⟨y.1, by rw [y.2, Int.zero_add]⟩) (fun ys H _ => Nat.le_refl _)
    (fun i x ys H hi hx p => by subst hx; exact hs i ys H (by omega) p) hd⟩
section
variable {σ : St} {H : Hp} {Q : VK} {D : Ends}
theorem st_seq {t u : TS} (h : t { D with nx := u D } σ H) : tSeq t u D σ H := h
theorem st_next (h : D.nx σ H) : tNext D σ H := h
theorem st_asg {te : TE} {g : TG} (h : te σ H fun x H1 => g x σ H1 D.nx) : tAsg te g D σ H := h
theorem st_name {i : Nat} {v : V} {R : St → Hp → Prop} (h : R (σ.set i (some v)) H) : gName i v σ H R := h
theorem st_var {i : Nat} {v : V} (e : σ[i]? = some (some v)) (h : Q v H) : tVar i σ H Q := ⟨v, e, h⟩
theorem st_C {v : V} (h : Q v H) : tC v σ H Q := h
theorem st_op {r : R2} {ta tb : TE} (h : ta σ H fun x H1 => tb σ H1 fun y H2 => r x y H2 Q) : tOp r ta tb σ H Q := h
theorem st_un {r : V → Hp → VK → Prop} {ta : TE} (h : ta σ H fun x H1 => r x H1 Q) : tUn r ta σ H Q := h
theorem st_ret {te : TE} (h : te σ H D.rt) : tRet te D σ H := h
theorem st_drop {te : TE} (h : te σ H fun _ H1 => D.nx σ H1) : tDrop te D σ H := h
theorem st_if {c : TT} {t u : TS} (h : c σ H fun b H1 => if b = true then t D σ H1 else u D σ H1) : tIfS c t u D σ H := h
theorem st_ifE {c : TT} {ta tb : TE} (h : c σ H fun b H1 => if b = true then ta σ H1 Q else tb σ H1 Q) : tIf c ta tb σ H Q := h
theorem st_test {t : TE} {R : Bool → Hp → Prop} (h : t σ H fun x H' => ∃ k, x = .bl k ∧ R k H') : tTest t σ H R := h
theorem st_B {t : TE} {R : Bool → Hp → Prop} (h : t σ H fun x H' => ∃ k, x = .bl k ∧ R k H') : tB t σ H R := h
theorem st_bl {b : Bool} {R : Bool → Prop} (h : R b) : ∃ k, V.bl b = .bl k ∧ R k := ⟨b, rfl, h⟩
theorem st_and {t u : TT} {R : Bool → Hp → Prop} (h : t σ H fun c H1 => if c = true then u σ H1 R else R false H1) : tAnd t u σ H R := h
theorem st_or {t u : TT} {R : Bool → Hp → Prop} (h : t σ H fun c H1 => if c = true then R true H1 else u σ H1 R) : tOr t u σ H R := h
theorem st_not {t : TT} {R : Bool → Hp → Prop} (h : t σ H fun c H1 => R (!c) H1) : tNot t σ H R := h
theorem st_andV {ta tb : TE} (h : ta σ H fun x H1 => ∃ c, x = .bl c ∧ if c = true then tb σ H1 Q else Q (.bl false) H1) : tAndV ta tb σ H Q := h
theorem st_nil {R : List V → Hp → Prop} (h : R [] H) : tNil σ H R := h
theorem st_cons {ta : TE} {tr : TA} {R : List V → Hp → Prop} (h : ta σ H fun x H1 => tr σ H1 fun xs H2 => R (x :: xs) H2) : tCons ta tr σ H R := h
theorem st_tup {t : TA} (h : t σ H fun xs H1 => xs.length ≤ sizeLine ∧ ∀ p, H1 p = none → Q (.ref p) (upd H1 p (.tup xs))) : tTup t σ H Q := h
theorem st_lst {t : TA} (h : t σ H fun xs H1 => xs.length ≤ sizeLine ∧ ∀ p, H1 p = none → Q (.ref p) (upd H1 p (.lst xs))) : tLst t σ H Q := h
theorem st_call {sp : Sp} {dvs : List V} {E : XK} {t : TA} (h : t σ H fun vs H1 => sp (vs ++ dvs) H1 Q E) : tCall sp dvs E t σ H Q := h
theorem st_CB {r : List V → Hp → VK → Prop} {t : TA} (h : t σ H fun vs H1 => r vs H1 Q) : tCB r t σ H Q := h
theorem st_tt {R : Bool → Hp → Prop} (h : R true H) : tTT σ H R := h
theorem st_break (h : D.bk σ H) : tBreak D σ H := h
theorem st_any {K : PySem.W.Frag} {tl : TE} {R : It → Hp → Prop} (h : tl σ H fun x H1 => ∃ a, x = .ref a ∧ (((∃ xs, SqL K H1 a xs) ∧ R (Itl K a) H1) ∨ ((∃ xs, SqT K H1 a xs) ∧ R (Itt K a) H1))) : iAny K tl σ H R := h
theorem st_rng1 {ta : TA} {R : It → Hp → Prop} (h : ta σ H fun vs H1 => ∃ j : Int, vs = [.int j] ∧ -(2 ^ 62) ≤ j ∧ j < 2 ^ 62 ∧ R (Itr 0 j.toNat) H1) : iRng1 ta σ H R := h
theorem st_sub {to ti : TE} {t : TSet} {v : V} {R : St → Hp → Prop} (h : to σ H fun o H1 => ti σ H1 fun i H2 => t o i v H2 fun H3 => R σ H3) : gSub to ti t v σ H R := h
theorem st_bm {K : PySem.W.Frag} {T : String} {r : V → List V → Hp → VK → Prop} {to : TE} {t : TA} (h : to σ H fun x H1 => tyV K T x H1 ∧ t σ H1 fun xs H2 => r x xs H2 Q) : tBM K T r to t σ H Q := h
theorem st_chain {r r' : R2} {ta tb tc : TE} (h : ta σ H fun x H1 => tb σ H1 fun y H2 => r x y H2 fun z H3 => ∃ k, z = .bl k ∧ (if k = true then tc σ H3 fun w' H4 => r' y w' H4 Q else Q (.bl false) H3)) : tChain r r' ta tb tc σ H Q := h
end
section
variable {H : Hp} {Q : VK} {K : PySem.W.Frag}
theorem v_addI {i j : Int} (h : Q (.int (i + j)) H) : rAddA K (.int i) (.int j) H Q := .inl ⟨i, j, rfl, rfl, h⟩
theorem v_addS {i j : Str} (hz : i.length + j.length ≤ sizeLine) (h : Q (.str (i ++ j)) H) : rAddA K (.str i) (.str j) H Q := .inr (.inl ⟨i, j, rfl, rfl, hz, h⟩)
theorem v_cat {a b : Addr} {xs ys : List V} (h1 : H a = some (.lst xs)) (h2 : H b = some (.lst ys)) (hz : xs.length + ys.length ≤ sizeLine) (h : ∀ p, H p = none → Q (.ref p) (upd H p (.lst (xs ++ ys)))) : rAddA K (.ref a) (.ref b) H Q := .inr (.inr (.inl ⟨a, b, xs, ys, rfl, rfl, h1, h2, hz, h⟩))
theorem v_subI {i j : Int} (h : Q (.int (i - j)) H) : rI0 (fun i j => .int (i - j)) (.int i) (.int j) H Q := ⟨i, j, rfl, rfl, h⟩
theorem v_mulI {i j : Int} (c : CMul i j) (h : Q (.int (i * j)) H) : rMulA (.int i) (.int j) H Q := .inl ⟨i, j, rfl, rfl, c, h⟩
theorem v_mulS {z : Str} {n : Int} (h0 : 0 ≤ n) (h1 : n ≤ 1000) (h2 : z.length ≤ 1000) (h : Q (.str (PySem.Txt.mul z n)) H) : rMulA (.str z) (.int n) H Q := .inr (.inl ⟨z, n, rfl, rfl, h0, h1, h2, h⟩)
theorem v_fdiv {i j : Int} (c : CDiv i j) (h : Q (.int (i / j)) H) : rI CDiv (fun i j => .int (i / j)) (.int i) (.int j) H Q := ⟨i, j, rfl, rfl, c, h⟩
theorem v_mod {i j : Int} (c : 0 < j) (h : Q (.int (i % j)) H) : rI (fun _ j => 0 < j) (fun i j => .int (i % j)) (.int i) (.int j) H Q := ⟨i, j, rfl, rfl, c, h⟩
theorem v_ltI {i j : Int} (h : Q (.bl (decide (i < j))) H) : rLtA (.int i) (.int j) H Q := .inl ⟨i, j, rfl, rfl, h⟩
theorem v_leI {i j : Int} (h : Q (.bl (decide (i ≤ j))) H) : rLeA (.int i) (.int j) H Q := .inl ⟨i, j, rfl, rfl, h⟩
theorem v_gtI {i j : Int} (h : Q (.bl (decide (j < i))) H) : rGtA (.int i) (.int j) H Q := .inl ⟨i, j, rfl, rfl, h⟩
theorem v_geI {i j : Int} (h : Q (.bl (decide (j ≤ i))) H) : rGeA (.int i) (.int j) H Q := .inl ⟨i, j, rfl, rfl, h⟩
theorem v_ltS {i j : Str} (h : Q (.bl (decide (i.cps.toList < j.cps.toList))) H) : rLtA (.str i) (.str j) H Q := .inr ⟨i, j, rfl, rfl, h⟩
theorem v_leS {i j : Str} (h : Q (.bl (!decide (j.cps.toList < i.cps.toList))) H) : rLeA (.str i) (.str j) H Q := .inr ⟨i, j, rfl, rfl, h⟩
theorem v_eq {x y : V} (c : scal x y = true) (h : Q (.bl (decide (x = y))) H) : rEqA K x y H Q := .inl ⟨c, h⟩
theorem v_ne {x y : V} (c : scal x y = true) (h : Q (.bl (!decide (x = y))) H) : rNeA K x y H Q := .inl ⟨c, h⟩
theorem v_eqM {x y : V} {d e : PyData} (h1 : Dv K H d x) (h2 : Dv K H e y) (hz : min d.depth e.depth ≤ 190) (h : Q (.bl (PyData.eqv d e)) H) : rEqA K x y H Q := .inr ⟨d, e, h1, h2, hz, h⟩
theorem v_is {x : V} (h : Q (.bl (decide (x = .non))) H) : rIsA x .non H Q := ⟨rfl, h⟩
theorem v_isnot {x : V} (h : Q (.bl (!decide (x = .non))) H) : rIsNotA x .non H Q := ⟨rfl, h⟩
theorem v_ixL {p : Addr} {xs : List V} {i : Int} {v : V} (h1 : SqL K H p xs) (e : atI xs i = some v) (h : Q v H) : rIx K (.ref p) (.int i) H Q := .inl ⟨p, xs, i, v, rfl, rfl, h1, e, h⟩
theorem v_ixT {p : Addr} {xs : List V} {i : Int} {v : V} (h1 : SqT K H p xs) (e : atI xs i = some v) (h : Q v H) : rIx K (.ref p) (.int i) H Q := .inr (.inl ⟨p, xs, i, v, rfl, rfl, h1, e, h⟩)
theorem v_ixS {z : Str} {i : Int} {c : Nat} (hz : z.length ≤ sizeLine) (e : atI z.cps.toList i = some c) (h : Q (.str ⟨#[c]⟩) H) : rIx K (.str z) (.int i) H Q := .inr (.inr ⟨z, i, c, rfl, rfl, hz, e, h⟩)
theorem v_in {x : V} {p : Addr} {xs : List V} (h1 : SqL K H p xs ∨ SqT K H p xs) (fx : flatV x = true) (fs : xs.all flatV = true) (h : Q (.bl (inV x xs)) H) : rInA K false x (.ref p) H Q := .inl ⟨p, xs, rfl, h1, fx, fs, h⟩
theorem v_notin {x : V} {p : Addr} {xs : List V} (h1 : SqL K H p xs ∨ SqT K H p xs) (fx : flatV x = true) (fs : xs.all flatV = true) (h : Q (.bl (!inV x xs)) H) : rInA K true x (.ref p) H Q := .inl ⟨p, xs, rfl, h1, fx, fs, h⟩
theorem v_lenQ {p : Addr} {xs : List V} (h1 : SqL K H p xs ∨ SqT K H p xs) (h : Q (.int xs.length) H) : rLenA K [.ref p] H Q := .inl ⟨p, xs, rfl, h1, h⟩
theorem v_lenS {z : Str} (hz : z.length ≤ sizeLine) (h : Q (.int z.length) H) : rLenA K [.str z] H Q := .inr (.inl ⟨z, rfl, hz, h⟩)
theorem v_setL {p : Addr} {xs : List V} {k : Int} {v : V} {j : Nat} {R : Hp → Prop} (h1 : H p = some (.lst xs)) (e : ixN xs.length k = some j) (h : R (upd H p (.lst (xs.set j v)))) : rSetL (.ref p) (.int k) v H R := ⟨p, xs, k, j, rfl, rfl, h1, e, h⟩
theorem v_append {p : Addr} {xs : List V} {y : V} (h1 : H p = some (.lst xs)) (hz : xs.length < sizeLine) (h : Q .non (upd H p (.lst (xs ++ [y])))) : rAppend (.ref p) [y] H Q := ⟨p, xs, y, rfl, rfl, h1, hz, h⟩
end
end L2
namespace L2
open PySem PySem.Spec PyProof.Rows PySem.SeqAt
section
variable {prog : Program} {w : World} {A : Around} {E : Value → Shared → Prop} {s : Shared}
end
section
variable {X : Cx}
def rSetA : TSet := fun o i v H Q => rSetL o i v H Q ∨ ∃ a H', o = .ref a ∧ DPut H a i v H' ∧ Q H'
theorem set_any' (hu : X.A.units + 1 < cLine) : PSet X rSetA := by
  intro pins s σ H o i v ov iv u Q I ro ri rv h
  rcases h with h | ⟨a, H', rfl, g, q⟩
  · exact set_list pins s σ H o i v ov iv u Q I ro ri rv h
  · cases ro
    exact d_setItem hu I g ri rv fun s' I' => ⟨H', I', q⟩
def rIxA (K : PySem.W.Frag) : R2 := rIx K
theorem ix_any' (hu : X.A.units + 1 < cLine) : IxR X (rIxA X.K) := ix_seq
def rInD (neg : Bool) : R2 := fun x y H Q => ∃ a o, y = .ref a ∧ DGet H a x o ∧ Q (.bl (if neg then !o.isSome else o.isSome)) H
def rInB (K : PySem.W.Frag) (neg : Bool) : R2 := fun x y H Q => rInA K neg x y H Q ∨ rInD neg x y H Q
theorem op_inB (hu : X.A.units + 1 < cLine) : OpR X (compareOp .In) (rInB X.K false) := by
  refine op_inA.or ?_
  intro pins s σ H x y v u Q I rx ry h
  obtain ⟨a, o, rfl, g, q⟩ := h
  cases ry
  exact d_in hu I g rx fun s' I' => ⟨.bl o.isSome, H, I', rfl, q⟩
theorem op_notinB (hu : X.A.units + 1 < cLine) : OpR X (compareOp .NotIn) (rInB X.K true) := by
  refine op_notinA.or ?_
  intro pins s σ H x y v u Q I rx ry h
  obtain ⟨a, o, rfl, g, q⟩ := h
  cases ry
  exact d_notIn hu I g rx fun s' I' => ⟨.bl (!o.isSome), H, I', rfl, q⟩
def rIsi (K : PySem.W.Frag) : List V → Hp → VK → Prop := fun xs H Q => (∃ (x : V) (T : String) (t : Value) (b : Bool), xs = [x, .ty T] ∧ TyOf K H x t ∧ PySem.W.kitOne K t (.type T) = some b ∧ Q (.bl b) H) ∨
  ∃ (a : Addr) (ys : List V) (T : String) (b : Bool), xs = [.ref a, .ty T] ∧ SqT K H a ys ∧ PySem.W.kitOne K (.type "tuple") (.type T) = some b ∧ Q (.bl b) H
theorem call_isinstanceA : CallR X (.builtin "isinstance") (rIsi X.K) := by
  intro pins s σ H xs us Q I r h
  rcases h with ⟨x, T, t, b, rfl, ty, e, q⟩ | ⟨a, ys, T, b, rfl, hq, e, q⟩
  · obtain ⟨u, w', rfl, r1, r2⟩ := vals2 r
    cases r2
    exact wpAny_with_toks (n := 1) I.tk (isinst_ok I r1 ty e fun tk ht => ⟨.bl b, H, I.tok _ ht, rfl, q⟩)
  · obtain ⟨u, w', rfl, r1, r2⟩ := vals2 r
    cases r2
    cases r1
    obtain ⟨its, rv, pl, hz⟩ := I.tuple hq
    obtain ⟨o, h1, h2, _⟩ := pl
    exact wpAny_with_toks (n := 1) I.tk (PySem.W.kia_one PySem.W.kitx_tuple I.kIn ⟨o, h1, h2⟩ e (fun z => nomatch z) fun tk ht => ⟨.bl b, H, I.tok _ ht, rfl, q⟩)
theorem v_isi {K : PySem.W.Frag} {H : Hp} {Q : VK} {x : V} {T : String} {t : Value} {b : Bool} (ty : TyOf K H x t) (e : PySem.W.kitOne K t (.type T) = some b) (h : Q (.bl b) H) : rIsi K [x, .ty T] H Q := .inl ⟨x, T, t, b, rfl, ty, e, h⟩
example (K : PySem.W.Frag) : PySem.W.kitOne K (.type "str") (.type "str") = some true := by rfl
example (K : PySem.W.Frag) : PySem.W.kitOne K (.type "bool") (.type "int") = some true := by rfl
example (K : PySem.W.Frag) : PySem.W.kitOne K (.type "int") (.type "bool") = some false := by rfl
example (K : PySem.W.Frag) : PySem.W.kitOne K (.type "list") (.type "list") = some true := by rfl
end
end L2
namespace L2
open PySem PySem.Spec PyProof.Rows PySem.SeqAt
section
variable {X : Cx} {pins : List (Addr × Obj)} {σ : List (Option V)} {H : Hp} {s : Shared} {h' : Heap}
theorem Inv.turnLaid {a : Addr} {o : HO} {t' : Nat} {ch : List Addr} (I : Inv X pins σ H s) (hf : ∀ b ∈ ch, FpOk X pins H b)
    (k : ∀ b u, b ∉ ch → s.heap.get? b = some u → h'.get? b = some u) (hp : s.heap.objs.size ≤ a) (new : ObjOk X.prog X.w (upd H a o) h' a o) (ht : 0 < t') :
    Inv X pins σ (upd H a o) { s with heap := h', toks := t' } := by
  have hn : H a = none := I.hok.fresh hp
  have nit : ∀ b u, H b = some u → b ∉ ch := fun b u e z => by rw [(hf b z).1] at e; cases e
  have up : ∀ {b : Addr} {u : HO}, H b = some u → upd H a o b = some u := fun {b u} e => by rw [upd_ne (ne_of_none e hn)]; exact e
  have neA : ∀ b u, s.heap.get? b = some u → b ≠ a := fun b u e => Nat.ne_of_lt (Nat.lt_of_lt_of_le (Heap.lt_size e) hp)
  refine I.step (g' := s.gens) (d' := s.drawn) (ch := ch) (fun b hb => ?_) (fun b u _ _ hc e _ => k b u hc e) (fun b u _ _ hc e _ => ⟨u.slots, k b u hc e⟩) (fun b u _ e n => by rw [upd_ne (neA b u e)]; exact n)
    (fun b u hc e => ⟨u, k b u hc e⟩) (fun _ _ e => up e) (fun _ _ _ e => up e) (fun b ps e => ⟨#[], by rw [up e]; simp⟩) (fun m hm => ?_) (fun b u e => ?_) I.bare ht
  · obtain ⟨f0, f1, f2, f3, f4, f5⟩ := hf b hb
    exact ⟨f3, f1, f4, f5⟩
  · obtain ⟨ob, es, ep, ho, r⟩ := hm
    exact ⟨ob, es, ep, k _ ob (fun z => (hf _ z).2.1 rfl) ho, r⟩
  · by_cases hb : b = a
    · subst hb; rw [upd_same] at e; cases e; exact new
    · rw [upd_ne hb] at e
      refine (I.hok b u e).stay (fun c v hc q => k c v ?_ q) (fun _ q => up q) fun _ _ q => up q
      rcases hc with z | z
      · rw [z]; exact nit b u e
      · exact nit c _ z
end
def Itx (n : Nat) (V' : Nat → V → Prop) : It := ⟨fun i _ => i < n, fun i H x H' => H' = H ∧ V' i x, fun i _ => n ≤ i⟩
theorem turn_walks {P : Program} {w : World} {K : PySem.W.Frag} {tg : Expr} {it : Addr} {n : Nat} {Pv : Nat → Value → Prop} {St : Nat → Heap → Prop} {V' : Nat → V → Prop} {T : String} {vs : Nat → Array Value}
    (W : ∀ A : Around, A.handled = none → Walks P w A it [it] [it] n Pv St) (hV : ∀ i v, Pv i v → ∃ x, RelV x v ∧ V' i x)
    (hO : ∀ i h, St i h → ∃ o, h.get? it = some o ∧ o.cls = .type T ∧ o.data = .fields (vs i))
    (hT : ["enumerate", "zip", "dict_itemiterator", "dict_reverseitemiterator", "odict_iterator", "itertools.zip_longest", "itertools.pairwise"].contains T = false)
    (hS : ∀ (A : Around) (i : Nat) (s : Shared) (Q : Value → Shared → Prop) (E : Value → Shared → Prop), St i s.heap → Q (.ref it) s → wpAny (model P w) A (pyIter (.ref it)) Q E s) :
    Turn P w K tg (Itx n V') [it] it (fun i h => i ≤ n ∧ St i h) where
  mem := by simp
  obj := fun i h st b hb => by
    have e : b = it := by simpa using hb
    subst e
    obtain ⟨o, e, _, d⟩ := hO i h st.2
    exact ⟨o, e, fun v z => by rw [d] at z; cases z⟩
  keep := fun i h h' st k => ⟨st.1, (W {} rfl).frame i h h' st.2 k⟩
  item := by
    intro X hP hw hK hc i pins s σ H E I hf st hg
    subst hP hw hK
    obtain ⟨f0, f1, f2, f3, f4, f5⟩ := hf it (by simp)
    refine wpAny_with_toks (n := 1) I.tk ((W X.A (I.ok.hd hc)).item i s _ _ hg st.2 fun v h' tk hv st' kk ht => ?_)
    have ht : 0 < tk := ht
    obtain ⟨x, rx, vx⟩ := hV i v hv
    have I1 : Inv X pins σ H { s with heap := h', toks := tk } := I.turned (fun b o hb e => kk b o (by simpa using hb) e) f0 f1 f3 f4 f5
    obtain ⟨o, e, c, d⟩ := hO _ _ st'
    exact ⟨v, rfl, go_of (s := { s with heap := h', toks := tk }) e c d hT ⟨x, H, I1, rx, ⟨rfl, vx⟩, ⟨hg, st'⟩, fun b hb => (hf b hb).1⟩⟩
  done := by
    intro X hP hw hK hc i pins s σ H E I hf st hg
    subst hP hw hK
    obtain ⟨f0, f1, f2, f3, f4, f5⟩ := hf it (by simp)
    have hi : i = n := Nat.le_antisymm st.1 hg
    subst hi
    exact wpAny_with_toks (n := 1) I.tk ((W X.A (I.ok.hd hc)).done s _ _ st.2 fun h' tk eb ht => ⟨rfl, I.turned (fun b o hb e => eb b o (by simpa using hb) e) f0 f1 f3 f4 f5 ht⟩)
  self := fun A i s Q E st h => hS A i s Q E st.2 h
section
variable {X : Cx} {pins : List (Addr × Obj)} {σ : List (Option V)} {H : Hp} {s : Shared} {h' : Heap}
theorem Inv.turnedL {t' : Nat} {ch : List Addr} (I : Inv X pins σ H s) (hf : ∀ b ∈ ch, FpOk X pins H b) (k : ∀ b u, b ∉ ch → s.heap.get? b = some u → h'.get? b = some u) (ht : 0 < t') :
    Inv X pins σ H { s with heap := h', toks := t' } := by
  have nit : ∀ b u, H b = some u → b ∉ ch := fun b u e z => by rw [(hf b z).1] at e; cases e
  refine I.step (g' := s.gens) (d' := s.drawn) (ch := ch) (fun b hb => ?_) (fun b u _ _ hc e _ => k b u hc e) (fun b u _ _ hc e _ => ⟨u.slots, k b u hc e⟩) (fun _ _ _ _ n => n)
    (fun b u hc e => ⟨u, k b u hc e⟩) (fun _ _ e => e) (fun _ _ _ e => e) (fun b ps e => ⟨#[], by rw [e]; simp⟩) (fun m hm => ?_) (fun b u e => ?_) I.bare ht
  · obtain ⟨f0, f1, f2, f3, f4, f5⟩ := hf b hb
    exact ⟨f3, f1, f4, f5⟩
  · obtain ⟨ob, es, ep, ho, r⟩ := hm
    exact ⟨ob, es, ep, k _ ob (fun z => (hf _ z).2.1 rfl) ho, r⟩
  · refine (I.hok b u e).stay (fun c v hc q => k c v ?_ q) (fun _ q => q) fun _ _ q => q
    rcases hc with z | z
    · rw [z]; exact nit b u e
    · exact nit c _ z
end
theorem walks_str {P : Program} {w : World} {A : Around} (hh : A.handled = none) (it : Addr) (x : Str) (t : Tok) : Walks P w A it [it] [it] x.cps.size (SignAt x) (fun i h => h.IsStrIter it (strIterType x) x t i) := by
  unfold strIterType
  split
  · exact Walks.strAscii hh it x t
  · exact Walks.strWide hh it x t
theorem pyIter_strI {P : Program} {w : World} {A : Around} {E : Value → Shared → Prop} {s : Shared} {it : Addr} {x : Str} {t : Tok} {i : Nat} {Q : Value → Shared → Prop} (hit : s.heap.IsStrIter it (strIterType x) x t i) (h : Q (.ref it) s) :
    wpAny (model P w) A (pyIter (.ref it)) Q E s := by
  unfold strIterType at hit
  split at hit
  · exact wpAny_pyIter_striter_ascii hit h
  · exact wpAny_pyIter_striter_wide hit h
def signV (z : Str) (i : Nat) (x : V) : Prop := ∃ c, z.cps.toList[i]? = some c ∧ x = .str ⟨#[c]⟩
theorem signAt_V {z : Str} (i : Nat) (v : Value) (h : SignAt z i v) : ∃ x, RelV x v ∧ signV z i x := by
  obtain ⟨c, u, e, rfl⟩ := h
  exact ⟨.str ⟨#[c]⟩, ⟨u, rfl⟩, c, by simpa using e, rfl⟩
theorem turn_str {P : Program} {w : World} {K : PySem.W.Frag} {tg : Expr} (it : Addr) (z : Str) (t : Tok) : Turn P w K tg (Itx z.cps.size (signV z)) [it] it (fun i h => i ≤ z.cps.size ∧ h.IsStrIter it (strIterType z) z t i) := by
  refine turn_walks (T := strIterType z) (vs := fun i => #[.str z t, .int i 0]) (fun A hA => walks_str hA it z t) signAt_V (fun i h st => ?_) ?_ (fun A i s Q E st h => pyIter_strI st h)
  · obtain ⟨o, e, c, d⟩ := st
    exact ⟨o, e, c, d⟩
  · unfold strIterType
    split <;> decide
def iStr (tl : TE) : TI := fun σ H R => tl σ H fun x H1 => ∃ z, x = .str z ∧ R (Itx z.cps.size (signV z)) H1
theorem pi_strs {X : Cx} {tg l : Expr} {tl : TE} (hl : PE X l tl) : PI X tg l (iStr tl) := by
  intro pins s σ H R I h
  refine thn (hl pins s σ H _ I h) fun v s1 ⟨x, H1, I1, r1, q1⟩ => ?_
  obtain ⟨z, e, q⟩ := q1
  subst e
  obtain ⟨t, rfl⟩ := r1
  refine wpAny_pyIter_strU ?_
  refine ⟨s1.heap.objs.size, [s1.heap.objs.size], _, _, H1, rfl, I1.kept (t' := s1.toks) fun b o e => Heap.get?_push_of_some _ e, turn_str _ z t, ⟨Nat.zero_le _, _, Heap.get?_push_size _ rfl, rfl, rfl⟩, fun b hb => ?_, q⟩
  have e : b = s1.heap.objs.size := by simpa using hb
  subst e
  exact I1.fpOk (Nat.le_refl _) (I1.hok.fresh (Nat.le_refl _))
def cutS (x : Str) (lo hi : Option Int) : Str := ⟨((x.cps.toList.drop (HT.sIx x.cps.toList.length 0 lo)).take (HT.sIx x.cps.toList.length x.cps.toList.length hi - HT.sIx x.cps.toList.length 0 lo)).toArray⟩
def rSlS : V → Option Int → Option Int → Hp → VK → Prop := fun x lo hi H Q => ∃ z, x = .str z ∧ z.length ≤ sizeLine ∧ Q (.str (cutS z lo hi)) H
theorem pick_cutS (x : Str) (lo hi : Option Int) : (⟨((Builtin.Str.strSliceIndices lo hi 1 x.length).filterMap (x.cps[·]?)).toArray⟩ : Str) = cutS x lo hi := by
  obtain ⟨h1, h2, h3⟩ := slice_bounds lo hi x.length
  have e : Builtin.Str.strSliceIndices lo hi 1 x.length = sliceRange (sliceBounds lo hi none x.length).1 (sliceBounds lo hi none x.length).2.1 (sliceBounds lo hi none x.length).2.2 := rfl
  rw [e, h1, h2, h3]
  unfold cutS
  rw [sliceRange_one, pick_run]
  rfl
theorem sIx_le (n d : Nat) (o : Option Int) (h : d ≤ n) : HT.sIx n d o ≤ n := by
  cases o with
  | none => exact h
  | some v =>
    show (if v < 0 then (v + (n : Int)).toNat else min v.toNat n) ≤ n
    split <;> omega
theorem sl_str {X : Cx} : SlR X rSlS := by
  intro pins s σ H x v vl vu lo hi sl Q I rx hs pl pu h
  obtain ⟨z, rfl, hz, q⟩ := h
  obtain ⟨t, rfl⟩ := rx
  refine ⟨"str", _, PySem.F.slot_str_getitem.lookup, typeIs_str _ _ _, ?_⟩
  have part : ∀ {v : Value} {k : Option Int}, IsPart v k → ∃ l : Option (Int × Tok), v = partValue l ∧ l.map (·.1) = k := fun {v k} h => by
    cases h with
    | none => exact ⟨none, rfl, rfl⟩
    | int i t => exact ⟨some (i, t), rfl, rfl⟩
  obtain ⟨l, rfl, el⟩ := part pl
  obtain ⟨u, rfl, eu⟩ := part pu
  refine wpAny_getItem_str_slice (l := l) (u := u) (st := none) hs rfl ?_
  have ep : slicePicked z l u none = Builtin.Str.strSliceIndices lo hi 1 z.length := by unfold slicePicked; rw [el, eu]; rfl
  have ec := pick_cutS z lo hi
  unfold sliceMade
  rw [ep]
  split
  · rename_i hc
    have hlen : (Builtin.Str.strSliceIndices lo hi 1 z.length).length = z.length := by simpa using hc
    have : cutS z lo hi = z := by
      obtain ⟨h1, h2, h3⟩ := slice_bounds lo hi z.length
      have e : Builtin.Str.strSliceIndices lo hi 1 z.length = sliceRange (sliceBounds lo hi none z.length).1 (sliceBounds lo hi none z.length).2.1 (sliceBounds lo hi none z.length).2.2 := rfl
      rw [e, h1, h2, h3, sliceRange_one, List.length_map, List.length_range] at hlen
      have hb := sIx_le z.length z.length hi (Nat.le_refl _)
      have el : z.cps.toList.length = z.length := Array.length_toList
      obtain ⟨⟨l⟩⟩ := z
      unfold cutS
      rw [el, hlen]
      by_cases h0 : HT.sIx (Str.length ⟨⟨l⟩⟩) 0 lo = 0
      · rw [h0, List.drop_zero, List.take_of_length_le (Nat.le_of_eq el)]
      · have : Str.length ⟨⟨l⟩⟩ = 0 := by omega
        rw [this, List.take_zero]
        have : l = [] := List.eq_nil_of_length_eq_zero (by rw [← this]; exact el.symm ▸ rfl)
        rw [this]
    rw [this] at q
    exact ⟨.str z, H, I, ⟨_, rfl⟩, q⟩
  · rw [ec]
    refine ⟨?_, .str _, H, I.tok _, ⟨_, rfl⟩, q⟩
    have : (cutS z lo hi).length ≤ z.length := by
      unfold cutS Str.length
      simp only [List.size_toArray, List.length_take, List.length_drop, Array.length_toList]
      omega
    omega
def rSlA (K : PySem.W.Frag) : V → Option Int → Option Int → Hp → VK → Prop := fun x lo hi H Q => rSlS x lo hi H Q ∨ rSlT K x lo hi H Q ∨ rSlL K x lo hi H Q
theorem sl_any {X : Cx} : SlR X (rSlA X.K) := sl_str.or (sl_tup.or sl_list)
section
variable {K : PySem.W.Frag} {σ : St} {H : Hp} {Q : VK}
theorem v_slL {a : Addr} {xs : List V} {lo hi : Option Int} (hx : SqL K H a xs) (h : ∀ p, H p = none → Q (.ref p) (upd H p (.lst (cutV xs lo hi)))) : rSlA K (.ref a) lo hi H Q := .inr (.inr ⟨a, xs, rfl, hx, h⟩)
theorem st_sl {r : V → Option Int → Option Int → Hp → VK → Prop} {te : TE} {tl th : TO} (h : te σ H fun x H1 => tl σ H1 fun l H2 => th σ H2 fun u H3 => r x l u H3 Q) : tSl r te tl th σ H Q := h
theorem st_part {t : TE} {R : Option Int → Hp → Prop} (h : t σ H fun x H1 => ∃ i, x = .int i ∧ R (some i) H1) : tPart t σ H R := h
theorem st_nopart {R : Option Int → Hp → Prop} (h : R none H) : tNoPart σ H R := h
theorem st_int {i : Int} {R : Int → Prop} (h : R i) : ∃ j, V.int i = .int j ∧ R j := ⟨i, rfl, h⟩
theorem st_iStr {tl : TE} {R : It → Hp → Prop} (h : tl σ H fun x H1 => ∃ z, x = .str z ∧ R (Itx z.cps.size (signV z)) H1) : iStr tl σ H R := h
theorem v_eqS {x y : Str} (h : Q (.bl (decide (x = y))) H) : rEqA K (.str x) (.str y) H Q := by
  refine v_eq rfl ?_
  have e : (decide ((V.str x) = V.str y)) = decide (x = y) := by simp
  rw [e]; exact h
theorem v_neS {x y : Str} (h : Q (.bl (!decide (x = y))) H) : rNeA K (.str x) (.str y) H Q := by
  refine v_ne rfl ?_
  have e : (decide ((V.str x) = V.str y)) = decide (x = y) := by simp
  rw [e]; exact h
theorem v_eqI {x y : Int} (h : Q (.bl (decide (x = y))) H) : rEqA K (.int x) (.int y) H Q := by
  refine v_eq rfl ?_
  have e : (decide ((V.int x) = V.int y)) = decide (x = y) := by simp
  rw [e]; exact h
theorem v_neI {x y : Int} (h : Q (.bl (!decide (x = y))) H) : rNeA K (.int x) (.int y) H Q := by
  refine v_ne rfl ?_
  have e : (decide ((V.int x) = V.int y)) = decide (x = y) := by simp
  rw [e]; exact h
end
end L2
namespace L2
open PySem PySem.Spec PyProof.Rows PySem.SeqAt PySem.Builtin PySem.Builtin.Str
section
variable {X : Cx}
theorem blVals : ∀ {bs : List Bool} {us : List Value}, Vals (bs.map V.bl) us → us = bs.map Value.bool
  | [], _, h => by cases h; rfl
  | b :: bs, _, h => by
    have h : Vals (V.bl b :: bs.map V.bl) _ := h
    cases h with
    | cons r t => rw [blVals t]; cases (show _ = Value.bool b from r); rfl
theorem range_all (bs : List Bool) : (List.range bs.length).all (fun i => (bs[i]?).getD false) = bs.all id := by
  rw [Bool.eq_iff_iff, List.all_eq_true, List.all_eq_true]
  constructor
  · intro h b hb
    obtain ⟨i, hi, e⟩ := List.getElem_of_mem hb
    have := h i (List.mem_range.mpr hi)
    rw [List.getElem?_eq_getElem hi, e] at this
    exact this
  · intro h i hi
    have hi := List.mem_range.mp hi
    rw [List.getElem?_eq_getElem hi]
    exact h _ (List.getElem_mem hi)
def r_all (K : PySem.W.Frag) : List V → Hp → VK → Prop := fun xs H Q => ∃ (p : Addr) (bs : List Bool), xs = [.ref p] ∧ SqL K H p (bs.map V.bl) ∧ Q (.bl (bs.all id)) H
theorem call_allA (hc : X.calm = true) : CallR X (.builtin "all") (r_all X.K) := by
  intro pins s σ H xs us Q I r h
  obtain ⟨p, bs, rfl, hq, q⟩ := h
  obtain ⟨u, rfl, ru⟩ := vals1 r
  cases ru
  obtain ⟨its, rv, pl, hz⟩ := I.list hq
  have ei := blVals rv
  subst ei
  refine wpAny_with_toks (n := 1) I.tk (call_all_walk (wpAny_pyIter_list pl.isList ?_))
  have ne : p ≠ s.heap.objs.size := Nat.ne_of_lt (by obtain ⟨o, e, _⟩ := pl.isList; exact Heap.lt_size e)
  refine ⟨_, _, _, _, _, _, fun i => (bs[i]?).getD false, rfl, Walks.list (show X.A.in1.handled = none from I.ok.hd hc) s.heap.objs.size p ne _, ⟨⟨_, Heap.get?_push_size _ rfl, rfl, rfl⟩, pl.isList.at fun o e => Heap.get?_push_of_some _ e⟩, ?_, fun h' tk hk ht => ?_⟩
  · intro i v s Q E hP hQ
    have hP : (bs.map Value.bool)[i]? = some v := by simpa using hP
    rw [List.getElem?_map] at hP
    obtain ⟨b, hb, rfl⟩ := Option.map_eq_some_iff.mp hP
    have hQ : Q ((bs[i]?).getD false) s := hQ
    rw [hb] at hQ
    exact wpAny_pure hQ
  · refine ⟨.bl (bs.all id), H, I.kept (fun b o e => hk b o ?_ (Heap.get?_push_of_some _ e)) ht, ?_, q⟩
    · intro z
      have : b = s.heap.objs.size := by simpa using z
      exact absurd (Heap.lt_size e) (by rw [this]; exact Nat.lt_irrefl _)
    · show Value.bool _ = Value.bool _
      rw [← range_all bs]
      congr 2
      simp
section
variable {K : PySem.W.Frag} {σ : St} {H : Hp} {Q : VK}
theorem v_all {p : Addr} {bs : List Bool} (h : SqL K H p (bs.map V.bl)) (q : Q (.bl (bs.all id)) H) : r_all K [.ref p] H Q := ⟨p, bs, rfl, h, q⟩
theorem str_comp {g : TG} {tt : TT} {te : TE} {σ' : St} {z : Str} (Pv : Nat → List V → Hp → Prop) (h0 : Pv 0 [] H) (hlen : ∀ i ys H, i ≤ z.cps.size → Pv i ys H → ys.length ≤ sizeLine)
    (hs : ∀ (i c : Nat) ys H, z.cps.toList[i]? = some c → Pv i ys H → g (.str ⟨#[c]⟩) σ' H fun σ2 H2 => tt σ2 H2 fun b H3 => if b = true then te σ2 H3 fun y H4 => PAt Pv (i + 1) (ys ++ [y]) H4 else PAt Pv (i + 1) ys H3)
    (hd : ∀ ys H, Pv z.cps.size ys H → ∀ p, H p = none → Q (.ref p) (upd H p (.lst ys))) :
    ∃ z', V.str z = .str z' ∧ CompW g tt te σ' Q (Itx z'.cps.size (signV z')) H := by
  refine ⟨z, rfl, fun i m ys H => m = z.cps.size - i ∧ i ≤ z.cps.size ∧ Pv i ys H, ⟨z.cps.size, by simp, Nat.zero_le _, h0⟩, ?_⟩
  rintro i m ys H ⟨rfl, hi, p⟩
  refine ⟨hlen i ys H hi p, ?_⟩
  by_cases hlt : i < z.cps.size
  · refine .inr ⟨hlt, Pv (i + 1), fun ys' H' p' => ⟨z.cps.size - (i + 1), by omega, rfl, hlt, p'⟩, fun x H' y => ?_⟩
    obtain ⟨rfl, c, ec, rfl⟩ := y
    exact hs i c ys _ ec p
  · have e : i = z.cps.size := by omega
    subst e
    exact .inl ⟨Nat.le_refl _, hd ys H p⟩
end
end
end L2
namespace L2
open PySem PySem.Spec PyProof.Rows PySem.SeqAt
section
variable {X : Cx}
def r_max (_ : PySem.W.Frag) : List V → Hp → VK → Prop := fun xs H Q => ∃ i j, xs = [.int i, .int j] ∧ Q (.int (if j > i then j else i)) H
theorem call_maxA (hc : X.calm = true) : CallR X (.builtin "max") (r_max X.K) := call_max2 hc
end
section
variable {σ : St} {H : Hp} {Q : VK} {K : PySem.W.Frag}
theorem v_max {i j : Int} (h : Q (.int (if j > i then j else i)) H) : r_max K [.int i, .int j] H Q := ⟨i, j, rfl, h⟩
end
section
variable {prog : Program} {w : World} {A : Around} {E : Value → Shared → Prop} {s : Shared}
theorem getItem_tuple_whole {t sl : Addr} {items : Array Value} {vl vu : Value} {lo hi : Option Int} {Q : Value → Shared → Prop} (ht : IsTup s.heap t items) (hs : s.heap.IsSliceOf sl vl vu .none) (pl : IsPart vl lo) (pu : IsPart vu hi)
    (hw : HT.sIx items.size 0 lo = 0 ∧ HT.sIx items.size items.size hi = items.size) (h : Q (.ref t) s) : wpAny (model prog w) A (getItem (.ref t) (.ref sl)) Q E s := by
  obtain ⟨os, hos, hcs, hds⟩ := id hs
  have hTs : s.TypeIs (.ref sl) "slice" := ⟨os, hos, hcs⟩
  unfold getItem
  try with_reducible refine wpAny_holding ?_
  first | refine wpAny_bind (wpAny_pure ?_) | skip
  refine wpAny_bind (wpAny_sequenceKey ht.typeIs (by decide) ?_)
  refine wpAny_bind (wpAny_callSpecial?_slot (name := Str.ofString "__getitem__") ht.typeIs PyProof.Rows.slot_tuple_getitem
    (wpAny_call_entry PyProof.Rows.slot_tuple_getitem ht.typeIs entry_tuple_getitem ?_ (args_tuple_getitem _ _)))
  show wpAny _ _ (Builtin.Tuple.tupleItemsOf (.ref t) >>= _) _ _ s
  refine wpAny_bind (tupleItemsOf_ ht ?_)
  refine wpAny_bind (wpAny_typeOf hTs ?_)
  rw [if_pos (by decide)]
  refine wpAny_bind (HT.sliceApplied_gen hs pl pu ?_)
  have hyes : ((((HT.sIx items.size 0 lo : Nat) : Int) == 0 && (1 : Int) == 1 && (HT.sIx items.size items.size hi - HT.sIx items.size 0 lo) == items.size) = true) := by
    rw [hw.1, hw.2]; simp
  show wpAny _ _ (if (((HT.sIx items.size 0 lo : Nat) : Int) == 0 && (1 : Int) == 1 && (HT.sIx items.size items.size hi - HT.sIx items.size 0 lo) == items.size) = true then _ else _) _ _ s
  rw [if_pos hyes]
  refine wpAny_bind (m := Builtin.Tuple.tupleIsExact (.ref t)) ?_
  unfold Builtin.Tuple.tupleIsExact
  refine wpAny_bind (wpAny_typeOf ht.typeIs (wpAny_pure ?_))
  rw [if_pos (by decide)]
  first
    | exact wpAny_bind (wpAny_rule (wpAny_bind (wpAny_pure ⟨_, rfl, wpAny_pure h⟩)))
    | exact wpAny_bind (wpAny_rule (wpAny_pure ⟨_, rfl, wpAny_pure h⟩))
    | exact wpAny_bind (wpAny_rule (wpAny_pure (wpAny_pure ⟨_, rfl, wpAny_pure h⟩)))
end
section
variable {X : Cx}
def rSlW (K : PySem.W.Frag) : V → Option Int → Option Int → Hp → VK → Prop := fun x lo hi H Q => ∃ a xs, x = .ref a ∧ SqT K H a xs ∧ (HT.sIx xs.length 0 lo = 0 ∧ HT.sIx xs.length xs.length hi = xs.length) ∧ Q (.ref a) H
theorem sl_tupW : SlR X (rSlW X.K) := by
  intro pins s σ H x v vl vu lo hi sl Q I rx hs pl pu h
  obtain ⟨a, xs, rfl, hx, hw, q⟩ := h
  cases rx
  obtain ⟨its, r, ht, hz⟩ := I.tuple hx
  have hlen : its.toArray.size = xs.length := by rw [List.size_toArray]; exact r.length.symm
  refine ⟨"tuple", _, PyProof.Rows.slot_tuple_getitem.lookup, ht.typeIs, ?_⟩
  exact getItem_tuple_whole ht hs pl pu (by rw [hlen]; exact hw) ⟨.ref a, H, I, rfl, q⟩
def rSlB (K : PySem.W.Frag) : V → Option Int → Option Int → Hp → VK → Prop := fun x lo hi H Q => rSlA K x lo hi H Q ∨ rSlW K x lo hi H Q
theorem sl_anyB : SlR X (rSlB X.K) := sl_any.or sl_tupW
end
section
variable {H : Hp} {Q : VK} {K : PySem.W.Frag}
theorem v_slT {a : Addr} {xs : List V} {lo hi : Option Int} (h1 : SqT K H a xs) (h : ∀ p H', Same H H' → SqT K H' p (cutV xs lo hi) → Q (.ref p) H') : rSlB K (.ref a) lo hi H Q := by
  by_cases hw : HT.sIx xs.length 0 lo = 0 ∧ HT.sIx xs.length xs.length hi = xs.length
  · refine .inr ⟨a, xs, rfl, h1, hw, h a H (fun _ _ e => e) ?_⟩
    unfold cutV
    rw [hw.1, hw.2, List.drop_zero, Nat.sub_zero, List.take_length]; exact h1
  · exact .inl (.inr (.inl ⟨a, xs, rfl, h1, hw, fun p hp => h p _ (Same.new hp _) (SqT.of upd_same)⟩))
end
section
variable {σ : St} {H : Hp}
end
section
variable {prog : Program} {w : World} {A : Around} {E : Value → Shared → Prop} {s : Shared}
theorem nextOf_tuple_item {it l : Addr} {i : Nat} {items} {x : Value} {Q : Value → Shared → Prop} (hit : s.heap.IsTupleIter it l i) (hl : s.heap.IsTuple l items) (hx : items[i]? = some x)
    (hQ : ∀ h', h'.IsTupleIter it l (i + 1) → Heap.SameBut it s.heap h' → Q x { s with heap := h' }) :
    wpAny (model prog w) A (Builtin.SmallTypes.nextOf (.ref it)) Q E s := by
  obtain ⟨o, ho, hc, hd⟩ := id hit
  obtain ⟨ol, hol, _, nl, hdl⟩ := hl
  unfold Builtin.SmallTypes.nextOf
  refine wpAny_bind (wpAny_callSpecial?_slot (name := Str.ofString "__next__") hit.typeIs F.slot_tuple_iterator_next
    (wpAny_call_entry F.slot_tuple_iterator_next hit.typeIs F.entry_tuple_iterator_next ?_ (F.args_tuple_iterator_next_1 _)))
  show wpAny _ _ (field (.ref it) 0 >>= _) _ _ s
  refine wpAny_bind (wpAny_field ho hd (x := .ref l) rfl ?_)
  show wpAny _ _ (if (Value.ref l == Value.none) = true then _ else _) _ _ s
  rw [if_neg (show ¬ ((Value.ref l == Value.none) = true) from Bool.false_ne_true)]
  show wpAny _ _ (field (.ref it) 1 >>= _) _ _ s
  refine wpAny_bind (wpAny_field ho hd (x := .int i 0) rfl ?_)
  show wpAny _ _ (seqItems? (.ref l) >>= _) _ _ s
  refine wpAny_bind (wpAny_seqItems hol hdl ?_)
  simp only [Int.toNat_natCast, hx]
  refine wpAny_bind (wpAny_setField ho hd (by simp) (wpAny_pure ⟨x, rfl, wpAny_pure (hQ _ ?_ (Heap.SameBut.update ..))⟩))
  exact ⟨_, Heap.get?_update_self _ ho (Obj.isFreed_of_fields (Obj.data_mapFields hd _)), (Obj.cls_mapFields ..).trans hc, by
    rw [Obj.data_mapFields hd]; simp [rawInt]⟩
theorem nextOf_tuple_end {it l : Addr} {i : Nat} {items} {Q : Value → Shared → Prop} (hh : A.handled = none) (hit : s.heap.IsTupleIter it l i) (hl : s.heap.IsTuple l items) (hx : items[i]? = none)
    (hE : ∀ h' e, Heap.ExtBut it s.heap h' → (∃ o, h'.get? e = some o ∧ o.cls = .type "StopIteration") → E (.ref e) { s with heap := h' }) :
    wpAny (model prog w) A (Builtin.SmallTypes.nextOf (.ref it)) Q E s := by
  obtain ⟨o, ho, hc, hd⟩ := id hit
  obtain ⟨ol, hol, _, nl, hdl⟩ := hl
  unfold Builtin.SmallTypes.nextOf
  refine wpAny_bind (wpAny_callSpecial?_slot (name := Str.ofString "__next__") hit.typeIs F.slot_tuple_iterator_next
    (wpAny_call_entry F.slot_tuple_iterator_next hit.typeIs F.entry_tuple_iterator_next ?_ (F.args_tuple_iterator_next_1 _)))
  show wpAny _ _ (field (.ref it) 0 >>= _) _ _ s
  refine wpAny_bind (wpAny_field ho hd (x := .ref l) rfl ?_)
  show wpAny _ _ (if (Value.ref l == Value.none) = true then _ else _) _ _ s
  rw [if_neg (show ¬ ((Value.ref l == Value.none) = true) from Bool.false_ne_true)]
  show wpAny _ _ (field (.ref it) 1 >>= _) _ _ s
  refine wpAny_bind (wpAny_field ho hd (x := .int i 0) rfl ?_)
  show wpAny _ _ (seqItems? (.ref l) >>= _) _ _ s
  refine wpAny_bind (wpAny_seqItems hol hdl ?_)
  simp only [Int.toNat_natCast, hx]
  refine wpAny_bind (wpAny_rule (wpAny_bind (wpAny_setField ho hd (by simp) ?_)))
  show wpAny _ _ (newExc (.type "StopIteration") [] >>= _) _ _ _
  refine wpAny_bind ?_
  simp only [newExc, newTuple]
  refine wpAny_bind (wpAny_newObj_type ?_ (by size_fits))
  refine wpAny_bind (m := firstArgMember _ _) (wpAny_of_eq (a := Value.none) (by first | rfl | (simp only [firstArgMember]; rfl)) ?_)
  refine wpAny_newObj_type ?_ (by size_fits)
  simp only [raiseNew]
  refine wpAny_bind (wpAny_handled ?_)
  first | rw [show A.in1.handled = none from hh] | rw [hh]
  refine wpAny_bind (wpAny_pure (wpAny_throw ?_))
  exact hE _ _ (((Heap.SameBut.update ..).extBut.push _).push _) ⟨_, Heap.get?_push_size _ rfl, rfl⟩
end
section
variable {σ : St} {H : Hp} {K : PySem.W.Frag}
end
section
variable {prog : Program} {w : World} {A : Around} {E : Value → Shared → Prop} {s : Shared}
end
end L2
namespace L2
open PySem PySem.Spec PyProof.Rows PySem.SeqAt
theorem intVals : ∀ {js : List Int} {us : List Value}, Vals (js.map V.int) us → ∃ ps : List (Int × Tok), us = ps.map (fun p => Value.int p.1 p.2) ∧ ps.map (·.1) = js
  | [], _, h => by cases h; exact ⟨[], rfl, rfl⟩
  | j :: js, _, h => by
    have h : Vals (V.int j :: js.map V.int) _ := h
    cases h with
    | cons r t =>
      obtain ⟨k, rfl⟩ := r
      obtain ⟨ps, rfl, e⟩ := intVals t
      exact ⟨(j, k) :: ps, rfl, by simp [e]⟩
section
variable {X : Cx}
end
section
variable {H : Hp} {Q : VK} {K : PySem.W.Frag}
end
section
variable {prog : Program} {w : World} {A : Around} {E : Value → Shared → Prop} {s : Shared} {κ : Type} [DecidableEq κ] {knd : KeyKind prog w κ}
end
section
variable {X : Cx} {e o : Expr} {apos cpos pos : Pos} {tx td : TE}
end
section
variable {σ : St} {H : Hp} {Q : VK}
end
end L2
namespace L2
open PySem PySem.Spec PyProof.Rows PySem.SeqAt
section
variable {σ : St} {H : Hp} {Q : VK} {K : PySem.W.Frag}
end
end L2
namespace L2
open PySem PySem.Spec PyProof.Rows PySem.SeqAt
section
variable {σ : St} {H : Hp} {Q : VK} {K : PySem.W.Frag}
end
section
variable {X : Cx}
end
section
variable {H : Hp} {Q : VK} {K : PySem.W.Frag}
end
end L2
namespace L2
open PySem PySem.Spec PyProof.Rows
def Dk {α : Type} : Sem α → Prop
  | .pure _ => True
  | .raise _ => True
  | .unsupported _ => True
  | .finish _ => True
  | .rule _ k => Dk (k ())
  | .at _ k => Dk (k ())
  | .load _ _ k => ∀ o, Dk (k o)
  | .update _ _ f k => (∀ o : Obj, (f o).dict = o.dict) ∧ Dk (k ())
  | .loadIfAlive _ k => ∀ o, Dk (k o)
  | .point _ k => Dk (k ())
  | .alloc _ k => ∀ a, Dk (k a)
  | .fresh k => ∀ a, Dk (k a)
  | .ask k => ∀ a, Dk (k a)
  | .handled _ k => ∀ a, Dk (k a)
  | .stack k => ∀ a, Dk (k a)
  | .thread k => ∀ a, Dk (k a)
  | _ => False
def HasD (e : Addr) (od : Option Addr) (s : Shared) : Prop := ∃ o, s.heap.objs[e]? = some o ∧ o.dict = od
theorem HasD.at {e : Addr} {od : Option Addr} {s : Shared} {o : Obj} (h : HasD e od s) (g : s.heap.get? e = some o) : o.dict = od := by
  obtain ⟨o', e1, e2⟩ := h
  have := (Heap.get?_some_iff.mp g).1
  rw [e1] at this; cases this; exact e2
theorem HasD.of {e : Addr} {od : Option Addr} {s : Shared} {o : Obj} (g : s.heap.get? e = some o) (h : o.dict = od) : HasD e od s := ⟨o, (Heap.get?_some_iff.mp g).1, h⟩
theorem dk_wp {α : Type} {M : Model} {Γ : PySem.Ctx} {e : Addr} {od : Option Addr} {E : Value → Pos → Shared → Prop} {t : Sem α} (d : Dk t) : ∀ {Q : α → Pos → Shared → Prop} {p : Pos} {s : Shared}, HasD e od s → Sem.wp M Γ t Q E p s → Sem.wp M Γ t (fun a p s => Q a p s ∧ HasD e od s) E p s := by
  induction t with
  | pure a => intro Q p s h w; exact ⟨w, h⟩
  | raise v => intro Q p s h w; exact w
  | unsupported v => intro Q p s h w; exact w
  | finish v => intro Q p s h w; exact w
  | rule _ k ih => intro Q p s h w; exact ih () d h w
  | «at» _ k ih => intro Q p s h w; exact ih () d h w
  | load a _ k ih => intro Q p s h w; obtain ⟨o, ho, w⟩ := w; exact ⟨o, ho, ih o (d o) h w⟩
  | update a _ f k ih =>
    intro Q p s h w
    obtain ⟨ha, w⟩ := w
    refine ⟨ha, ih () d.2 ?_ w⟩
    obtain ⟨o, h1, h2⟩ := h
    obtain ⟨⟨objs, l⟩, g, dr, tk, os⟩ := s
    show ∃ o, (objs.modify a f)[e]? = some o ∧ o.dict = od
    have h1 : objs[e]? = some o := h1
    rw [Array.getElem?_modify]
    by_cases z : a = e
    · rw [if_pos z, h1]; exact ⟨_, rfl, (d.1 o).trans h2⟩
    · rw [if_neg z]; exact ⟨o, h1, h2⟩
  | loadIfAlive a k ih => intro Q p s h w; exact ih _ (d _) h w
  | point _ k ih => intro Q p s h w; exact ih () d h w
  | alloc ob k ih =>
    intro Q p s h w
    refine ih _ (d _) ?_ w
    obtain ⟨o, h1, h2⟩ := h
    obtain ⟨⟨objs, l⟩, g, dr, tk, os⟩ := s
    show ∃ o, (objs.push ob)[e]? = some o ∧ o.dict = od
    have h1 : objs[e]? = some o := h1
    have hlt : e < objs.size := (Array.getElem?_eq_some_iff.mp h1).1
    refine ⟨o, ?_, h2⟩
    rw [Array.getElem?_push, if_neg (Nat.ne_of_lt hlt)]; exact h1
  | fresh k ih => intro Q p s h w; exact ih _ (d _) h w
  | ask k ih => intro Q p s h w; exact ih _ (d _) h w
  | handled _ k ih => intro Q p s h w; exact ih _ (d _) h w
  | stack k ih => intro Q p s h w; exact ih _ (d _) h w
  | thread k ih => intro Q p s h w; exact ih _ (d _) h w
  | register | choose | os | call | newGen | genState | resume | yield | fork | await => exact False.elim d
theorem dk_any {α : Type} {M : Model} {A : Around} {e : Addr} {od : Option Addr} {E : Value → Shared → Prop} {t : Sem α} {Q : α → Shared → Prop} {s : Shared} (d : Dk t) (h : HasD e od s) (w : wpAny M A t Q E s) : wpAny M A t (fun a s => Q a s ∧ HasD e od s) E s :=
  fun Γ p hΓ => dk_wp d h (w Γ p hΓ)
theorem dk_bind {α β : Type} {t : Sem α} {k : α → Sem β} (h : Dk t) (hk : ∀ a, Dk (k a)) : Dk (t >>= k) := by
  show Dk (t.bind k)
  induction t with
  | pure a => exact hk a
  | raise v => exact True.intro
  | unsupported v => exact True.intro
  | finish v => exact True.intro
  | rule _ k ih => exact ih () h
  | «at» _ k ih => exact ih () h
  | load a _ k ih => exact fun o => ih o (h o)
  | update a _ f k ih => exact ⟨h.1, ih () h.2⟩
  | loadIfAlive a k ih => exact fun o => ih o (h o)
  | point _ k ih => exact ih () h
  | alloc ob k ih => exact fun o => ih o (h o)
  | fresh k ih => exact fun o => ih o (h o)
  | ask k ih => exact fun o => ih o (h o)
  | handled _ k ih => exact fun o => ih o (h o)
  | stack k ih => exact fun o => ih o (h o)
  | thread k ih => exact fun o => ih o (h o)
  | register | choose | os | call | newGen | genState | resume | yield | fork | await => exact False.elim h
theorem dk_pure {α : Type} {a : α} : Dk (pure a : Sem α) := True.intro
theorem dk_uns {α : Type} {w : String} : Dk (unsupported w : Sem α) := True.intro
theorem dk_load {a : Addr} : Dk (load a) := fun _ => True.intro
theorem dk_stack : Dk stack := fun _ => True.intro
theorem dk_fieldsOf (v : Value) : Dk (fieldsOf v) := by
  unfold fieldsOf
  split
  · refine dk_bind dk_load fun o => ?_
    split
    · exact dk_pure
    · exact dk_uns
  · exact dk_uns
theorem dk_field (v : Value) (i : Nat) : Dk (field v i) := by
  unfold field
  refine dk_bind (dk_fieldsOf v) fun o => ?_
  split
  · exact dk_pure
  · exact dk_uns
theorem dict_mapFields (f : Array Value → Array Value) (o : Obj) : (Obj.mapFields f o).dict = o.dict := by
  unfold Obj.mapFields
  split <;> rfl
theorem dk_setField (v : Value) (i : Nat) (x : Value) : Dk (setField v i x) := by
  unfold setField
  split
  · unfold updateField
    refine dk_bind dk_load fun o => ?_
    split
    · split
      · exact ⟨fun o => dict_mapFields _ o, True.intro⟩
      · exact dk_uns
    · exact dk_uns
  · exact dk_uns
theorem dk_setFlight (e : Value) (f : Option Addr) : Dk (setFlight e f) := by
  unfold setFlight
  refine dk_bind (dk_field _ _) fun tb => ?_
  split
  · exact dk_setField _ _ _
  · exact dk_pure
theorem dk_behind (env : Env) (outer : List Env) : Dk (behindIsImport env outer) := by
  unfold behindIsImport
  split
  · exact dk_pure
  · split
    · exact dk_pure
    · exact dk_bind (dk_field _ _) fun _ => dk_pure
theorem dk_under : Dk underTheClaimsCaller := by
  unfold underTheClaimsCaller
  exact dk_bind dk_stack fun _ => dk_pure
theorem dk_kept (env : Env) (i : Bool) : ∀ outer : List Env, Dk (keptBack env i outer)
  | [] => by
    show Dk (if (env.scope.isGenerator || env.scope.isCoroutine) = true then pure Value.none else do return if ← underTheClaimsCaller then .notImplemented else .none)
    split
    · exact dk_pure
    · exact dk_bind dk_under fun b => dk_pure
  | c :: l => dk_pure
theorem dk_ready : ∀ l : List Env, Dk (readyFrames l)
  | [] => dk_pure
  | env :: outer => by
    unfold readyFrames
    split
    · refine dk_bind dk_load fun o => ?_
      split
      · exact dk_pure
      · exact dk_bind (dk_behind _ _) fun b => dk_bind (dk_kept _ _ _) fun v => dk_bind ⟨fun o => rfl, True.intro⟩ fun _ => dk_ready outer
    · exact dk_uns
theorem dk_frameObject (l : List Env) : Dk (frameObject l) := by
  cases l with
  | nil => exact dk_pure
  | cons env outer => unfold frameObject; exact dk_bind (dk_ready _) fun _ => dk_pure
theorem dk_frameOf (env : Env) : Dk (PySem.frameOf env) := by
  unfold PySem.frameOf frameEnvs
  refine dk_bind (dk_bind dk_stack fun _ => dk_pure) fun l => dk_bind (dk_frameObject _) fun o => ?_
  split
  · exact dk_pure
  · exact dk_uns
theorem dk_place (f : Addr) (b : Bool) : Dk (entryPlaceOf f b) := by
  unfold entryPlaceOf
  refine dk_bind dk_stack fun l => ?_
  split <;> exact dk_pure
theorem dk_newEntry (a b c d e : Value) (l : List Value) : Dk (EntryCells.newEntry a b c d e l) := by
  unfold EntryCells.newEntry newFields
  have last : ∀ dt : Data, Dk (newObjAsIs (.type "traceback") dt) := fun dt => by unfold newObjAsIs; exact fun a => True.intro
  have two : ∀ vs : List Value, Dk (newObj (.type "traceback") (.fields vs.toArray)) := fun vs => by
    show Dk (if vs.toArray.size > sizeLine + 2 then (unsupported "record:memory" >>= fun _ => newObjAsIs (.type "traceback") (.fields vs.toArray)) else newObjAsIs (.type "traceback") (.fields vs.toArray))
    split
    · exact dk_bind dk_uns fun _ => last _
    · exact last _
  exact two _
theorem dk_note (e : Value) (env : Env) : Dk (noteFrame e env) := by
  unfold noteFrame
  split
  · refine dk_bind (dk_field _ _) fun head => ?_
    have last : ∀ f, Dk (do setField e 1 (← EntryCells.newEntry head (← PySem.frameOf env) .none (rawInt f) .none (← entryPlaceOf f (head != .none)))) := fun f =>
      dk_bind (dk_frameOf _) fun a => dk_bind (dk_place _ _) fun b => dk_bind (dk_newEntry _ _ _ _ _ _) fun c => dk_setField _ _ _
    split
    · refine dk_bind (dk_field _ _) fun x => ?_
      split
      · exact dk_pure
      · exact dk_bind (dk_setField _ _ _) fun _ => last _
    · exact last _
  · exact dk_uns
theorem dk_leaving (env : Env) (e : Value) : Dk (leaving env e) := dk_bind (dk_note _ _) fun _ => dk_setFlight _ _
end L2
namespace L2
open PySem PySem.Spec PyProof.Rows
section
variable {P : Program} {w : World} {H H' : Hp} {h h1 h2 : Heap} {a b T : Addr} {o : HO} {l : List Env}
theorem ObjOk.lies (x : ObjOk P w H h a o) : ∃ u, h.get? a = some u := by
  cases o with
  | lst xs => obtain ⟨_, _, _, _, e⟩ := x; exact ⟨_, e⟩
  | tup xs => obtain ⟨_, _, _, _, e, _⟩ := x; exact ⟨_, e⟩
  | dK kvs => obtain ⟨_, _, _, _, o, _, _, e, _⟩ := x; exact ⟨_, e⟩
  | dT kvs => obtain ⟨_, _, _, _, o, _, _, e, _⟩ := x; exact ⟨_, e⟩
  | set S n => obtain ⟨o, _, _, _, e, _⟩ := x; exact ⟨_, e⟩
  | ins C dx fs => obtain ⟨_, _, _, e, _⟩ := x; exact ⟨_, e⟩
  | own y => obtain ⟨_, e⟩ := x; exact ⟨_, e⟩
  | xd fs => obtain ⟨_, ⟨_, _, _, e, _⟩, _⟩ := x; exact ⟨_, e⟩
  | rng lo hi => obtain ⟨_, _, _, e⟩ := x; exact ⟨_, e⟩
  | frz ob u => obtain ⟨e, _⟩ := x; exact ⟨_, e⟩
  | tbl ps => exact ⟨_, (show h.get? a = some _ from x)⟩
  | met f y => exact ⟨_, (show h.get? a = some _ from x)⟩
  | ext φ => obtain ⟨_, ⟨_, e⟩, _⟩ := x; exact ⟨_, e⟩
theorem HOk.gone (x : HOk P w H h) (e : h.get? a = none) : H a = none := by
  cases q : H a with
  | none => rfl
  | some u =>
    obtain ⟨v, z⟩ := (x a u q).lies
    rw [e] at z; cases z
structure Aw (l : List Env) (a T : Addr) (h h' : Heap) : Prop where
  keep : ∀ b o, h.get? b = some o → b ≠ a → b ≠ T → b ∉ frs l → h'.get? b = some o
  slot : ∀ b o, h.get? b = some o → b ∈ frs l → ∃ sl, h'.get? b = some { o with slots := sl }
theorem Un.away (u : Un (frs l) [] H H' h h1) (na : h.get? a = none) (nT : h.get? T = none) (w : Aw l a T h1 h2) : Un (frs l) [] H H' h h2 := by
  have ne : ∀ {b o c}, h.get? b = some o → h.get? c = none → b ≠ c := fun e n z => by rw [z, n] at e; cases e
  refine ⟨fun b o q n hb hx => w.keep b o (u.keep b o q n hb hx) (ne q na) (ne q nT) hb, fun b o q n hb hx => ?_, u.free, fun b o q hx => ?_, u.tups, u.frzs, u.tbls⟩
  · obtain ⟨sl, e⟩ := u.slot b o q n hb hx
    obtain ⟨sl', e'⟩ := w.slot b _ e hb
    exact ⟨sl', e'⟩
  · obtain ⟨o', e⟩ := u.there b o q hx
    by_cases hb : b ∈ frs l
    · obtain ⟨sl, e'⟩ := w.slot b o' e hb
      exact ⟨_, e'⟩
    · exact ⟨o', w.keep b o' e (ne q na) (ne q nT) hb⟩
theorem HOk.away (x : HOk P w H h1) (nf : ∀ b ∈ frs l, H b = none) (na : H a = none) (nT : H T = none) (y : Aw l a T h1 h2) : HOk P w H h2 := fun b u e => by
  have ne : ∀ {b o c}, H b = some o → H c = none → b ≠ c := fun e n z => by rw [z, n] at e; cases e
  refine (x b u e).stay (fun c v hc q => ?_) (fun _ q => q) fun _ _ q => q
  have hs : ∃ o, H c = some o := by
    rcases hc with rfl | hc
    · exact ⟨_, e⟩
    · exact ⟨_, hc⟩
  obtain ⟨o, e'⟩ := hs
  exact y.keep c v q (ne e' na) (ne e' nT) fun hb => by rw [nf c hb] at e'; cases e'
theorem ff_of {base B : Heap} : ∀ {l : List Env}, h.FunFrames base l → (∀ b ∈ frs l, B.get? b = none) → (∀ b o, h.get? b = some o → b ∈ frs l → ∃ sl, h1.get? b = some { o with slots := sl }) → h1.FunFrames B l := by
  intro l
  induction l with
  | nil => intro _ _ _; trivial
  | cons env r ih =>
    intro hl hB hs
    obtain ⟨hk, ⟨L, o, hf, hn, ho, hd⟩, hr⟩ := hl
    have sub : ∀ b ∈ frs r, b ∈ frs (env :: r) := fun b hb => by unfold frs; rw [List.filterMap_cons, hf]; exact List.mem_cons_of_mem _ hb
    have hL : L ∈ frs (env :: r) := by unfold frs; rw [List.filterMap_cons, hf]; exact List.mem_cons_self
    obtain ⟨sl, e⟩ := hs L o ho hL
    exact ⟨hk, ⟨L, _, hf, hB L hL, e, hd⟩, ih hr (fun b hb => hB b (sub b hb)) fun b o q hb => hs b o q (sub b hb)⟩
structure Trc (h h' : Heap) (H : Hp) (a : Addr) (cls : Value) (od : Option Addr) : Prop where
  new : h.get? a = none
  nH : H a = none
  ex : ∃ oe vs a0 T oT ts, h'.get? a = some oe ∧ oe.cls = cls ∧ vs[0]? = some a0 ∧ oe.data = Data.fields vs ∧ vs[1]? = some (Value.ref T) ∧ T ≠ a ∧ h'.get? T = some oT ∧ oT.data = Data.fields ts ∧ ts[3]? = some Value.none ∧ h.get? T = none ∧ H T = none ∧ oe.dict = od
def Fly (P : Program) (w : World) : CXT := fun outer H s E e s' =>
  ∃ a cls od H', e = Value.ref a ∧ 0 < s'.toks ∧ s'.os = s.os ∧ AllBare s'.gens ∧ Un (frs outer) [] H H' s.heap s'.heap ∧ HOk P w H' s'.heap ∧ Trc s.heap s'.heap H' a cls od ∧ E cls od H'
abbrev hidX (h : Heap) (a T : Addr) (l : List Env) : Heap := PySem.W.hideAll h (a :: T :: frs l)
theorem hidX_stays (h : Heap) (a T : Addr) (l : List Env) : (hidX h a T l).StaysIn h := fun b o e => PySem.W.of_hideAll _ e
theorem hidX_a : (hidX h a T l).get? a = none := PySem.W.hideAll_none _ (by simp)
theorem hidX_T : (hidX h a T l).get? T = none := PySem.W.hideAll_none _ (by simp)
theorem hidX_fr : ∀ b ∈ frs l, (hidX h a T l).get? b = none := fun b hb => PySem.W.hideAll_none _ (by simp [hb])
theorem aw_of (hs : (hidX h a T l).StaysIn h2) (hf : ∀ b o, h.get? b = some o → (∀ vs : Array Value, o.data ≠ Data.fields vs) → ∃ sl, h2.get? b = some { cls := o.cls, dict := o.dict, data := o.data, slots := sl })
    {base : Heap} (ff : h.FunFrames base l) : Aw l a T h h2 := by
  refine ⟨fun b o e n1 n2 n3 => hs b o (PySem.W.hideAll_get _ e (by simp [n1, n2, n3])), fun b o e hb => ?_⟩
  obtain ⟨_, o', e', d⟩ := ff.mem hb
  rw [e] at e'; cases e'
  exact hf b _ e d
theorem trc_of {cls a0 : Value} {h0 base : Heap} (new : h0.get? a = none) (nH : H a = none) (nT0 : h0.get? T = none) (nT : H T = none) (hu : ∀ b o, h0.get? b = some o → ∃ o', h.get? b = some o') (hok : HOk P w H h)
    (ff : h2.FunFrames base l) (t : h2.TracedW (hidX h a T l) a cls a0) {od : Option Addr} (hd : ∀ o, h2.get? a = some o → o.dict = od) : Trc h0 h2 H a cls od := by
  obtain ⟨oe, vs, T', oT, ts, e1, ⟨e2, e3⟩, e4, e5, e6, e7, e8, e9, e10⟩ := t
  have q : h0.get? T' = none ∧ H T' = none := by
    by_cases z : T' = T
    · rw [z]; exact ⟨nT0, nT⟩
    · have hb : T' ∉ frs l := fun hb => by
        obtain ⟨_, o, eo, d⟩ := ff.mem hb
        rw [e8] at eo; cases eo
        exact d _ e9
      have hh : h.get? T' = none := by
        cases q : h.get? T' with
        | none => rfl
        | some u =>
          have := PySem.W.hideAll_get (a :: T :: frs l) q (by simp [z, e7, hb])
          rw [e6] at this; cases this
      refine ⟨?_, hok.gone hh⟩
      cases q : h0.get? T' with
      | none => rfl
      | some u =>
        obtain ⟨_, r⟩ := hu _ _ q
        rw [hh] at r; cases r
  exact ⟨new, nH, oe, vs, a0, T', oT, ts, e1, e2, e3, e4, e5, e7, e8, e9, e10, q.1, q.2, hd _ e1⟩
end
section
variable {X : Cx} {pins : List (Addr × Obj)} {σ : St} {H H' : Hp} {s s' : Shared} {a : Addr} {cls : Value} {E : XK}
theorem stk_none (I : Inv X pins σ H s) {h' : Heap} (u : Un (frs X.stack) [] H H' s.heap h') : ∀ b ∈ frs X.stack, H' b = none := fun b hb => by
  obtain ⟨_, o, e, _⟩ := I.stack.mem hb
  exact u.free b o e (I.stkFree b hb) (by simp)
theorem stk_ff (I : Inv X pins σ H s) {h' B : Heap} (u : Un (frs X.stack) [] H H' s.heap h') (hB : ∀ b ∈ frs X.stack, B.get? b = none) : h'.FunFrames B X.stack :=
  ff_of I.stack hB fun b o e hb => u.slot b o e (I.stkFree b hb) hb (by simp)
theorem Inv.landed {h2 : Heap} {T : Addr} {g : Array GenState} {d : Drawn} {t : Nat} (I : Inv X pins σ H s) (u : Un (frs X.stack) [] H H' s.heap s'.heap) (hok : HOk X.prog X.w H' s'.heap) (hg : AllBare g) (ht : 0 < t)
    (na : s.heap.get? a = none) (nT : s.heap.get? T = none) (ha : H' a = none) (hT : H' T = none) (w : Aw X.stack a T s'.heap h2) : Inv X pins σ H' { s with heap := h2, gens := g, drawn := d, toks := t } :=
  I.call (ch := []) (u.away na nT w) (hok.away (stk_none I u) ha hT w) hg (fun b z => absurd z (by simp)) ht
theorem fly_firstX {Q' : Value → Shared → Prop} {od : Option Addr} {t : Addr} (hst : X.stack = X.env :: X.outer) (hex : X.ex = []) (hf : X.env.frame = some X.env.locals) (I : Inv X pins σ H s)
    (u : Un (frs X.stack) [] H H' s.heap s'.heap) (hok : HOk X.prog X.w H' s'.heap) (tk : 0 < s'.toks) (os : s'.os = s.os) (bare : AllBare s'.gens) (new : s.heap.get? a = none) (na : H' a = none)
    (e1 : s'.heap.get? a = some { cls := cls, dict := od, data := .fields #[.ref t, .none, .none, .none, .bool false, .none] }) (hE : E cls od H') :
    wpAny (model X.prog X.w) X.A (leaving X.env (.ref a)) (fun _ s'' => Fly X.prog X.w X.outer X.H₀ X.s₀ E (.ref a) s'') Q' s' := by
  have ff : s'.heap.FunFrames (hidX s'.heap a a X.stack) X.stack := stk_ff I u hidX_fr
  refine wpAny_mono (dk_any (dk_leaving _ _) (HasD.of e1 rfl) (wpAny_leaving_firstW (Q := fun _ s'' => ∃ h2, s'' = { s' with heap := h2 } ∧ Heap.LeftW (hidX s'.heap a a X.stack) (X.env :: X.outer) a cls (.ref t) s'.heap h2) (base := hidX s'.heap a a X.stack) (outer := X.outer) (L := X.env.locals) (a0 := Value.ref t) (by rw [I.ok.frames, hst]) (by rw [← hst]; exact ff) hf e1 (hidX_stays _ _ _ _) hidX_a rfl rfl rfl fun h2 L => ⟨h2, rfl, L⟩)) (fun _ s2 h => ?_) fun _ _ h => h
  obtain ⟨⟨h2, rfl, L⟩, hD⟩ := h
  rw [← hst] at L
  obtain ⟨L1, L2, L3, L4⟩ := L
  have aw : Aw X.stack a a s'.heap h2 := aw_of L1 L4 ff
  have J : Inv X pins σ H' { s with heap := h2, gens := s'.gens, drawn := s'.drawn, toks := s'.toks } := I.landed u hok bare tk new new na na aw
  have hs0 : ∀ b o, X.s₀.heap.get? b = some o → ∃ o', s.heap.get? b = some o' := fun b o e => I.base.there b o e (by rw [hex]; simp)
  have new0 : X.s₀.heap.get? a = none := by
    cases q : X.s₀.heap.get? a with
    | none => rfl
    | some o => obtain ⟨_, r⟩ := hs0 a o q; rw [new] at r; cases r
  refine ⟨a, cls, od, H', rfl, tk, os.trans I.os, bare, ?_, J.hok, trc_of new0 na new0 na (fun b o e => ?_) hok L2 L3 (fun o g => hD.at g), hE⟩
  · have := J.base; rw [hex] at this; exact this
  · obtain ⟨o', r⟩ := hs0 b o e
    exact u.there b o' r (by simp)
end
section
variable {P : Program} {w : World} {K : PySem.W.Frag} {mg : Str → Option Value} {base : Heap} {N : List Str} {qual : Str} {scope : Scope} {f : Addr} {cd : Value} {A : Around} {outer : List Env} {s : Shared} {H : Hp} {E : XK}
def ThrowsX (X : Cx) (E : XK) : Prop := ∀ (pins : List (Addr × Obj)) (σ : St) (H H' : Hp) (s s' : Shared) (a t : Addr) (cls : Value) (od : Option Addr), Inv X pins σ H s → Un (frs X.stack) [] H H' s.heap s'.heap → HOk X.prog X.w H' s'.heap → 0 < s'.toks → s'.os = s.os → AllBare s'.gens → s.heap.get? a = none → H' a = none →
  s'.heap.get? a = some { cls := cls, dict := od, data := .fields #[.ref t, .none, .none, .none, .bool false, .none] } → E cls od H' → X.xe (.ref a) s'
theorem throwsX_cx : ThrowsX (cxOf (Fly P w) P w K mg base N qual scope f cd A outer s H E) E := fun pins σ H1 H2 s1 s2 a t cls od I u hok tk os bare new na e1 hE =>
  fly_firstX (X := cxOf (Fly P w) P w K mg base N qual scope f cd A outer s H E) rfl rfl rfl I u hok tk os bare new na e1 hE
theorem Fun.okX {x : Str} {st : Stmt} {fd : FuncData} {ps : List Str} {k : Nat} {sp : Sp} (F : Fun K x qual st f fd) (S : FnScope N ps (defScope st)) (len : ∀ vs H Q E, sp vs H Q E → vs.length = ps.length)
    (hbody : ∀ (cdv : Value) (A : Around) (outer : List Env) (s : Shared) (H : Hp) (vs : List V) (Q : VK) (E : XK), Room k (A.deeper (envOfC qual (defScope st) s.heap.objs.size f cdv)) → sp vs H Q E →
      ∃ t, PSs (cxOf (Fly P w) P w K mg base N qual (defScope st) f cdv A outer s H E) (defBody st) t ∧ t { nx := fun _ H' => Q .non H', rt := Q } (start N vs) H) : FnOk P w K mg base (Fly P w) (k + 1) f fd ps sp := by
  obtain ⟨oc, od, kV, doc, pm, an, cdv, ct, osl, rfl, lk, hcd⟩ := F.ex
  exact fn_of lk hcd S len fun A outer s H vs Q E hr hsp => hbody cdv A outer s H vs Q E hr hsp
end
end L2
namespace L2
open PySem PySem.Spec PyProof.Rows
abbrev bmV : List Value := [Value.type "ValueError", Value.type "Exception", Value.type "BaseException", Value.type "object"]
section
variable {X : Cx} {C : Addr} {x : Str} {np cpos pos : Pos} {e₀ : Expr} {es : List Expr} {t : TA} {E : XK}
end
abbrev Cx.held (X : Cx) (a : Addr) (E : Value → Shared → Prop) : Cx := { X with A := X.A.mark (some (.ref a)), calm := false, xe := E }
theorem Cx.Ok.held {X : Cx} (ok : X.Ok) (a : Addr) (E : Value → Shared → Prop) : (X.held a E).Ok :=
  ⟨ok.mod, ok.kind, ok.glob, ok.blt, ok.above, ok.inj, ok.has, ok.cab, (fun z => Bool.noConfusion z), ok.frames, ok.stk, ok.exf, ok.bs, ok.bsz, ok.noex, ok.exfs, ok.funs, ok.frf⟩
section
variable {X : Cx} {pins : List (Addr × Obj)} {σ : St} {H : Hp} {s : Shared} {E : Value → Shared → Prop} {a : Addr}
theorem Inv.held (I : Inv X pins σ H s) (a : Addr) (E : Value → Shared → Prop) : Inv (X.held a E) pins σ H s := ⟨I.ok.held a E, I.os, I.bare, I.base, I.loc, I.cell, I.free, I.freeC, I.pin, I.hok, I.len, I.tk⟩
theorem Inv.unheld (ok : X.Ok) (I : Inv (X.held a E) pins σ H s) : Inv X pins σ H s := ⟨ok, I.os, I.bare, I.base, I.loc, I.cell, I.free, I.freeC, I.pin, I.hok, I.len, I.tk⟩
theorem SP.unheld {D : Ends} {f : Flow} {s' : Shared} (ok : X.Ok) (h : SP (X.held a E) pins D f s') : SP X pins D f s' := by
  cases f with
  | next => obtain ⟨σ', H', I, q⟩ := h; exact ⟨σ', H', I.unheld ok, q⟩
  | brk => obtain ⟨σ', H', I, q⟩ := h; exact ⟨σ', H', I.unheld ok, q⟩
  | cont => obtain ⟨σ', H', I, q⟩ := h; exact ⟨σ', H', I.unheld ok, q⟩
  | ret u => obtain ⟨v, σ', H', I, r, q⟩ := h; exact ⟨v, σ', H', I.unheld ok, r, q⟩
end
def PX (X : Cx) (e : Expr) (t : XK → TE) : Prop :=
  ∀ (pins : List (Addr × Obj)) (s : Shared) (σ : St) (H : Hp) (Q : VK) (E : XK) (xe' : Value → Shared → Prop), Inv X pins σ H s → (∀ H1 s1 e s2, Inv X pins σ H1 s1 → Fly X.prog X.w X.stack H1 s1 E e s2 → xe' e s2) → t E σ H Q →
    wpAny (model X.prog X.w) X.A (eval e X.env) (EP X pins σ Q) xe' s
section
variable {X : Cx} {k : Nat} {f C D : Addr} {fd : FuncData} {ps : List Str} {sp : Sp} {dvs : List V} {ds : List Value} {x : Str} {p pos cpos : Pos} {e : Expr} {es : List Expr} {t : TA}
theorem px_call (F : FnOk X.prog X.w X.K X.mg X.base (Fly X.prog X.w) k f fd ps sp) (hr : Room k X.A) (hg : Gl X x) (hm : X.mg x = some (.ref f)) (hk : PySem.W.keepIn X.K (.ref f) = true) (hb : Binds X.K fd ps ds) (hd : Vals dvs ds)
    (ha : ∀ xe', PA (X.wish xe') (e :: es) t) (hdb : (x == ("__debug__" : Str)) = false := by decide) (he : starEach (e :: es) X.env = (false, eval e X.env) :: starEach es X.env := by rfl) (hpl : (backTo pos (starEach es X.env)).any (·.1) = false := by rfl) :
    PX X (.Call (.Name x p) (e :: es) [] pos) (fun E => tCall sp dvs E t) := by
  intro pins s σ H Q E xe' I hx h
  refine wpAny_Call_Name_kw (ld_glob I hg hm ?_ hdb)
  refine PySem.W.callWith_K (h₀ := X.base) I.ok.mod.kin hk (thn (ha xe' pos pins s σ H _ (I.wish xe') h) fun us s1 ⟨vs, H1, I1, r, q⟩ => ⟨I1.kIn, ?_⟩) he hpl
  have J := I1.unwish
  have r2 : Vals (vs ++ dvs) (us ++ ds) := r.append hd
  have hl : (us ++ ds).length = ps.length := by rw [← r2.length]; exact F.len _ _ _ _ q
  refine wpAny_call (codeAny_mono (F.run X.A X.stack s1 H1 ⟨us, []⟩ (us ++ ds) (vs ++ dvs) Q E hr J.env0 (hb s1 us J.kIn hl) r2 q) fun r s' hq => ?_)
  cases r with
  | error e => exact hx H1 s1 e s' J hq
  | ok fl =>
    cases fl with
    | ret u => exact J.after hq
    | next => exact False.elim hq
    | brk => exact False.elim hq
    | cont => exact False.elim hq
theorem lands {pins : List (Addr × Obj)} {σ : St} {H : Hp} {s s' : Shared} {E : XK} {e : Value} {hs : List ExceptHandler} {Q : Flow → Shared → Prop} {E' : Value → Shared → Prop} (hst : X.stack = X.env :: X.outer) (hf : X.env.frame = some X.env.locals)
    (I : Inv X pins σ H s) (F : Fly X.prog X.w X.stack H s E e s')
    (k : ∀ a cls od H' s2, e = .ref a → s.heap.get? a = none → E cls od H' → Inv X pins σ H' s2 → (∃ oe, s2.heap.get? a = some oe ∧ oe.cls = cls) →
      (∀ (A : Around) (E2 : Value → Shared → Prop) (Q2 : Unit → Shared → Prop), (∀ s3, Inv X pins σ H' s3 → (∃ oe, s3.heap.get? a = some oe ∧ oe.cls = cls ∧ oe.dict = od ∧ ∃ vs, oe.data = Data.fields vs) → H' a = none → Q2 () s3) → wpAny (model X.prog X.w) A (setFlight (.ref a) none) Q2 E2 s2) →
      wpAny (model X.prog X.w) X.A (handleBy (.ref a) X.env hs) Q E' s2) :
    wpAny (model X.prog X.w) X.A (noteFrame e X.env) (fun _ s₂ => wpAny (model X.prog X.w) X.A (setFlight e none) (fun _ s₃ => wpAny (model X.prog X.w) X.A (handleBy e X.env hs) Q E' s₃) E' s₂) E' s' := by
  obtain ⟨a, cls, od, H', rfl, tk, os, bare, u, hok, tr, hE⟩ := F
  obtain ⟨oe, vs, a0, T, oT, ts, e1, e2, e3, e4, e5, e6, e7, e8, e9, e10, e11, e12⟩ := tr.ex
  have ff : s'.heap.FunFrames (hidX s'.heap a T X.stack) X.stack := stk_ff I u hidX_fr
  have W : (hidX s'.heap a T X.stack).FlyingW X.stack a cls a0 s'.heap := ⟨hidX_stays _ _ _ _, hidX_a, ff, oe, vs, T, oT, ts, e1, ⟨e2, e3⟩, e4, e5, hidX_T, e6, e7, e8, e9⟩
  have inv : ∀ {h2 : Heap}, (hidX s'.heap a T X.stack).FlyingW X.stack a cls a0 h2 → s'.heap.UpToSlots h2 → Inv X pins σ H' { s' with heap := h2 } := fun {h2} W2 U2 => by
    have aw : Aw X.stack a T s'.heap h2 := aw_of W2.1 U2 ff
    have J := I.landed (g := s'.gens) (d := s'.drawn) (t := s'.toks) u hok bare tk tr.new e10 tr.nH e11 aw
    obtain ⟨hh, g, d, t, os'⟩ := s'
    obtain rfl : os' = s.os := os
    exact J
  refine wpAny_mono (dk_any (dk_note _ _) (HasD.of e1 e12) (wpAny_looks_onW (Q := fun _ s2 => ∃ h1, s2 = { s' with heap := h1 } ∧ Heap.HeldW (hidX s'.heap a T X.stack) (X.env :: X.outer) a cls a0 X.env.locals h1 ∧ s'.heap.UpToSlots h1) (base := hidX s'.heap a T X.stack) (outer := X.outer) (by rw [I.ok.frames, hst]) hf (by rw [← hst]; exact W) fun h1 W1 U1 => ⟨h1, rfl, W1, U1⟩)) (fun _ sA h => ?_) fun _ _ h => h
  obtain ⟨⟨h1, rfl, W1, U1⟩, D1⟩ := h
  refine wpAny_mono (dk_any (dk_setFlight _ _) D1 (wpAny_landsW (s := { s' with heap := h1 }) (Q := fun _ s2 => ∃ h2, s2 = { s' with heap := h2 } ∧ Heap.FlyingW (hidX s'.heap a T X.stack) (X.env :: X.outer) a cls a0 h2 ∧ h1.UpToSlots h2) W1 fun h2 W2 U2 => ⟨h2, rfl, W2, U2⟩)) (fun _ sB h => ?_) fun _ _ h => h
  obtain ⟨⟨h2, rfl, W2, U2⟩, D2⟩ := h
  rw [← hst] at W2
  have U12 := U1.trans U2
  refine k a cls od H' _ rfl tr.new hE (inv W2 U12) ?_ fun A E2 Q2 hQ => wpAny_mono (dk_any (dk_setFlight _ _) D2 (lands_againW (s := { s' with heap := h2 }) (Q := fun _ s3 => ∃ h3, s3 = { s' with heap := h3 } ∧ Heap.FlyingW (hidX s'.heap a T X.stack) X.stack a cls a0 h3 ∧ h2.UpToSlots h3) W2 fun h3 W3 U3 => ⟨h3, rfl, W3, U3⟩)) (fun _ sC h => ?_) fun _ _ h => h
  · obtain ⟨oe', vs', T', oT', ts', f1, ⟨f2, f3⟩, _⟩ := W2.2.2.2
    exact ⟨oe', f1, f2⟩
  · obtain ⟨⟨h3, rfl, W3, U3⟩, D3⟩ := h
    refine hQ _ (inv W3 (U12.trans U3)) ?_ tr.nH
    obtain ⟨oe', vs', T', oT', ts', f1, ⟨f2, f3⟩, f4, _⟩ := W3.2.2.2
    exact ⟨oe', f1, f2, D3.at f1, vs', f4⟩
end
end L2
namespace L2
open PySem PySem.Spec PyProof.Rows
structure ExcK (K : PySem.W.Frag) (C : Addr) : Prop where
  ga : PySem.W.findIn K (.ref C) "__getattribute__" = some (some (.builtin "BaseException.__getattribute__"))
  gn : PySem.W.findIn K (.ref C) "__getattr__" = some none
  cl : PySem.W.findIn K (.ref C) "__class__" = some (some (.builtin "object.__class__"))
  bx : PySem.W.subIn K (.ref C) (.type "BaseException") = some true
  ob : PySem.W.subIn K (.ref C) (.type "object") = some true
section
variable {prog : Program} {w : World} {A : Around} {E : Value → Shared → Prop} {h : Heap} {g : Array GenState} {d : Drawn} {t : Nat} {os : OsState} {a C : Addr} {o : Obj} {K : PySem.W.Frag}
theorem xcls_check {M : Model} {nameV : Value} {Q : Unit → Shared → Prop} (X : K.In h) (Z : ExcK K C) (hx : h.get? a = some o) (hc : o.cls = .ref C) (hq : Q () ⟨h, g, d, t, os⟩) :
    wpAny M A (checkBuiltinCall "BaseException.__getattribute__" ⟨[.ref a, nameV], []⟩) Q E ⟨h, g, d, t, os⟩ := by
  have hk : builtinKind "BaseException.__getattribute__" = some .slot := by decide +kernel
  have hs : splitId "BaseException.__getattribute__" = some ("BaseException", "__getattribute__") := by decide +kernel
  have L := PySem.W.looks_subIn (M := M) X Z.bx
  have ha := F.args_bexc_ga (.ref a) nameV
  simp only [checkBuiltinCall, hk, hs]
  refine wpAny_bind ?_
  · unfold isInstance
    repeat (first | (with_reducible refine wpAny_loadPart_at hx ?_; rw [hc]) | with_reducible refine L.at ?_ | wp_step)
    exact hq
end
section
variable {X : Cx} {pins : List (Addr × Obj)} {σ : St} {H : Hp} {s : Shared}
theorem gone_ok {M : Model} {A : Around} {E : Value → Shared → Prop} {i : Nat} {n : Str} {pos : Pos} {Q : Unit → Shared → Prop} (I : Inv X pins σ H s) (hN : X.N.Nodup) (hi : X.N[i]? = some n) (hk : X.env.scope.names.lookup n = some .local)
    (h : ∀ s', Inv X pins (σ.set i none) H s' → Q () s') : wpAny M A (do bindName X.env n .none; unbindBehindTheSuite X.env n pos) Q E s := by
  obtain ⟨m, hn, hl⟩ := id I.loc
  have hp : (X.env.scope.kind == .class || (X.env.scope.kind == .module && X.env.locals != X.env.globals)) = false := by rw [I.ok.kind]; rfl
  refine wpAny_nameGoes_keeps hk hn hp fun h' v hn' hs => h _ ?_
  have other : ∀ {b : Addr} {o : Obj}, b ≠ X.env.locals → s.heap.get? b = some o → h'.get? b = some o := fun nb e => (hs.2 _ nb).trans e
  have low : ∀ {b : Addr} {o : Obj}, X.s₀.heap.get? b = some o → b ≠ X.env.locals := fun e => Nat.ne_of_lt (Nat.lt_of_lt_of_le (Heap.lt_size e) I.ok.above)
  have trk : ∀ {b : Addr} {u : HO}, H b = some u → b ≠ X.env.locals := fun e z => by rw [z, I.free] at e; cases e
  refine ⟨I.ok, I.os, I.bare, ⟨fun b o e z hb hx => other (low e) (I.base.keep b o e z hb hx), fun b o e z hb hx => ?_, I.base.free, fun b o e hx => ?_, I.base.tups, I.base.frzs, I.base.tbls⟩, ⟨_, hn', fun j y w e1 e2 e3 => ?_⟩, fun y c e => ?_, I.free, I.freeC, fun p hp => ?_, fun b u e => ?_, ?_, Nat.succ_pos _⟩
  · obtain ⟨sl, q⟩ := I.base.slot b o e z hb hx
    exact ⟨sl, other (low e) q⟩
  · obtain ⟨o', q⟩ := I.base.there b o e hx
    exact ⟨o', other (low e) q⟩
  · by_cases hj : j = i
    · subst hj
      have := List.getElem?_set_self (l := σ) (a := (none : Option V)) (i := j) (by rw [I.len]; exact (List.getElem?_eq_some_iff.mp hi).1)
      rw [this] at e2; cases e2
    · rw [List.getElem?_set_ne (Ne.symm hj)] at e2
      obtain ⟨u, r, q⟩ := hl j y w e1 e2 e3
      refine ⟨u, r, ?_⟩
      rcases q with ⟨k, e⟩ | ⟨k, c, e, z⟩
      · have : y ≠ n := fun e => hj (nodup_ix hN e1 (e ▸ hi))
        exact .inl ⟨k, by simp [this, e]⟩
      · exact .inr ⟨k, c, e, z.sameBut hs (I.cne y c e)⟩
  · obtain ⟨w, z⟩ := I.cell y c e
    exact ⟨w, z.sameBut hs (I.cne y c e)⟩
  · obtain ⟨e, z, ne, nf, d⟩ := I.pin p hp
    exact ⟨other ne e, z, ne, nf, d⟩
  · refine (I.hok b u e).stay (fun c w hc q => other ?_ q) (fun _ q => q) fun _ _ q => q
    rcases hc with rfl | hc
    · exact trk e
    · exact trk hc
  · rw [List.length_set]; exact I.len
end
end L2
namespace L2
open PySem PySem.Spec PyProof.Rows
section
variable {X : Cx} {pins : List (Addr × Obj)} {σ : St} {H H' : Hp} {s s2 : Shared} {a C : Addr}
theorem Inv.track {o : HO} (I1 : Inv X pins σ H s) (na : s.heap.get? a = none) (I : Inv X pins σ H' s2) (ha : H' a = none) (hex : X.ex = []) (new : ObjOk X.prog X.w (upd H' a o) s2.heap a o) : Inv X pins σ (upd H' a o) s2 := by
  have ne : ∀ {b : Addr} {u : Obj}, s.heap.get? b = some u → b ≠ a := fun e z => by rw [z, na] at e; cases e
  have nH : ∀ {b : Addr} {u : HO}, H' b = some u → b ≠ a := fun e z => by rw [z, ha] at e; cases e
  have n0 : ∀ {b : Addr} {u : Obj}, X.s₀.heap.get? b = some u → b ≠ a := fun {b u} e => by
    obtain ⟨u', q⟩ := I1.base.there b u e (by rw [hex]; simp)
    exact ne q
  refine ⟨I.ok, I.os, I.bare, ⟨I.base.keep, I.base.slot, fun b u e z hx => ?_, I.base.there, fun b xs e => ?_, fun b u xs e => ?_, fun b ps e => ?_⟩, I.loc, I.cell, ?_, fun y c e => ?_, fun p hp => ?_, fun b u e => ?_, I.len, I.tk⟩
  · rw [upd_ne (n0 e)]; exact I.base.free b u e z hx
  · have := I.base.tups b xs e; rw [upd_ne (nH this)]; exact this
  · have := I.base.frzs b u xs e; rw [upd_ne (nH this)]; exact this
  · obtain ⟨m, q⟩ := I.base.tbls b ps e
    exact ⟨m, by rw [upd_ne (nH q)]; exact q⟩
  · obtain ⟨m, ⟨u, _, _, q, _⟩, _⟩ := I1.loc
    rw [upd_ne (ne q)]; exact I.free
  · obtain ⟨v, u, q, _⟩ := I1.cell y c e
    rw [upd_ne (ne q)]; exact I.freeC y c e
  · obtain ⟨e, z, n1, nf, d⟩ := I.pin p hp
    exact ⟨e, by rw [upd_ne (ne (I1.pin p hp).1)]; exact z, n1, nf, d⟩
  · by_cases hb : b = a
    · subst hb; rw [upd_same] at e; cases e; exact new
    · rw [upd_ne hb] at e
      exact (I.hok b u e).stay (fun c v _ q => q) (fun c q => by rw [upd_ne (nH q)]; exact q) fun c xs q => by rw [upd_ne (nH q)]; exact q
end
section
variable {X : Cx} {C D : Addr} {pos : Pos} {e : Expr}
end
end L2
namespace L2
open PySem PySem.Spec PyProof.Rows
structure ClsK (K : PySem.W.Frag) (D : Addr) : Prop where
  c : PySem.W.isClsIn K D = true
  t : PySem.W.typeIn K (.ref D) = some (.type "type")
section
variable {K : PySem.W.Frag} {C D a : Addr} {b : Bool}
end
section
variable {K : PySem.W.Frag} {H : Hp} {Q : VK} {a C D p : Addr} {b : Bool}
end
end L2
namespace L2
open PySem PySem.Spec PyProof.Rows
theorem ClsK.obj {K : PySem.W.Frag} {C : Addr} {h : Heap} (c : ClsK K C) (X : K.In h) : ∃ o, h.get? C = some o ∧ o.cls = .type "type" := by
  have z : (PySem.W.clsIn K C).isSome = true := c.c
  have t := c.t
  unfold PySem.W.clsIn at z
  split at z
  next o1 o2 cd o3 ho =>
    refine ⟨_, X _ _ ho, ?_⟩
    simpa [PySem.W.typeIn, ho] using t
  next => cases z
section
variable {M : Model} {A : Around} {E : Value → Shared → Prop} {env : Env} {C : Addr} {K : PySem.W.Frag}
theorem raise_obj {s : Shared} {x : Sem Value} {Q : Flow → Shared → Prop} (hb : PySem.W.subIn K (.ref C) (.type "BaseException") = some true) (hc : ClsK K C) (hh : A.handled = none)
    (h : wpAny M A x (fun v s₁ => ∃ e dx t, v = .ref e ∧ K.In s₁.heap ∧ s₁.heap.get? e = some { cls := .ref C, dict := dx, data := .fields #[t, .none, .none, .none, .bool false, .none] } ∧ E (.ref e) s₁) E s) :
    wpAny M A (raiseStmt env (some x) none) Q E s := by
  unfold raiseStmt
  refine wpAny_bind (wpAny_mono h (fun v s₁ h₁ => ?_) fun _ _ x => x)
  obtain ⟨e, dx, t, rfl, X, he, hE⟩ := h₁
  obtain ⟨hp, g, d, tk, os⟩ := s₁
  have L := PySem.W.looks_subIn (M := M) X hb
  obtain ⟨oC, hC, hCc⟩ := hc.obj X
  repeat (first | with_reducible refine wpAny_loadPart_at he ?_ | (with_reducible refine wpAny_loadPart_at hC ?_; rw [hCc]) | with_reducible refine L.at ?_ | wp_step)
  exact wpAny_raiseNew_none hh hE
end
section
variable {prog : Program} {w : World} {A : Around} {E : Value → Shared → Prop} {h : Heap} {g : Array GenState} {d : Drawn} {t : Nat} {os : OsState}
variable {nm q : Str} {C N : Addr} {bs bm bmB : List Value} {hdct : Bool} {sn : List Str} {sub : List Value} {ab : Bool} {col : Option Bool} {dd : Option Addr} {k0 k1 k2 k3 k5 : Option Value} {B newId initId : String} {K : PySem.W.Frag}
theorem xmade (F : ExcBaseFacts B newId initId bmB) (T : OwnTail h bmB bm) (X : K.In h) {rest : List Value} {fI : Addr} {Q : Fin → Shared → Prop} (hC : h.get? C = some (excClassObj nm q C N bs bm hdct sn sub ab col dd k0 k1 k2 k3 k5 newId))
    (hi : PySem.W.findIn K (.ref C) "__init__" = some (some (.ref fI))) (hf : PySem.W.typeIn K (.ref fI) = some (.type "function"))
    (hq : ∀ h' e, h.objs.size ≤ e → Heap.MadeExcOf h h' e (.ref C) rest → wpAny (model prog w) A (call (.ref fI) (.ref e :: rest)) (fun r s' => r = .none ∧ Q (.done (.ret (.ref e))) s') E ⟨h', g, d, t, os⟩) (hz : rest.length ≤ sizeLine) :
    wpAny (model prog w) A (Builtin.«type.__call__» ⟨.ref C :: rest, []⟩) Q E ⟨h, g, d, t, os⟩ := by
  repeat (first | with_reducible refine wpAny_loadPart_at hC ?_ | with_reducible refine wpAny_madeBy_exc hC ?_ | wp_step)
  refine codeAny_call_builtin_code (Code.quiet_builtin _ F.quiet) (wpAny_check_new_subT F T hC ?_)
  refine codeAny_exc_new_subT F T hC ?_ hz
  show wpAny _ _ _ _ _ _
  have keep : ∀ b o, h.get? b = some o → ((h.push { cls := .type "tuple", data := .seq rest.toArray }).push { cls := .ref C, data := .fields #[.ref h.objs.size, .none, .none, .none, .bool false, .none] }).get? b = some o := fun b o e => Heap.get?_push_of_some _ (Heap.get?_push_of_some _ e)
  have here : ((h.push { cls := .type "tuple", data := .seq rest.toArray }).push { cls := .ref C, data := .fields #[.ref h.objs.size, .none, .none, .none, .bool false, .none] }).get? (h.objs.size + 1) = some { cls := .ref C, data := .fields #[.ref h.objs.size, .none, .none, .none, .bool false, .none] } := by heap_get
  have own : (Value.ref C :: bm).contains (.ref C) = true := by simp
  have X1 := X.keeps keep
  have hC1 := keep _ _ hC
  unfold isInstance
  repeat (first | with_reducible refine wpAny_loadPart_at here ?_ | (with_reducible refine wpAny_isSubtype_exc hC1 ?_; rw [own]) | wp_step)
  show wpAny _ _ (typeLookup (.ref C) _) _ _ _
  refine (PySem.W.looks_findIn X1 hi).at ?_
  refine wpAny_holding (wpAny_bind ?_)
  unfold bindSpecial
  refine wpAny_bind ((PySem.W.looks_typeIn X1 hf).at ?_)
  rw [if_pos (by decide)]
  refine wpAny_pure (wpAny_bind (wpAny_mono (hq _ (h.objs.size + 1) (Nat.le_succ _) ⟨keep, Heap.get?_none_of_le (Nat.le_succ _), h.objs.size, here, Heap.get?_none_of_le (Nat.le_refl _), ?_⟩) (fun r s' hr => ?_) fun _ _ x => x))
  · exact Heap.get?_push_of_some _ (Heap.get?_push_at rfl rfl)
  · obtain ⟨rfl, hQ⟩ := hr
    wp_walk
    exact hQ
theorem xcall (F : ExcBaseFacts B newId initId bmB) (T : OwnTail h bmB bm) (X : K.In h) {rest : List Value} {fI : Addr} {Q : Value → Shared → Prop} (hC : h.get? C = some (excClassObj nm q C N bs bm hdct sn sub ab col dd k0 k1 k2 k3 k5 newId))
    (hi : PySem.W.findIn K (.ref C) "__init__" = some (some (.ref fI))) (hf : PySem.W.typeIn K (.ref fI) = some (.type "function"))
    (hq : ∀ h' e, h.objs.size ≤ e → Heap.MadeExcOf h h' e (.ref C) rest → wpAny (model prog w) (A.under (.builtin "type.__call__" ⟨.ref C :: rest, []⟩)) (call (.ref fI) (.ref e :: rest)) (fun r s' => r = .none ∧ Q (.ref e) s') E ⟨h', g, d, t, os⟩) (hz : rest.length ≤ sizeLine) :
    wpAny (model prog w) A (call (.ref C) rest) Q E ⟨h, g, d, t, os⟩ := by
  have f1 := tc_lookup
  have f2 := tc_bind (.ref C)
  have hT : (⟨h, g, d, t, os⟩ : Shared).TypeIs (.ref C) "type" := ⟨_, hC, rfl⟩
  refine wpAny_call (codeAny_of_tree ?_)
  show wpAny _ _ (callAny (.ref C) _) _ _ _
  repeat (any_goals (first | assumption | with_reducible refine wpAny_loadPart_at hC ?_ | wp_step))
  refine ⟨rfl, ?_⟩
  refine codeAny_call_builtin_at (Code.quiet_builtin _ (by decide +kernel)) entry_typeCall (wpAny_check_type_call_sub hC (xmade F T X hC hi hf (fun h' e hle hm => ?_) hz))
  exact hq h' e hle hm
theorem xinit (F : ExcBaseFacts B newId initId bmB) (T : OwnTail h bmB bm) {e t0 : Addr} {dx : Option Addr} {v : Value} {Q : Value → Shared → Prop} (hC : h.get? C = some (excClassObj nm q C N bs bm hdct sn sub ab col dd k0 k1 k2 k3 k5 newId))
    (he : h.get? e = some { cls := .ref C, dict := dx, data := .fields #[.ref t0, .none, .none, .none, .bool false, .none] })
    (hq : ∀ h' a, (∀ b o, b ≠ e → h.get? b = some o → h'.get? b = some o) → h'.get? e = some { cls := .ref C, dict := dx, data := .fields #[.ref a, .none, .none, .none, .bool false, .none] } → Q .none ⟨h', g, d, t, os⟩) :
    wpAny (model prog w) A (call (.builtin initId) [.ref e, v]) Q E ⟨h, g, d, t, os⟩ := by
  refine wpAny_call (codeAny_call_builtin F.init.plain F.initEntry (wpAny_check_init_subT F T hC he rfl ?_))
  wp_walk
  refine hq _ h.objs.size (fun b o nb hb => ?_) ?_
  · rw [Heap.get?_update_other _ _ (Ne.symm nb)]
    exact Heap.get?_push_of_some _ hb
  · rw [Heap.get?_update_self _ (Heap.get?_push_of_some _ he) rfl]
    rfl
end
section
open Builtin Builtin.ObjectAttr
variable {prog : Program} {w : World} {A : Around} {E : Value → Shared → Prop} {h : Heap} {g : Array GenState} {d : Drawn} {t : Nat} {os : OsState}
variable {nm q : Str} {C N x : Addr} {bs bm bmB : List Value} {sn : List Str} {sub : List Value} {ab : Bool} {col : Option Bool} {dd : Option Addr} {k0 k1 k2 k3 k5 : Option Value} {newId : String} {K : PySem.W.Frag} {mA : Str → Option Value} {y : Str} {v : Value}
theorem tail_passes {bmB tl : List Value} (self : Value) (what : Str) (T : OwnTail h bmB tl) : refuseLoop self what tl = refuseLoop self what bmB := by
  induction T with
  | base => rfl
  | own _ _ _ _ ih => rw [refuseLoop_ref]; exact ih
theorem xset_entry {tk : Tok} {Q : Fin → Shared → Prop} {ns : List Str} (SF : StoreFacts "ValueError" bmV "object.__setattr__" "object") (T : OwnTail h bmV bm) (X : K.In h)
    (hC : h.get? C = some (excClassObj nm q C N bs bm true sn sub ab col dd k0 k1 k2 k3 k5 newId)) (hy : PySem.W.findIn K (.ref C) y = some none) (I : h.Inst x C mA)
    (hq : ∀ h' tk', h'.Inst x C (fun z => if z = y then some v else mA z) →
      (∀ b o, b ≠ x → (∀ o0 dx, h.get? x = some o0 → o0.dict = some dx → b ≠ dx) → h.get? b = some o → h'.get? b = some o) →
      (∀ o0, h.get? x = some o0 → ∃ o1, h'.get? x = some o1 ∧ o1.cls = o0.cls ∧ o1.data = o0.data ∧ o1.slots = o0.slots ∧ (∀ dx, o0.dict = some dx → o1.dict = some dx) ∧ (o0.dict = none → o1.dict = some h.objs.size)) → t ≤ tk' → Q (.done (.ret .none)) ⟨h', g, d, tk', os⟩)
    (hw : Within mA ns) (hz : ns.length ≤ 1000) : wpAny (model prog w) A (Builtin.«object.__setattr__» ⟨[.ref x, .str y tk, v], []⟩) Q E ⟨h, g, d, t, os⟩ := by
  obtain ⟨o, ex, ec, enc, ed⟩ := I
  have hp : refuseLoop (.ref x) "__setattr__" bm = pure () := (tail_passes _ _ T).trans (SF.passes (.ref x))
  have L := PySem.W.looks_findIn (M := model prog w) X hy
  unfold Builtin.«object.__setattr__»
  repeat (first | rw [refuse_eq] | (rw [refuseLoop_ref, hp]) | (with_reducible refine wpAny_loadPart_at ex ?_; rw [ec]) | with_reducible refine wpAny_mroOf_exc hC ?_ | with_reducible refine L.at ?_ | wp_step)
  rcases ed with ⟨dn, mn⟩ | ⟨dx, de, nx, hns⟩
  · rw [dn, if_neg (by simp [typeHasDict])]
    split
    · rename_i z; cases z
    split
    · rename_i c z; exact absurd z (enc c)
    · have ex1 : (h.push { cls := .type "dict", data := .dict #[] }).get? x = some o := Heap.get?_push_of_some _ ex
      have nxs : x ≠ h.objs.size := Nat.ne_of_lt (Heap.lt_size ex)
      refine wpAny_bind (wpAny_alloc' (wpAny_bind (wpAny_update' ex1 (wpAny_pure ?_))))
      have e2 : ((h.push { cls := .type "dict", data := .dict #[] }).update x fun o => { cls := o.cls, dict := some h.objs.size, data := o.data, slots := o.slots }).get? h.objs.size = some { cls := .type "dict", data := .dict #[] } := (Heap.get?_update_ne _ _ _ _ nxs.symm).trans (Heap.get?_push_at rfl rfl)
      have e3 : ((h.push { cls := .type "dict", data := .dict #[] }).update x fun o => { cls := o.cls, dict := some h.objs.size, data := o.data, slots := o.slots }).Ns h.objs.size (fun _ => none) := ⟨_, #[], _, e2, rfl, fun e he => absurd he (by simp), fun _ => rfl⟩
      show wpAny _ _ (storeInDict h.objs.size (.str y tk) y v) _ _ _
      unfold storeInDict newKeyGuard
      refine wpAny_bind (wpAny_pure (wpAny_bind (wpAny_nsSet1 (Heap.Ns1.of_empty e3) fun h' en es => ?_)))
      obtain ⟨oD, eD, pD, f1, f2, f3⟩ := en.count (Within.cons y v Within.nil)
      refine wpAny_bind (wpAny_lookBehind f1 (by rw [f2]; exact pastItsLine_dict (Nat.le_trans f3 (by rw [List.length_cons, List.length_nil, sizeLine_eq]; omega))) ?_)
      wp_walk
      have ex' : h'.get? x = some { cls := o.cls, dict := some h.objs.size, data := o.data, slots := o.slots } := by
        refine (es.2 x nxs).trans (Heap.get?_update_self _ ex1 ?_)
        have fr := (Heap.get?_some_iff.mp ex).2
        obtain ⟨oc, od, odt, osl⟩ := o
        cases odt <;> first | rfl | exact fr
      refine hq h' _ ⟨_, ex', ec, enc, .inr ⟨h.objs.size, rfl, nxs.symm, ?_⟩⟩ (fun b ob nb _ eb => ?_) (fun o0 e0 => ?_) (Nat.le_succ _)
      · obtain ⟨o', l, p, a1, a2, a3, a4, a5⟩ := en
        exact ⟨o', l, p, a1, a2, a3, a4, fun z => by rw [a5 z]; by_cases hz : z = y <;> simp [hz, mn]⟩
      · exact (es.2 b (Nat.ne_of_lt (Heap.lt_size eb))).trans ((Heap.get?_update_ne _ _ _ _ nb).trans (Heap.get?_push_of_some _ eb))
      · rw [ex] at e0; cases e0
        exact ⟨_, ex', rfl, rfl, rfl, fun dx e => (by rw [dn] at e; cases e), fun _ => rfl⟩
  · rw [de]
    refine wpAny_pure ?_
    show wpAny _ _ (storeInDict dx (.str y tk) y v) _ _ _
    unfold storeInDict newKeyGuard
    refine wpAny_bind (wpAny_pure (wpAny_bind (wpAny_nsSet1 hns fun h' en es => ?_)))
    obtain ⟨oD, eD, pD, f1, f2, f3⟩ := en.count (Within.cons y v hw)
    refine wpAny_bind (wpAny_lookBehind f1 (by rw [f2]; exact pastItsLine_dict (Nat.le_trans f3 (by rw [List.length_cons, sizeLine_eq]; omega))) ?_)
    wp_walk
    refine hq h' _ ⟨o, (es.2 x nx.symm).trans ex, ec, enc, .inr ⟨dx, de, nx, en⟩⟩ (fun b ob _ nb eb => (es.2 b (nb o dx ex de)).trans eb) (fun o0 e0 => ⟨o0, (es.2 x nx.symm).trans e0, rfl, rfl, rfl, fun _ e => e, fun z => by rw [ex] at e0; cases e0; rw [de] at z; cases z⟩) (Nat.le_succ _)
theorem xset_check {M : Model} {o : Obj} {nameV : Value} {Q : Unit → Shared → Prop} (SF : StoreFacts "ValueError" bmV "object.__setattr__" "object") (T : OwnTail h bmV bm)
    (hC : h.get? C = some (excClassObj nm q C N bs bm true sn sub ab col dd k0 k1 k2 k3 k5 newId)) (ex : h.get? x = some o) (ec : o.cls = .ref C) (hq : Q () ⟨h, g, d, t, os⟩) :
    wpAny M A (checkBuiltinCall "object.__setattr__" ⟨[.ref x, nameV, v], []⟩) Q E ⟨h, g, d, t, os⟩ := by
  have cb : (Value.ref C :: bm).contains (.type "object") = true := by rw [List.contains_cons, T.hasType SF.hasOwner, Bool.or_true]
  have ha := SF.args (.ref x) nameV v
  simp only [checkBuiltinCall, SF.kind, SF.split]
  refine wpAny_bind ?_
  · unfold isInstance
    repeat (first | (with_reducible refine wpAny_loadPart_at ex ?_; rw [ec]) | (with_reducible refine wpAny_isSubtype_exc hC ?_; rw [cb]) | wp_step)
    exact hq
theorem xset {Q : Unit → Shared → Prop} {ns : List Str} (SF : StoreFacts "ValueError" bmV "object.__setattr__" "object") (T : OwnTail h bmV bm) (X : K.In h)
    (hC : h.get? C = some (excClassObj nm q C N bs bm true sn sub ab col dd k0 k1 k2 k3 k5 newId)) (hsa : PySem.W.findIn K (.ref C) "__setattr__" = some (some (.builtin "object.__setattr__"))) (hy : PySem.W.findIn K (.ref C) y = some none) (I : h.Inst x C mA)
    (hq : ∀ h' tk', h'.Inst x C (fun z => if z = y then some v else mA z) →
      (∀ b o, b ≠ x → (∀ o0 dx, h.get? x = some o0 → o0.dict = some dx → b ≠ dx) → h.get? b = some o → h'.get? b = some o) →
      (∀ o0, h.get? x = some o0 → ∃ o1, h'.get? x = some o1 ∧ o1.cls = o0.cls ∧ o1.data = o0.data ∧ o1.slots = o0.slots ∧ (∀ dx, o0.dict = some dx → o1.dict = some dx) ∧ (o0.dict = none → o1.dict = some h.objs.size)) → t ≤ tk' → Q () ⟨h', g, d, tk', os⟩)
    (hw : Within mA ns) (hz : ns.length ≤ 1000) : wpAny (model prog w) A (setAttr (.ref x) y v) Q E ⟨h, g, d, t, os⟩ := by
  obtain ⟨o, ex, ec, _⟩ := id I
  have f3 := SF.slot.bind (.ref x)
  have L := PySem.W.looks_findIn (M := model prog w) X hsa
  unfold setAttr callSpecial? specialOf
  repeat (any_goals (first | assumption | (with_reducible refine wpAny_loadPart_at ex ?_; rw [ec]) | with_reducible refine L.at ?_ | wp_step))
  refine codeAny_call_builtin SF.slot.plain SF.entry (xset_check SF T hC ex ec (xset_entry SF T X hC hy I (fun h' tk' I' a b c => ?_) hw hz))
  repeat (any_goals (first | assumption | wp_step))
  exact hq h' tk' I' a b (by omega)
end
end L2
namespace L2
open PySem PySem.Spec PyProof.Rows
section
variable {X : Cx} {e : Expr} {t : TE}
end
end L2
namespace L2
open PySem PySem.Spec PyProof.Rows PySem.SeqAt
end L2
namespace L2
open PySem PySem.Spec PyProof.Rows PySem.SeqAt
section
variable {prog : Program} {w : World} {A : Around} {E : Value → Shared → Prop} {s : Shared}
end
section
variable {σ : St} {H : Hp} {Q : VK} {K : PySem.W.Frag}
end
end L2
namespace L2
open PySem PySem.Spec PyProof.Rows PySem.SeqAt
section
variable {prog : Program} {w : World} {A : Around} {E : Value → Shared → Prop} {s : Shared} {κ : Type} [DecidableEq κ] {knd : KeyKind prog w κ}
end
section
variable {X : Cx}
end
end L2
namespace L2
open PySem PySem.Spec PyProof.Rows PySem.SeqAt
section
variable {σ : St} {H : Hp}
end
end L2
namespace L2
open PySem PySem.Spec PyProof.Rows
structure ZipT (h : Heap) (z TI TO i1 i2 l1 l2 : Addr) (f0 a b : Value) (k1 k2 : Nat) (xs ys : Array Value) : Prop where
  z : IsZip h z TI TO f0
  TI : IsPair h TI (.ref i1) (.ref i2)
  TO : IsPair h TO a b
  i1 : h.IsTupleIter i1 l1 k1
  i2 : h.IsTupleIter i2 l2 k2
  l1 : h.IsTuple l1 xs
  l2 : h.IsTuple l2 ys
section
variable {prog : Program} {w : World} {A : Around} {E : Value → Shared → Prop} {s : Shared} {z TI TO i1 i2 l1 l2 : Addr} {k1 k2 : Nat} {xs ys : Array Value} {x y a b f0 f1 : Value}
theorem ZipT.setZ {h : Heap} (hA : ZipApart z TI TO i1 i2 l1 l2) (Z : ZipT h z TI TO i1 i2 l1 l2 f0 a b k1 k2 xs ys) {j : Nat} {v : Value} (e : #[f0, Value.bool false, Value.bool false, Value.ref TI, Value.ref TO].setIfInBounds j v = #[f1, Value.bool false, Value.bool false, Value.ref TI, Value.ref TO]) : ZipT (h.update z (Obj.mapFields fun x => x.setIfInBounds j v)) z TI TO i1 i2 l1 l2 f1 a b k1 k2 xs ys := by
  have sz := (Heap.SameBut.update h z (Obj.mapFields fun x => x.setIfInBounds j v)).2
  refine ⟨?_, (sz _ hA.TIz).trans Z.TI, (sz _ hA.TOz).trans Z.TO, Z.i1.at fun o e => (sz _ hA.i1z).trans e, Z.i2.at fun o e => (sz _ hA.i2z).trans e, Z.l1.at fun o e => (sz _ hA.l1z).trans e, Z.l2.at fun o e => (sz _ hA.l2z).trans e⟩
  have e0 : Obj.mapFields (fun x => x.setIfInBounds j v) { cls := Value.type "zip", data := Data.fields #[f0, Value.bool false, Value.bool false, Value.ref TI, Value.ref TO] } = { cls := Value.type "zip", data := Data.fields #[f1, Value.bool false, Value.bool false, Value.ref TI, Value.ref TO] } := by
    unfold Obj.mapFields
    simp only [e]
  have := Heap.get?_update_self (Obj.mapFields fun x => x.setIfInBounds j v) Z.z (by rw [e0]; rfl)
  rw [e0] at this
  exact this
theorem ZipT.keep {h h' : Heap} (Z : ZipT h z TI TO i1 i2 l1 l2 f0 a b k1 k2 xs ys) (k : ∀ c o, h.get? c = some o → h'.get? c = some o) : ZipT h' z TI TO i1 i2 l1 l2 f0 a b k1 k2 xs ys :=
  ⟨k _ _ Z.z, k _ _ Z.TI, k _ _ Z.TO, Z.i1.at (k _), Z.i2.at (k _), Z.l1.at (k _), Z.l2.at (k _)⟩
theorem ZipT.fst {h h' : Heap} (hA : ZipApart z TI TO i1 i2 l1 l2) (Z : ZipT h z TI TO i1 i2 l1 l2 f0 a b k1 k2 xs ys) (g : h'.IsTupleIter i1 l1 (k1 + 1)) (sb : Heap.SameBut i1 h h') : ZipT h' z TI TO i1 i2 l1 l2 f0 a b (k1 + 1) k2 xs ys :=
  ⟨(sb.2 _ (Ne.symm hA.i1z)).trans Z.z, (sb.2 _ hA.TIi1).trans Z.TI, (sb.2 _ hA.TOi1).trans Z.TO, g, Z.i2.at fun o e => (sb.2 _ (Ne.symm hA.i12)).trans e, Z.l1.at fun o e => (sb.2 _ hA.l1i1).trans e, Z.l2.at fun o e => (sb.2 _ hA.l2i1).trans e⟩
theorem ZipT.snd {h h' : Heap} (hA : ZipApart z TI TO i1 i2 l1 l2) (Z : ZipT h z TI TO i1 i2 l1 l2 f0 a b k1 k2 xs ys) (g : h'.IsTupleIter i2 l2 (k2 + 1)) (sb : Heap.SameBut i2 h h') : ZipT h' z TI TO i1 i2 l1 l2 f0 a b k1 (k2 + 1) xs ys :=
  ⟨(sb.2 _ (Ne.symm hA.i2z)).trans Z.z, (sb.2 _ hA.TIi2).trans Z.TI, (sb.2 _ hA.TOi2).trans Z.TO, Z.i1.at fun o e => (sb.2 _ hA.i12).trans e, g, Z.l1.at fun o e => (sb.2 _ hA.l1i2).trans e, Z.l2.at fun o e => (sb.2 _ hA.l2i2).trans e⟩
theorem ZipT.setO {h : Heap} (hA : ZipApart z TI TO i1 i2 l1 l2) (Z : ZipT h z TI TO i1 i2 l1 l2 f0 a b k1 k2 xs ys) {a' b' : Value} {j : Nat} {v : Value} (e : #[a, b].setIfInBounds j v = #[a', b']) : ZipT (h.update TO (Obj.mapSeq fun x => x.setIfInBounds j v)) z TI TO i1 i2 l1 l2 f0 a' b' k1 k2 xs ys := by
  have sz := (Heap.SameBut.update h TO (Obj.mapSeq fun x => x.setIfInBounds j v)).2
  refine ⟨(sz _ (Ne.symm hA.TOz)).trans Z.z, (sz _ hA.TITO).trans Z.TI, ?_, Z.i1.at fun o e => (sz _ (Ne.symm hA.TOi1)).trans e, Z.i2.at fun o e => (sz _ (Ne.symm hA.TOi2)).trans e, Z.l1.at fun o e => (sz _ hA.l1TO).trans e, Z.l2.at fun o e => (sz _ hA.l2TO).trans e⟩
  have e0 : Obj.mapSeq (fun x => x.setIfInBounds j v) { cls := Value.type "tuple", data := Data.seq #[a, b] } = { cls := Value.type "tuple", data := Data.seq #[a', b'] } := by
    unfold Obj.mapSeq
    simp only [e]
    rfl
  have := Heap.get?_update_self (Obj.mapSeq fun x => x.setIfInBounds j v) Z.TO (by rw [e0]; rfl)
  rw [e0] at this
  exact this
theorem drawT {f : Value → Sem Unit} {it l : Addr} {i : Nat} {items} {x : Value} {Q : Option Value → Shared → Prop} (hit : s.heap.IsTupleIter it l i) (hl : s.heap.IsTuple l items) (hx : items[i]? = some x)
    (hQ : ∀ h', h'.IsTupleIter it l (i + 1) → Heap.SameBut it s.heap h' → Q (some x) { s with heap := h' }) :
    wpAny (model prog w) A ((Builtin.SmallTypes.nextOf (.ref it) >>= fun v => pure (some v)).onRaise f) Q E s :=
  wpAny_onRaise (wpAny_bind (nextOf_tuple_item hit hl hx fun h' a b => wpAny_pure (hQ h' a b)))
theorem drawT_end {f : Value → Sem Unit} {it l : Addr} {i : Nat} {items} {Q : Option Value → Shared → Prop} (hh : A.handled = none) (hit : s.heap.IsTupleIter it l i) (hl : s.heap.IsTuple l items) (hx : items[i]? = none)
    (hE : ∀ h' e, Heap.ExtBut it s.heap h' → (∃ o, h'.get? e = some o ∧ o.cls = .type "StopIteration") → wpAny (model prog w) A (f (.ref e)) (fun _ s' => E (.ref e) s') E { s with heap := h' }) :
    wpAny (model prog w) A ((Builtin.SmallTypes.nextOf (.ref it) >>= fun v => pure (some v)).onRaise f) Q E s :=
  wpAny_onRaise (wpAny_bind (nextOf_tuple_end hh hit hl hx hE))
theorem zipT_item {Q : Value → Shared → Prop} (hA : ZipApart z TI TO i1 i2 l1 l2) (Z : ZipT s.heap z TI TO i1 i2 l1 l2 .none a b k1 k2 xs ys) (e1 : xs[k1]? = some x) (e2 : ys[k2]? = some y)
    (h : ∀ h', ZipT h' z TI TO i1 i2 l1 l2 (rawInt s.heap.objs.size) x y (k1 + 1) (k2 + 1) xs ys → IsPair h' s.heap.objs.size x y → h'.objs.size = s.heap.objs.size + 1 →
      (∀ c o, c ≠ z → c ≠ TO → c ≠ i1 → c ≠ i2 → s.heap.get? c = some o → h'.get? c = some o) → Q (.ref s.heap.objs.size) { s with heap := h' }) :
    wpAny (model prog w) A (Builtin.«zip.__next__» { pos := [.ref z] }) (fun fin s' => ∃ v, fin = Fin.done (Flow.ret v) ∧ Q v s') E s := by
  obtain ⟨hp, g, d, tk, os⟩ := s
  unfold Builtin.«zip.__next__»
  refine wpAny_bind (wpAny_of_eq (a := (Value.ref z, [])) rfl ?_)
  show wpAny _ _ (field (.ref z) 2 >>= _) _ _ _
  refine wpAny_bind (wpAny_field Z.z rfl (x := .bool false) rfl ?_)
  show wpAny _ _ (field (.ref z) 3 >>= _) _ _ _
  refine wpAny_bind (wpAny_field Z.z rfl (x := .ref TI) rfl ?_)
  show wpAny _ _ (seqItems? (.ref TI) >>= _) _ _ _
  refine wpAny_bind (wpAny_seqItems Z.TI rfl ?_)
  show wpAny _ _ (Builtin.SmallTypes.ownedTupleIsFree (.ref z) >>= _) _ _ _
  refine wpAny_bind ?_
  show wpAny _ _ (field (.ref z) 0 >>= _) _ _ _
  refine wpAny_bind (wpAny_field Z.z rfl (x := .none) rfl ?_)
  refine wpAny_pure ?_
  show wpAny _ _ (rule "zip.__next__.owned-tuple-again" >>= _) _ _ _
  refine wpAny_bind (wpAny_rule ?_)
  show wpAny _ _ (field (.ref z) 4 >>= _) _ _ _
  refine wpAny_bind (wpAny_field Z.z rfl (x := .ref TO) rfl ?_)
  show wpAny _ _ (setField (.ref z) 0 .ellipsis >>= _) _ _ _
  refine wpAny_bind (wpAny_setField Z.z rfl (by simp) ?_)
  replace Z : ZipT hp z TI TO i1 i2 l1 l2 .none a b k1 k2 xs ys := Z
  have Z1 := Z.setZ hA (f1 := .ellipsis) (j := 0) (v := .ellipsis) rfl
  have kz := (Heap.SameBut.update hp z (Obj.mapFields fun x => x.setIfInBounds 0 .ellipsis))
  generalize hp.update z (Obj.mapFields fun x => x.setIfInBounds 0 .ellipsis) = H1 at *
  refine wpAny_bind ?_
  show wpAny _ _ (forIn [(Value.ref i1, 0), (Value.ref i2, 1)] _ _) _ _ _
  rw [List.forIn_cons]
  refine wpAny_bind ?_
  refine wpAny_bind (drawT (s := ⟨H1, _, _, _, _⟩) Z1.i1 Z1.l1 e1 fun H2 g2 sb2 => ?_)
  have Z2 := Z1.fst hA g2 sb2
  refine wpAny_bind (wpAny_seqItems (s := ⟨H2, _, _, _, _⟩) Z2.TO rfl ?_)
  refine wpAny_bind (wpAny_updateSeq (s := ⟨H2, _, _, _, _⟩) Z2.TO rfl ?_ (by rw [sizeLine_eq]; simp) (by rw [sizeLine_eq]; simp))
  have Z3 := Z2.setO hA (j := 0) (v := x) (a' := x) (b' := b) rfl
  have k3 := (Heap.SameBut.update H2 TO (Obj.mapSeq fun x_1 => x_1.setIfInBounds 0 x))
  generalize H2.update TO (Obj.mapSeq fun x_1 => x_1.setIfInBounds 0 x) = H3 at *
  refine wpAny_bind (wpAny_letGo (wpAny_pure ?_))
  show wpAny _ _ (forIn [(Value.ref i2, 1)] _ _) _ _ _
  rw [List.forIn_cons]
  refine wpAny_bind ?_
  refine wpAny_bind (drawT (s := ⟨H3, _, _, _, _⟩) Z3.i2 Z3.l2 e2 fun H4 g4 sb4 => ?_)
  have Z4 := Z3.snd hA g4 sb4
  refine wpAny_bind (wpAny_seqItems (s := ⟨H4, _, _, _, _⟩) Z4.TO rfl ?_)
  refine wpAny_bind (wpAny_updateSeq (s := ⟨H4, _, _, _, _⟩) Z4.TO rfl ?_ (by rw [sizeLine_eq]; simp) (by rw [sizeLine_eq]; simp))
  have Z5 := Z4.setO hA (j := 1) (v := y) (a' := x) (b' := y) rfl
  have k5 := (Heap.SameBut.update H4 TO (Obj.mapSeq fun x_1 => x_1.setIfInBounds 1 y))
  generalize H4.update TO (Obj.mapSeq fun x_1 => x_1.setIfInBounds 1 y) = H5 at *
  refine wpAny_bind (wpAny_letGo (wpAny_pure ?_))
  show wpAny _ _ (forIn [] _ _) _ _ _
  rw [List.forIn_nil]
  refine wpAny_pure ?_
  refine wpAny_bind (wpAny_seqItems (s := ⟨H5, _, _, _, _⟩) Z5.TO rfl ?_)
  refine wpAny_bind (wpAny_newTuple ?_ (by rw [sizeLine_eq]; simp))
  have hsz : H5.objs.size = hp.objs.size := by rw [k5.1, sb4.1]; show H3.objs.size = _; rw [k3.1, sb2.1]; exact kz.1
  have Z6 := Z5.keep (h' := H5.push { cls := Value.type "tuple", data := Data.seq #[x, y] }) fun c o e => Heap.get?_push_of_some _ e
  have hn : IsPair (H5.push { cls := Value.type "tuple", data := Data.seq #[x, y] }) hp.objs.size x y := by rw [← hsz]; exact Heap.get?_push_size _ rfl
  have hs6 : (H5.push { cls := Value.type "tuple", data := Data.seq #[x, y] }).objs.size = hp.objs.size + 1 := by rw [Heap.size_push, hsz]
  have k6 : ∀ c o, c ≠ z → c ≠ TO → c ≠ i1 → c ≠ i2 → hp.get? c = some o → (H5.push { cls := Value.type "tuple", data := Data.seq #[x, y] }).get? c = some o := fun c o n1 n2 n3 n4 e =>
    Heap.get?_push_of_some _ ((k5.2 c n2).trans ((sb4.2 c n4).trans ((k3.2 c n2).trans ((sb2.2 c n3).trans ((kz.2 c n1).trans e)))))
  show wpAny _ _ (Builtin.SmallTypes.ownedTupleHandOut (.ref z) (.ref H5.objs.size) >>= _) _ _ _
  rw [hsz]
  show wpAny _ _ (_ >>= _) _ _ ⟨H5.push { cls := Value.type "tuple", data := Data.seq #[x, y] }, _, _, _, _⟩
  generalize H5.push { cls := Value.type "tuple", data := Data.seq #[x, y] } = H6 at *
  have nz : hp.objs.size ≠ z := fun e => absurd (Heap.lt_size Z.z) (by rw [e]; exact Nat.lt_irrefl _)
  refine wpAny_bind ?_
  show wpAny _ _ (setField (.ref z) 0 (rawInt hp.objs.size) >>= _) _ _ _
  refine wpAny_bind (wpAny_setField Z6.z rfl (by simp) ?_)
  have Z7 := Z6.setZ hA (f1 := rawInt hp.objs.size) (j := 0) (v := rawInt hp.objs.size) rfl
  have k7 := Heap.SameBut.update H6 z (Obj.mapFields fun x => x.setIfInBounds 0 (rawInt hp.objs.size))
  show wpAny _ _ _ _ _ ⟨H6.update z (Obj.mapFields fun x => x.setIfInBounds 0 (rawInt hp.objs.size)), _, _, _, _⟩
  generalize H6.update z (Obj.mapFields fun x => x.setIfInBounds 0 (rawInt hp.objs.size)) = H7 at *
  show wpAny _ _ (setField (.ref z) 1 (.bool false)) _ _ _
  refine wpAny_setField Z7.z rfl (by simp) ?_
  have Z8 := Z7.setZ hA (f1 := rawInt hp.objs.size) (j := 1) (v := .bool false) rfl
  have k8 := Heap.SameBut.update H7 z (Obj.mapFields fun x => x.setIfInBounds 1 (.bool false))
  refine wpAny_pure ⟨_, rfl, h _ Z8 ((k8.2 _ nz).trans ((k7.2 _ nz).trans hn)) (by rw [k8.1, k7.1]; exact hs6) fun c o n1 n2 n3 n4 e => (k8.2 _ n1).trans ((k7.2 _ n1).trans (k6 c o n1 n2 n3 n4 e))⟩
theorem zipT_end {Q : PySem.Fin → Shared → Prop} (hh : A.handled = none) (hA : ZipApart z TI TO i1 i2 l1 l2) (Z : ZipT s.heap z TI TO i1 i2 l1 l2 .none a b k1 k2 xs ys) (e : xs[k1]? = none ∨ ys[k2]? = none)
    (h : ∀ h' e, (∀ c o, c ≠ z → c ≠ TO → c ≠ i1 → c ≠ i2 → s.heap.get? c = some o → h'.get? c = some o) → (∃ o, h'.get? e = some o ∧ o.cls = .type "StopIteration") → E (.ref e) { s with heap := h' }) :
    wpAny (model prog w) A (Builtin.«zip.__next__» { pos := [.ref z] }) Q E s := by
  obtain ⟨hp, g, d, tk, os⟩ := s
  unfold Builtin.«zip.__next__»
  refine wpAny_bind (wpAny_of_eq (a := (Value.ref z, [])) rfl ?_)
  show wpAny _ _ (field (.ref z) 2 >>= _) _ _ _
  refine wpAny_bind (wpAny_field Z.z rfl (x := .bool false) rfl ?_)
  show wpAny _ _ (field (.ref z) 3 >>= _) _ _ _
  refine wpAny_bind (wpAny_field Z.z rfl (x := .ref TI) rfl ?_)
  show wpAny _ _ (seqItems? (.ref TI) >>= _) _ _ _
  refine wpAny_bind (wpAny_seqItems Z.TI rfl ?_)
  show wpAny _ _ (Builtin.SmallTypes.ownedTupleIsFree (.ref z) >>= _) _ _ _
  refine wpAny_bind ?_
  show wpAny _ _ (field (.ref z) 0 >>= _) _ _ _
  refine wpAny_bind (wpAny_field Z.z rfl (x := .none) rfl ?_)
  refine wpAny_pure ?_
  show wpAny _ _ (rule "zip.__next__.owned-tuple-again" >>= _) _ _ _
  refine wpAny_bind (wpAny_rule ?_)
  show wpAny _ _ (field (.ref z) 4 >>= _) _ _ _
  refine wpAny_bind (wpAny_field Z.z rfl (x := .ref TO) rfl ?_)
  show wpAny _ _ (setField (.ref z) 0 .ellipsis >>= _) _ _ _
  refine wpAny_bind (wpAny_setField Z.z rfl (by simp) ?_)
  replace Z : ZipT hp z TI TO i1 i2 l1 l2 .none a b k1 k2 xs ys := Z
  have Z1 := Z.setZ hA (f1 := .ellipsis) (j := 0) (v := .ellipsis) rfl
  have kz := (Heap.SameBut.update hp z (Obj.mapFields fun x => x.setIfInBounds 0 .ellipsis))
  generalize hp.update z (Obj.mapFields fun x => x.setIfInBounds 0 .ellipsis) = H1 at *
  refine wpAny_bind ?_
  show wpAny _ _ (forIn [(Value.ref i1, 0), (Value.ref i2, 1)] _ _) _ _ _
  rw [List.forIn_cons]
  refine wpAny_bind ?_
  have hdl : ∀ (h' : Heap) (e : Addr) (Hb : Heap), Hb.get? z = some { cls := Value.type "zip", data := Data.fields #[Value.ellipsis, Value.bool false, Value.bool false, Value.ref TI, Value.ref TO] } → (∀ c o, c ≠ i1 → c ≠ i2 → Hb.get? c = some o → h'.get? c = some o) → (∀ c o, c ≠ z → c ≠ TO → c ≠ i1 → c ≠ i2 → hp.get? c = some o → Hb.get? c = some o) → (∃ o, h'.get? e = some o ∧ o.cls = .type "StopIteration") →
      wpAny (model prog w) A (setField (.ref z) 0 .none) (fun _ s' => E (.ref e) s') E ⟨h', g, d, tk, os⟩ := by
    intro h' e Hb hb kb kp ⟨o, ho, hc⟩
    have hz := kb z _ (Ne.symm hA.i1z) (Ne.symm hA.i2z) hb
    have ne : e ≠ z := fun c => by rw [c, hz] at ho; cases ho; exact absurd hc (show ¬ (Value.type "zip" = Value.type "StopIteration") by decide)
    refine wpAny_setField hz rfl (by simp) ?_
    have k8 := Heap.SameBut.update h' z (Obj.mapFields fun x => x.setIfInBounds 0 .none)
    exact h _ e (fun c o n1 n2 n3 n4 q => (k8.2 _ n1).trans (kb c o n3 n4 (kp c o n1 n2 n3 n4 q))) ⟨o, (k8.2 _ ne).trans ho, hc⟩
  cases q : xs[k1]? with
  | none =>
    exact wpAny_bind (drawT_end (s := ⟨H1, _, _, _, _⟩) hh Z1.i1 Z1.l1 q fun h' e k hs => hdl h' e H1 Z1.z (fun c o n1 _ y => k c o n1 y) (fun c o n1 _ _ _ y => (kz.2 c n1).trans y) hs)
  | some x =>
    have q2 : ys[k2]? = none := by rcases e with e | e; · rw [q] at e; cases e
                                   · exact e
    refine wpAny_bind (drawT (s := ⟨H1, _, _, _, _⟩) Z1.i1 Z1.l1 q fun H2 g2 sb2 => ?_)
    have Z2 := Z1.fst hA g2 sb2
    refine wpAny_bind (wpAny_seqItems (s := ⟨H2, _, _, _, _⟩) Z2.TO rfl ?_)
    refine wpAny_bind (wpAny_updateSeq (s := ⟨H2, _, _, _, _⟩) Z2.TO rfl ?_ (by rw [sizeLine_eq]; simp) (by rw [sizeLine_eq]; simp))
    have Z3 := Z2.setO hA (j := 0) (v := x) (a' := x) (b' := b) rfl
    have k3 := (Heap.SameBut.update H2 TO (Obj.mapSeq fun x_1 => x_1.setIfInBounds 0 x))
    generalize H2.update TO (Obj.mapSeq fun x_1 => x_1.setIfInBounds 0 x) = H3 at *
    refine wpAny_bind (wpAny_letGo (wpAny_pure ?_))
    show wpAny _ _ (forIn [(Value.ref i2, 1)] _ _) _ _ _
    rw [List.forIn_cons]
    refine wpAny_bind ?_
    exact wpAny_bind (drawT_end (s := ⟨H3, _, _, _, _⟩) hh Z3.i2 Z3.l2 q2 fun h' e k hs => hdl h' e H3 Z3.z (fun c o _ n2 y => k c o n2 y) (fun c o n1 n2 n3 _ y => (k3.2 c n2).trans ((sb2.2 c n3).trans ((kz.2 c n1).trans y))) hs)
theorem pyNext_zipT_item {Q : Option Value → Shared → Prop} (hA : ZipApart z TI TO i1 i2 l1 l2) (Z : ZipT s.heap z TI TO i1 i2 l1 l2 .none a b k1 k2 xs ys) (e1 : xs[k1]? = some x) (e2 : ys[k2]? = some y)
    (h : ∀ h', ZipT h' z TI TO i1 i2 l1 l2 (rawInt s.heap.objs.size) x y (k1 + 1) (k2 + 1) xs ys → IsPair h' s.heap.objs.size x y → h'.objs.size = s.heap.objs.size + 1 →
      (∀ c o, c ≠ z → c ≠ TO → c ≠ i1 → c ≠ i2 → s.heap.get? c = some o → h'.get? c = some o) → Q (some (.ref s.heap.objs.size)) { s with heap := h' }) :
    wpAny (model prog w) A (pyNext (.ref z)) Q E s := by
  have ty : s.TypeIs (.ref z) "zip" := ⟨_, Z.z, rfl⟩
  unfold pyNext
  refine wpAny_bind (wpAny_attempt (wpAny_callSpecial?_slot (name := Str.ofString "__next__") ty F.slot_zip_next
    (wpAny_call_entry F.slot_zip_next ty F.entry_zip_next ?_ (F.args_zip_next_1 _))))
  exact zipT_item hA Z e1 e2 fun h' a b c d => wpAny_pure (h h' a b c d)
theorem pyNext_zipT_end {Q : Option Value → Shared → Prop} (hh : A.handled = none) (hA : ZipApart z TI TO i1 i2 l1 l2) (Z : ZipT s.heap z TI TO i1 i2 l1 l2 .none a b k1 k2 xs ys) (e : xs[k1]? = none ∨ ys[k2]? = none)
    (h : ∀ h', (∀ c o, c ≠ z → c ≠ TO → c ≠ i1 → c ≠ i2 → s.heap.get? c = some o → h'.get? c = some o) → Q none { s with heap := h' }) :
    wpAny (model prog w) A (pyNext (.ref z)) Q E s := by
  have ty : s.TypeIs (.ref z) "zip" := ⟨_, Z.z, rfl⟩
  unfold pyNext
  refine wpAny_bind (wpAny_attempt (wpAny_callSpecial?_slot (name := Str.ofString "__next__") ty F.slot_zip_next
    (wpAny_call_entry F.slot_zip_next ty F.entry_zip_next ?_ (F.args_zip_next_1 _))))
  refine zipT_end hh hA Z e fun h' ex kk ⟨o, ho, hc⟩ => ?_
  refine wpAny_bind (wpAny_isInstance (T := "StopIteration") (b := true) ⟨_, ho, hc⟩ isSubtype_stop ?_)
  exact wpAny_pure (h h' kk)
end
theorem sub_zip : isSubtype (.type "zip") (.type "zip") = pure true := by rw [isSubtype_type]; kernel_rfl
theorem meets_zip_newT (l1 l2 : Addr) (xs ys : Array Value) (n1 n2 : Nat) (d1 d2 : Option Addr) (s1 s2 : Array (Option Value)) :
    Meets (Builtin.«zip.__new__» ⟨[.type "zip", .ref l1, .ref l2], []⟩) (fun _ R s => s.heap.get? l1 = some { cls := .type "tuple", dict := d1, data := .seq xs n1, slots := s1 } ∧ s.heap.get? l2 = some { cls := .type "tuple", dict := d2, data := .seq ys n2, slots := s2 } ∧
      R (.ok (.ret (.ref (s.heap.objs.size + 4))))
        { s with heap := ((((s.heap.push { cls := .type "tuple_iterator", data := .fields #[.ref l1, .int 0 0] }).push { cls := .type "tuple_iterator", data := .fields #[.ref l2, .int 0 0] }).push { cls := .type "tuple", data := .seq #[.ref s.heap.objs.size, .ref (s.heap.objs.size + 1)] }).push { cls := .type "tuple", data := .seq #[.none, .none] }).push { cls := .type "zip", data := .fields #[.none, .bool false, .bool false, .ref (s.heap.objs.size + 2), .ref (s.heap.objs.size + 3)] } }) :=
  .of_wp fun prog w A R s h => by
    obtain ⟨hp, g, d, tk, os⟩ := s; obtain ⟨hl1, hl2, h⟩ := h
    have hL1 : Heap.IsTuple (Shared.heap ⟨hp, g, d, tk, os⟩) l1 xs := ⟨_, hl1, rfl, n1, rfl⟩
    have hL2 : Heap.IsTuple (hp.push { cls := .type "tuple_iterator", data := .fields #[.ref l1, .int 0 0] }) l2 ys := ⟨_, Heap.get?_push_of_some _ hl2, rfl, n2, rfl⟩
    have hsub := sub_zip
    unfold Builtin.«zip.__new__»
    refine wpAny_bind ?_
    show wpAny _ _ (isType (.type "zip") >>= _) _ _ _
    refine wpAny_bind (wpAny_of_eq (a := true) rfl ?_)
    show wpAny _ _ (isSubtype (.type "zip") (.type "zip") >>= _) _ _ _
    rw [hsub]
    refine wpAny_bind (wpAny_pure ?_)
    show wpAny _ _ (pure (Value.type "zip", [Value.ref l1, Value.ref l2])) _ _ _
    refine wpAny_pure ?_
    show wpAny _ _ (Builtin.SmallTypes.iterAll [Value.ref l1, Value.ref l2] >>= _) _ _ _
    refine wpAny_bind ?_
    unfold Builtin.SmallTypes.iterAll
    refine wpAny_bind ?_
    rw [List.forIn_cons]
    refine wpAny_bind ?_
    refine wpAny_bind (wpAny_holding (wpAny_pyIter_tuple hL1 (wpAny_pure ?_)))
    show wpAny _ _ (forIn [Value.ref l2] _ _) _ _ _
    rw [List.forIn_cons]
    refine wpAny_bind ?_
    refine wpAny_bind (wpAny_holding (wpAny_pyIter_tuple (s := ⟨_, _, _, _, _⟩) hL2 (wpAny_pure ?_)))
    show wpAny _ _ (forIn [] _ _) _ _ _
    rw [List.forIn_nil]
    refine wpAny_pure ?_
    refine wpAny_pure ?_
    refine wpAny_bind (wpAny_newTuple ?_ (by rw [sizeLine_eq]; simp))
    refine wpAny_bind (wpAny_newTuple ?_ (by rw [sizeLine_eq]; simp))
    refine wpAny_bind ?_
    unfold Builtin.SmallTypes.newRecord
    refine wpAny_newObj_type (T := "zip") ?_ (by show _ ≤ _; rw [sizeLine_eq]; simp [Builtin.SmallTypes.ownedTupleFields])
    simp only [Heap.size_push]
    refine wpAny_pure ?_
    exact ⟨_, rfl, h⟩
theorem call_zip_tuples {prog : Program} {w : World} {A : Around} {E : Value → Shared → Prop} {s : Shared} {l1 l2 : Addr} {xs ys : Array Value} {Q : Value → Shared → Prop} (h1 : s.heap.IsTuple l1 xs) (h2 : s.heap.IsTuple l2 ys)
    (h : ∀ h', ZipT h' (s.heap.objs.size + 4) (s.heap.objs.size + 2) (s.heap.objs.size + 3) s.heap.objs.size (s.heap.objs.size + 1) l1 l2 .none .none .none 0 0 xs ys → (∀ b o, s.heap.get? b = some o → h'.get? b = some o) → Q (.ref (s.heap.objs.size + 4)) { s with heap := h' }) :
    wpAny (model prog w) A (call (.type "zip") [.ref l1, .ref l2]) Q E s := by
  obtain ⟨hp, g, d, tk, os⟩ := s
  obtain ⟨⟨c1, d1, t1, s1⟩, g1, hc1, n1, hd1⟩ := h1
  obtain ⟨⟨c2, d2, t2, s2⟩, g2, hc2, n2, hd2⟩ := h2
  replace hc1 : c1 = .type "tuple" := hc1
  replace hd1 : t1 = .seq xs n1 := hd1
  replace hc2 : c2 = .type "tuple" := hc2
  replace hd2 : t2 = .seq ys n2 := hd2
  subst hc1 hd1 hc2 hd2
  replace g1 : hp.get? l1 = _ := g1
  replace g2 : hp.get? l2 = _ := g2
  refine callType_new F.called_zip (by decide) (F.typeCall_zip_2 _ _) (F.newCall_zip_2 _ _) (fun obj => F.args_object_init_3 obj _ _) F.entry_zip_new
    (meets_zip_newT l1 l2 xs ys n1 n2 d1 d2 s1 s2) ⟨g1, g2, ?_⟩
  have z1 : (hp.push { cls := .type "tuple_iterator", data := .fields #[.ref l1, .int 0 0] }).objs.size = hp.objs.size + 1 := Heap.size_push ..
  have k1 : ∀ b o, hp.get? b = some o → (hp.push { cls := .type "tuple_iterator", data := .fields #[.ref l1, .int 0 0] }).get? b = some o := fun b o e => Heap.get?_push_of_some _ e
  have e1 : Heap.IsTupleIter (hp.push { cls := .type "tuple_iterator", data := .fields #[.ref l1, .int 0 0] }) hp.objs.size l1 0 := ⟨_, Heap.get?_push_size _ rfl, rfl, rfl⟩
  show _ ∧ Q (.ref (hp.objs.size + 4)) ⟨((((hp.push { cls := .type "tuple_iterator", data := .fields #[.ref l1, .int 0 0] }).push { cls := .type "tuple_iterator", data := .fields #[.ref l2, .int 0 0] }).push { cls := .type "tuple", data := .seq #[.ref hp.objs.size, .ref (hp.objs.size + 1)] }).push { cls := .type "tuple", data := .seq #[.none, .none] }).push { cls := .type "zip", data := .fields #[.none, .bool false, .bool false, .ref (hp.objs.size + 2), .ref (hp.objs.size + 3)] }, g, d, tk, os⟩
  generalize hp.push { cls := .type "tuple_iterator", data := .fields #[.ref l1, .int 0 0] } = A1 at *
  have z2 : (A1.push { cls := .type "tuple_iterator", data := .fields #[.ref l2, .int 0 0] }).objs.size = hp.objs.size + 2 := by rw [Heap.size_push, z1]
  have k2 : ∀ b o, A1.get? b = some o → (A1.push { cls := .type "tuple_iterator", data := .fields #[.ref l2, .int 0 0] }).get? b = some o := fun b o e => Heap.get?_push_of_some _ e
  have e2 : Heap.IsTupleIter (A1.push { cls := .type "tuple_iterator", data := .fields #[.ref l2, .int 0 0] }) (hp.objs.size + 1) l2 0 := ⟨_, by rw [← z1]; exact Heap.get?_push_size _ rfl, rfl, rfl⟩
  generalize A1.push { cls := .type "tuple_iterator", data := .fields #[.ref l2, .int 0 0] } = A2 at *
  have z3 : (A2.push { cls := .type "tuple", data := .seq #[.ref hp.objs.size, .ref (hp.objs.size + 1)] }).objs.size = hp.objs.size + 3 := by rw [Heap.size_push, z2]
  have k3 : ∀ b o, A2.get? b = some o → (A2.push { cls := .type "tuple", data := .seq #[.ref hp.objs.size, .ref (hp.objs.size + 1)] }).get? b = some o := fun b o e => Heap.get?_push_of_some _ e
  have e3 : IsPair (A2.push { cls := .type "tuple", data := .seq #[.ref hp.objs.size, .ref (hp.objs.size + 1)] }) (hp.objs.size + 2) (.ref hp.objs.size) (.ref (hp.objs.size + 1)) := by rw [← z2]; exact Heap.get?_push_size _ rfl
  generalize A2.push { cls := .type "tuple", data := .seq #[.ref hp.objs.size, .ref (hp.objs.size + 1)] } = A3 at *
  have z4 : (A3.push { cls := .type "tuple", data := .seq #[.none, .none] }).objs.size = hp.objs.size + 4 := by rw [Heap.size_push, z3]
  have k4 : ∀ b o, A3.get? b = some o → (A3.push { cls := .type "tuple", data := .seq #[.none, .none] }).get? b = some o := fun b o e => Heap.get?_push_of_some _ e
  have e4 : IsPair (A3.push { cls := .type "tuple", data := .seq #[.none, .none] }) (hp.objs.size + 3) .none .none := by rw [← z3]; exact Heap.get?_push_size _ rfl
  generalize A3.push { cls := .type "tuple", data := .seq #[.none, .none] } = A4 at *
  have k5 : ∀ b o, A4.get? b = some o → (A4.push { cls := .type "zip", data := .fields #[.none, .bool false, .bool false, .ref (hp.objs.size + 2), .ref (hp.objs.size + 3)] }).get? b = some o := fun b o e => Heap.get?_push_of_some _ e
  have e5 : IsZip (A4.push { cls := .type "zip", data := .fields #[.none, .bool false, .bool false, .ref (hp.objs.size + 2), .ref (hp.objs.size + 3)] }) (hp.objs.size + 4) (hp.objs.size + 2) (hp.objs.size + 3) .none := by rw [← z4]; exact Heap.get?_push_size _ rfl
  generalize A4.push { cls := .type "zip", data := .fields #[.none, .bool false, .bool false, .ref (hp.objs.size + 2), .ref (hp.objs.size + 3)] } = A5 at *
  have k25 : ∀ b o, A2.get? b = some o → A5.get? b = some o := fun b o e => k5 _ _ (k4 _ _ (k3 _ _ e))
  have k05 : ∀ b o, hp.get? b = some o → A5.get? b = some o := fun b o e => k25 _ _ (k2 _ _ (k1 _ _ e))
  exact ⟨⟨_, e5, rfl⟩, h A5 ⟨e5, k5 _ _ (k4 _ _ e3), k5 _ _ e4, (e1.at (k2 _)).at (k25 _), e2.at (k25 _), ⟨_, k05 _ _ g1, rfl, n1, rfl⟩, ⟨_, k05 _ _ g2, rfl, n2, rfl⟩⟩ k05⟩
def Itz (K : PySem.W.Frag) (a b : Addr) : It := ⟨fun i H => ∃ xs ys x y, SqT K H a xs ∧ SqT K H b ys ∧ xs[i]? = some x ∧ ys[i]? = some y, fun i H v H' => ∃ p x y, v = .ref p ∧ H p = none ∧ (∀ xs, SqT K H a xs → xs[i]? = some x) ∧ (∀ ys, SqT K H b ys → ys[i]? = some y) ∧ H' = upd H p (.tup [x, y]), fun i H => ∃ xs ys, SqT K H a xs ∧ SqT K H b ys ∧ (xs.length ≤ i ∨ ys.length ≤ i)⟩
theorem turn_zipT {P : Program} {w : World} {K : PySem.W.Frag} {elts : List Expr} {k : Nat} {pos : Pos} {z TI TO i1 i2 a b : Addr} (hA : ZipApart z TI TO i1 i2 a b) :
    Turn P w K (.Tuple elts k pos) (Itz K a b) [z, TI, TO, i1, i2] z (fun i h => IsZip h z TI TO .none ∧ IsPair h TI (.ref i1) (.ref i2) ∧ (∃ u v, IsPair h TO u v) ∧ h.IsTupleIter i1 a i ∧ h.IsTupleIter i2 b i) where
  mem := by simp
  obj := by
    rintro i h ⟨e1, e2, ⟨u, v, e3⟩, ⟨o4, e4, _, d4⟩, o5, e5, _, d5⟩ c hc
    have hc : c = z ∨ c = TI ∨ c = TO ∨ c = i1 ∨ c = i2 := by simpa using hc
    rcases hc with rfl | rfl | rfl | rfl | rfl
    · exact ⟨_, e1, fun v z => by cases (show Data.fields _ = Data.cell v from z)⟩
    · exact ⟨_, e2, fun v z => by cases (show Data.seq _ _ = Data.cell v from z)⟩
    · exact ⟨_, e3, fun v z => by cases (show Data.seq _ _ = Data.cell v from z)⟩
    · exact ⟨_, e4, fun v z => by rw [d4] at z; cases z⟩
    · exact ⟨_, e5, fun v z => by rw [d5] at z; cases z⟩
  keep := fun i h h' ⟨e1, e2, ⟨u, v, e3⟩, e4, e5⟩ kk => ⟨kk z (by simp) _ e1, kk TI (by simp) _ e2, ⟨u, v, kk TO (by simp) _ e3⟩, e4.at fun o q => kk i1 (by simp) o q, e5.at fun o q => kk i2 (by simp) o q⟩
  item := by
    intro X hP hw hK hc i pins s σ H E I hf ⟨e1, e2, ⟨u, v, e3⟩, e4, e5⟩ hg
    subst hP hw hK
    obtain ⟨xs, ys, x, y, hq1, hq2, hx, hy⟩ := hg
    obtain ⟨its, rv, p1, hz⟩ := I.tuple hq1
    obtain ⟨jts, rw_, p2, hz2⟩ := I.tuple hq2
    obtain ⟨x', hx', rx⟩ := rv.get hx
    obtain ⟨y', hy', ry⟩ := rw_.get hy
    have Z : ZipT s.heap z TI TO i1 i2 a b .none u v i i its.toArray jts.toArray := ⟨e1, e2, e3, e4, e5, p1, p2⟩
    have nT : ∀ c, c ∈ [z, TI, TO, i1, i2] → s.heap.objs.size ≠ c := by
      intro c hc e
      have hc : c = z ∨ c = TI ∨ c = TO ∨ c = i1 ∨ c = i2 := by simpa using hc
      have hlt : c < s.heap.objs.size := by
        rcases hc with rfl | rfl | rfl | rfl | rfl
        · exact Heap.lt_size e1
        · exact Heap.lt_size e2
        · exact Heap.lt_size e3
        · obtain ⟨o, e4, _⟩ := e4; exact Heap.lt_size e4
        · obtain ⟨o, e5, _⟩ := e5; exact Heap.lt_size e5
      rw [e] at hlt
      exact absurd hlt (Nat.lt_irrefl _)
    refine pyNext_zipT_item hA Z (x := x') (y := y') (by simpa using hx') (by simpa using hy') fun h' Z' hp hsz kk => ⟨_, rfl, wpAny_letOwnedTupleGo_zip Z'.z fun h2 z2 sb => ?_⟩
    have k2 : ∀ c, c ≠ z → h2.get? c = h'.get? c := fun c n => sb.2 c n
    have hp2 : IsPair h2 s.heap.objs.size x' y' := (k2 _ (nT z (by simp))).trans hp
    have I1 : Inv X pins σ (upd H s.heap.objs.size (.tup [x, y])) { s with heap := h2, toks := s.toks } := I.turnLaid (ch := [z, TI, TO, i1, i2]) (fun b hb => hf b hb) (fun c o hb e => by
      have hb : c ≠ z ∧ c ≠ TI ∧ c ≠ TO ∧ c ≠ i1 ∧ c ≠ i2 := by simpa using hb
      exact (k2 c hb.1).trans (kk c o hb.1 hb.2.2.1 hb.2.2.2.1 hb.2.2.2.2 e)) (Nat.le_refl _) ⟨by rw [sizeLine_eq]; simp, [x', y'], .cons rx (.cons ry .nil), ⟨_, hp2, rfl, 0, rfl⟩⟩ I.tk
    refine ⟨.ref s.heap.objs.size, _, I1, rfl, ⟨s.heap.objs.size, x, y, rfl, I.hok.fresh (Nat.le_refl _), fun xs2 h2 => by rw [I.tuple_inj h2 hq1]; exact hx, fun ys2 h2 => by rw [I.tuple_inj h2 hq2]; exact hy, rfl⟩, ⟨z2, (k2 _ hA.TIz).trans Z'.TI, ⟨_, _, (k2 _ hA.TOz).trans Z'.TO⟩, Z'.i1.at fun o e => (k2 _ hA.i1z).trans e, Z'.i2.at fun o e => (k2 _ hA.i2z).trans e⟩, fun c hc => ?_⟩
    rw [upd_ne (Ne.symm (nT c hc))]
    exact (hf c hc).1
  done := by
    intro X hP hw hK hc i pins s σ H E I hf ⟨e1, e2, ⟨u, v, e3⟩, e4, e5⟩ hg
    subst hP hw hK
    obtain ⟨xs, ys, hq1, hq2, hl⟩ := hg
    obtain ⟨its, rv, p1, hz⟩ := I.tuple hq1
    obtain ⟨jts, rw_, p2, hz2⟩ := I.tuple hq2
    have Z : ZipT s.heap z TI TO i1 i2 a b .none u v i i its.toArray jts.toArray := ⟨e1, e2, e3, e4, e5, p1, p2⟩
    have l1 := rv.length
    have l2 := rw_.length
    exact pyNext_zipT_end (I.ok.hd hc) hA Z (by rcases hl with hl | hl; · left; simp; omega
                                                · right; simp; omega) fun h' kk => ⟨rfl, I.turnedL (ch := [z, TI, TO, i1, i2]) (t' := s.toks) (fun b hb => hf b hb) (fun c o hb e => by
      have hb : c ≠ z ∧ c ≠ TI ∧ c ≠ TO ∧ c ≠ i1 ∧ c ≠ i2 := by simpa using hb
      exact kk c o hb.1 hb.2.2.1 hb.2.2.2.1 hb.2.2.2.2 e) I.tk⟩
  self := fun A i s Q E st h => wpAny_pyIter_zip st.1 h
def iZip (K : PySem.W.Frag) (ta : TA) : TI := fun σ H R => ta σ H fun vs H1 => ∃ a b xs ys, vs = [.ref a, .ref b] ∧ SqT K H1 a xs ∧ SqT K H1 b ys ∧ R (Itz K a b) H1
theorem pi_zip {X : Cx} {elts : List Expr} {k : Nat} {tpos p pos : Pos} {l m : Expr} {ta : TA} (hg : Gl X "zip") (hm : X.mg "zip" = none) (ha : PA X [l, m] ta) (hs : starEach [l, m] X.env = (false, eval l X.env) :: starEach [m] X.env := by rfl) (hs2 : starEach [m] X.env = [(false, eval m X.env)] := by rfl) :
    PI X (.Tuple elts k tpos) (.Call (.Name "zip" p) [l, m] [] pos) (iZip X.K ta) := by
  intro pins s σ H R I h
  refine Call_ (ld_blt I hg hm boot_zip (PyProof.Rows.callWith_type1 (thn (ha pos pins s σ H _ I h) fun us s1 ⟨vs, H1, I1, r1, q1⟩ => ?_) hs (by rw [hs2]; rfl)))
  obtain ⟨a, b, xs, ys, e, hq1, hq2, q⟩ := q1
  subst e
  obtain ⟨v, w, rfl, rv, rw_⟩ := vals2 r1
  cases rv
  cases rw_
  obtain ⟨its, rv, pT, hz⟩ := I1.tuple hq1
  obtain ⟨jts, rw_, pU, hz2⟩ := I1.tuple hq2
  have ha1 : a < s1.heap.objs.size := by obtain ⟨o, e, _⟩ := (show s1.heap.IsTuple a its.toArray from pT); exact Heap.lt_size e
  have hb1 : b < s1.heap.objs.size := by obtain ⟨o, e, _⟩ := (show s1.heap.IsTuple b jts.toArray from pU); exact Heap.lt_size e
  refine call_zip_tuples (show s1.heap.IsTuple a its.toArray from pT) (show s1.heap.IsTuple b jts.toArray from pU) fun h' Z hk => ?_
  have I2 : Inv X pins σ H1 { s1 with heap := h' } := I1.kept (t' := s1.toks) hk
  refine wpAny_pyIter_zip Z.z ?_
  refine ⟨s1.heap.objs.size + 4, _, _, _, H1, rfl, I2, turn_zipT (PyProof.Rows.zipApart_new ha1 hb1), ⟨Z.z, Z.TI, ⟨_, _, Z.TO⟩, Z.i1, Z.i2⟩, fun c hc => ?_, q⟩
  have hc : s1.heap.objs.size ≤ c := by
    have hc : c = s1.heap.objs.size + 4 ∨ c = s1.heap.objs.size + 2 ∨ c = s1.heap.objs.size + 3 ∨ c = s1.heap.objs.size ∨ c = s1.heap.objs.size + 1 := by simpa using hc
    rcases hc with rfl | rfl | rfl | rfl | rfl
    all_goals first | exact Nat.le_refl _ | exact Nat.le_add_right _ _
  exact I1.fpOk hc (I1.hok.fresh hc)
section
variable {σ : St} {H : Hp} {K : PySem.W.Frag}
theorem st_zip {ta : TA} {R : It → Hp → Prop} (h : ta σ H fun vs H1 => ∃ a b xs ys, vs = [.ref a, .ref b] ∧ SqT K H1 a xs ∧ SqT K H1 b ys ∧ R (Itz K a b) H1) : iZip K ta σ H R := h
theorem zip_comp {g : TG} {tt : TT} {te : TE} {σ' : St} {Q : VK} {a b : Addr} {xs zs : List V} (hq : SqT K H a xs) (hr : SqT K H b zs) (Pv : Nat → List V → Hp → Prop) (h0 : Pv 0 [] H) (hlen : ∀ i ys H, i ≤ min xs.length zs.length → Pv i ys H → ys.length ≤ sizeLine)
    (hk : ∀ i ys H, Pv i ys H → SqT K H a xs ∧ SqT K H b zs)
    (hs : ∀ i x z ys H p, xs[i]? = some x → zs[i]? = some z → Pv i ys H → H p = none → g (.ref p) σ' (upd H p (.tup [x, z])) fun σ2 H2 => tt σ2 H2 fun b H3 => if b = true then te σ2 H3 fun y H4 => PAt Pv (i + 1) (ys ++ [y]) H4 else PAt Pv (i + 1) ys H3)
    (hd : ∀ ys H, Pv (min xs.length zs.length) ys H → ∀ p, H p = none → Q (.ref p) (upd H p (.lst ys))) :
    ∃ c d xs' ys', [V.ref a, V.ref b] = [.ref c, .ref d] ∧ SqT K H c xs' ∧ SqT K H d ys' ∧ CompW g tt te σ' Q (Itz K c d) H := by
  refine ⟨a, b, xs, zs, rfl, hq, hr, fun i m ys H => m = min xs.length zs.length - i ∧ i ≤ min xs.length zs.length ∧ Pv i ys H, ⟨_, rfl, Nat.zero_le _, h0⟩, ?_⟩
  rintro i m ys H ⟨rfl, hi, p⟩
  refine ⟨hlen i ys H hi p, ?_⟩
  obtain ⟨q1, q2⟩ := hk i ys H p
  by_cases hlt : i < min xs.length zs.length
  · have l1 : i < xs.length := by omega
    have l2 : i < zs.length := by omega
    refine .inr ⟨⟨xs, zs, xs[i], zs[i], q1, q2, by simp [l1], by simp [l2]⟩, Pv (i + 1), fun ys' H' q => ⟨min xs.length zs.length - (i + 1), by omega, rfl, hlt, q⟩, fun v H' y => ?_⟩
    obtain ⟨t, x, z, rfl, ht, hx, hz, rfl⟩ := y
    exact hs i x z ys H t (hx xs q1) (hz zs q2) p ht
  · have e : i = min xs.length zs.length := by omega
    subst e
    exact .inl ⟨⟨xs, zs, q1, q2, by omega⟩, hd ys H p⟩
end
end L2
namespace L2
open PySem PySem.Spec PyProof.Rows
section
variable {prog : Program} {w : World} {A : Around} {E : Value → Shared → Prop}
end
section
variable {X : Cx}
end
end L2
namespace L2
open PySem PySem.Spec PyProof.Rows PySem.SeqAt
section
variable {prog : Program} {w : World} {A : Around} {E : Value → Shared → Prop} {s : Shared}
end
section
variable {X : Cx}
end
section
variable {σ : St} {H : Hp} {Q : VK} {K : PySem.W.Frag}
end
end L2
namespace L2
open PySem PySem.Spec PyProof.Rows
def Itel (K : PySem.W.Frag) (a : Addr) : It := ⟨fun i H => ∃ xs x, SqL K H a xs ∧ xs[i]? = some x, fun i H x H' => ∃ p y, x = .ref p ∧ H p = none ∧ (∀ xs, SqL K H a xs → xs[i]? = some y) ∧ H' = upd H p (.tup [.int i, y]), fun i H => ∃ xs, SqL K H a xs ∧ xs.length ≤ i⟩
theorem turn_enumL {P : Program} {w : World} {K : PySem.W.Frag} {elts : List Expr} {k : Nat} {pos : Pos} (a e it : Addr) (hei : e ≠ it) :
    Turn P w K (.Tuple elts k pos) (Itel K a) [e, it] e (fun i h => (∃ old, IsEnum h e it i old) ∧ h.IsListIter it a i) where
  mem := by simp
  obj := by
    rintro i h ⟨⟨old, e1⟩, o2, e2, _, d2⟩ b hb
    have hb : b = e ∨ b = it := by simpa using hb
    rcases hb with rfl | rfl
    · exact ⟨_, e1, fun v z => by cases (show Data.fields _ = Data.cell v from z)⟩
    · exact ⟨_, e2, fun v z => by rw [d2] at z; cases z⟩
  keep := fun i h h' st kk => ⟨let ⟨old, e1⟩ := st.1; ⟨old, kk e (by simp) _ e1⟩, st.2.at fun o q => kk it (by simp) o q⟩
  item := by
    intro X hP hw hK hc i pins s σ H E I hf st hg
    subst hP hw hK
    obtain ⟨xs, x, hq, hx⟩ := hg
    obtain ⟨its, rv, p, hz⟩ := I.list hq
    obtain ⟨u, hu, ru⟩ := rv.get hx
    have hil : i < its.toArray.size := by rw [List.size_toArray]; exact (List.getElem?_eq_some_iff.mp hu).1
    have pT : s.heap.IsList a its.toArray := p.isList
    have nea : a ≠ it := fun z => by
      obtain ⟨o1, h1, c1, _⟩ := pT
      obtain ⟨o2, h2, c2, _⟩ := st.2
      rw [z, h2] at h1
      cases h1
      rw [c1] at c2
      exact absurd c2 (by decide)
    have nee : e ≠ a := fun z => by
      obtain ⟨o1, h1, c1, _⟩ := pT
      obtain ⟨old, h2⟩ := st.1
      rw [← z] at h1
      have h2 : s.heap.get? e = some _ := h2
      rw [h2] at h1
      cases h1
      exact absurd c1 (show ¬ (Value.type "enumerate" = Value.type "list") by decide)
    have W := WalksT.enumerateD (prog := X.prog) (w := X.w) (A := X.A) (Draws.list (A := X.A.in1) (show X.A.in1.handled = none from I.ok.hd hc) it a nea its.toArray) e hei (by simp [hei, nee]) (by simp)
    refine wpAny_with_toks (n := 1) I.tk (W.item i s _ _ hil ⟨st.1, st.2, pT⟩ fun T vs h' tk hv hT htup hmid kk ht => ?_)
    have ht : 0 < tk := ht
    obtain ⟨tk1, y, hy, rfl⟩ := hv
    have hy : its[i]? = some y := by simpa using hy
    rw [hu] at hy
    injection hy with hy
    subst hy
    have hap := W.apart i T h' hmid
    refine ⟨_, rfl, W.go elts k pos i T { s with heap := h', toks := tk } _ _ hmid fun h2 st2 k2 => ?_⟩
    have htup2 : IsTup h2 T [Value.int i tk1, u].toArray := by
      obtain ⟨o, e, c⟩ := htup
      exact ⟨o, k2 T o hap e, by simpa using c⟩
    have I1 : Inv X pins σ (upd H T (.tup [.int i, x])) { s with heap := h2, toks := tk } := I.turnLaid (ch := [e, it]) (fun b hb => hf b hb) (fun b u hb e => k2 b u hb (kk b u hb e)) hT ⟨by rw [sizeLine_eq]; simp, [Value.int i tk1, u], .cons ⟨tk1, rfl⟩ (.cons ru .nil), htup2⟩ ht
    refine ⟨.ref T, _, I1, rfl, ⟨T, x, rfl, I.hok.fresh hT, fun ys hy => by rw [I.list_inj hy hq]; exact hx, rfl⟩, ⟨st2.1, st2.2.1⟩, fun b hb => ?_⟩
    have hb2 : ∃ o, s.heap.get? b = some o := by
      have hb : b = e ∨ b = it := by simpa using hb
      rcases hb with rfl | rfl
      · obtain ⟨old, e1⟩ := st.1; exact ⟨_, e1⟩
      · obtain ⟨o, e1, _⟩ := st.2; exact ⟨_, e1⟩
    obtain ⟨o, e⟩ := hb2
    rw [upd_ne (Nat.ne_of_lt (Nat.lt_of_lt_of_le (Heap.lt_size e) hT))]
    exact (hf b hb).1
  done := by
    intro X hP hw hK hc i pins s σ H E I hf st hg
    subst hP hw hK
    obtain ⟨xs, hq, hx⟩ := hg
    obtain ⟨its, rv, p, hz⟩ := I.list hq
    have pT : s.heap.IsList a its.toArray := p.isList
    have hno : its.toArray[i]? = none := by
      have := rv.length
      simp; omega
    obtain ⟨old, he⟩ := st.1
    have D : Draws X.prog X.w X.A.in1 it [it, a] 0 (fun _ _ => True) (fun _ h => h.IsListIter it a i ∧ h.IsList a its.toArray) :=
      { live := fun _ _ st => let ⟨o, ho, _⟩ := st.1; ⟨o, ho⟩
        frame := fun _ _ _ st hk => ⟨st.1.at fun o e => hk it (by simp) o e, st.2.at fun o e => hk a (by simp) o e⟩
        item := fun j s Q E hj => absurd hj (Nat.not_lt_zero _)
        done := fun s Q E st hE => wpAny_nextOf_list_end (show X.A.in1.handled = none from I.ok.hd hc) st.1 st.2 hno hE }
    exact wpAny_pyNext_enum_endD D he ⟨st.2, pT⟩ fun h' hx => ⟨rfl, I.turnedL (ch := [e, it]) (t' := s.toks) (fun b hb => hf b hb) (fun b o hb y => hx b o (fun z => hb (by simp [z])) y) I.tk⟩
  self := fun A i s Q E st h => let ⟨old, e1⟩ := st.1; wpAny_pyIter_enum e1 h
def iEnumL (K : PySem.W.Frag) (ta : TA) : TI := fun σ H R => ta σ H fun vs H1 => ∃ a xs, vs = [.ref a] ∧ SqL K H1 a xs ∧ R (Itel K a) H1
theorem pi_enumL {X : Cx} {elts : List Expr} {k : Nat} {tpos p pos : Pos} {l : Expr} {ta : TA} (hg : Gl X "enumerate") (hm : X.mg "enumerate" = none) (ha : PA X [l] ta) (hs : starEach [l] X.env = [(false, eval l X.env)] := by rfl) :
    PI X (.Tuple elts k tpos) (.Call (.Name "enumerate" p) [l] [] pos) (iEnumL X.K ta) := by
  intro pins s σ H R I h
  refine Call_ (ld_blt I hg hm boot_enumerate (PyProof.Rows.callWith_type1 (thn (ha pos pins s σ H _ I h) fun us s1 ⟨vs, H1, I1, r1, q1⟩ => ?_) hs rfl))
  obtain ⟨a, xs, e, hq, q⟩ := q1
  subst e
  obtain ⟨v, rfl, rv⟩ := vals1 r1
  cases rv
  obtain ⟨its, rv, pT, hz⟩ := I1.list hq
  refine call_enumerate_list pT.isList fun h' he hit hz hk => ?_
  have I2 : Inv X pins σ H1 { s1 with heap := h' } := I1.kept (t' := s1.toks) hk
  refine wpAny_pyIter_enum he ?_
  have ne : s1.heap.objs.size + 1 ≠ s1.heap.objs.size := by omega
  refine ⟨s1.heap.objs.size + 1, _, _, _, H1, rfl, I2, turn_enumL a (s1.heap.objs.size + 1) s1.heap.objs.size ne, ⟨⟨_, he⟩, hit⟩, fun b hb => ?_, q⟩
  have hb : b = s1.heap.objs.size + 1 ∨ b = s1.heap.objs.size := by simpa using hb
  rcases hb with rfl | rfl
  · exact I1.fpOk (Nat.le_succ _) (I1.hok.fresh (Nat.le_succ _))
  · exact I1.fpOk (Nat.le_refl _) (I1.hok.fresh (Nat.le_refl _))
section
variable {σ : St} {H : Hp} {K : PySem.W.Frag}
theorem st_enumL {ta : TA} {R : It → Hp → Prop} (h : ta σ H fun vs H1 => ∃ a xs, vs = [.ref a] ∧ SqL K H1 a xs ∧ R (Itel K a) H1) : iEnumL K ta σ H R := h
theorem enumL_for {g : TG} {tb : TS} {D : Ends} {a : Addr} {xs : List V} (hq : SqL K H a xs) (Pv : Nat → St → Hp → Prop) (h0 : Pv 0 σ H) (hk : ∀ i σ H', Pv i σ H' → SqL K H' a xs)
    (hs : ∀ i x σ H p, xs[i]? = some x → Pv i σ H → H p = none → g (.ref p) σ (upd H p (.tup [.int i, x])) fun σ2 H2 => tb { D with nx := PAt Pv (i + 1), ct := PAt Pv (i + 1), bk := D.nx } σ2 H2) (hd : ∀ σ H, Pv xs.length σ H → D.nx σ H) :
    ∃ b ys, [V.ref a] = [.ref b] ∧ SqL K H b ys ∧ ForW g tb D σ (Itel K b) H := by
  refine ⟨a, xs, rfl, hq, fun i m σ H => m = xs.length - i ∧ i ≤ xs.length ∧ Pv i σ H, ⟨xs.length, by simp, Nat.zero_le _, h0⟩, ?_⟩
  rintro i m σ H ⟨rfl, hi, p⟩
  have sq := hk i σ H p
  by_cases hlt : i < xs.length
  · refine .inr ⟨⟨xs, xs[i], sq, by simp [hlt]⟩, Pv (i + 1), fun σ' H' p' => ⟨xs.length - (i + 1), by omega, rfl, hlt, p'⟩, fun x H' y => ?_⟩
    obtain ⟨t, z, rfl, ht, hz, rfl⟩ := y
    exact hs i z σ H t (hz xs sq) p ht
  · have e : i = xs.length := by omega
    subst e
    exact .inl ⟨⟨xs, sq, Nat.le_refl _⟩, hd σ H p⟩
end
section
variable {X : Cx}
def rSplit : V → List V → Hp → VK → Prop := fun x vs H Q => ∃ z y : Str, x = .str z ∧ vs = [.str y] ∧ 1 ≤ y.length ∧ z.length ≤ 1000000 ∧ ∀ p, H p = none → Q (.ref p) (upd H p (.lst (strV (PySem.Txt.split z y))))
theorem vals_from : ∀ (l : List Str) (n : Nat), Vals (strV l) (strsFrom n l)
  | [], _ => .nil
  | x :: l, n => .cons ⟨_, rfl⟩ (vals_from l _)
theorem mt_split : MtR X "str.split" rSplit := by
  intro pins s σ H x vs v us Q I rx rv h
  obtain ⟨z, y, rfl, rfl, hy, hz, q⟩ := h
  obtain ⟨t, rfl⟩ := rx
  obtain ⟨u, rfl, ru⟩ := rv.one
  obtain ⟨t', rfl⟩ := ru
  have hy0 : (y.length == 0) = false := by simp; omega
  have hf := I.hok.fresh (Nat.le_refl _)
  have one : ∀ (e : PySem.Txt.split z y = [z]), listOfItself z t X.A (wants (EP X pins σ Q) X.xe) s := fun e => by
    rw [e] at q
    exact ⟨.ref s.heap.objs.size, _, I.laid (t' := s.toks) (o := .lst (strV [z])) (fun b o e => Heap.get?_push_of_some _ e) (Nat.le_refl _) ⟨by show 1 ≤ _; rw [sizeLine_eq]; decide, [.str z t], 0, .cons ⟨t, rfl⟩ .nil, Heap.get?_push_size _ rfl⟩ I.tk, rfl, q _ hf⟩
  by_cases h1 : (decide (z.length < y.length) || decide (Builtin.Str.strKind z < Builtin.Str.strKind y)) = true
  · refine call_meets F.slot_str_split (typeIs_str _ _ _) F.entry_str_split (F.args_str_split_2 _ _) (meets_str_split_cannot_occur z y t t' h1) (one ?_)
    unfold PySem.Txt.split; rw [if_pos h1]
  · have h1' := Bool.eq_false_iff.mpr h1
    by_cases h2 : (Builtin.Str.occurrences z y 0 z.length (z.length + 1)).isEmpty = true
    · refine call_meets F.slot_str_split (typeIs_str _ _ _) F.entry_str_split (F.args_str_split_2 _ _) (meets_str_split_not_found z y t t' h1' hy0 h2) (one ?_)
      unfold PySem.Txt.split; rw [if_neg h1, if_pos h2]
    · have h2' := Bool.eq_false_iff.mpr h2
      have e : PySem.Txt.split z y = Builtin.Str.partsBetween z (Builtin.Str.occurrences z y 0 z.length (z.length + 1)) y.length := by unfold PySem.Txt.split; rw [if_neg h1, if_neg h2]
      have hl := (PyProof.Rows.fact_split z y).2
      rw [e] at hl
      refine call_meets F.slot_str_split (typeIs_str _ _ _) F.entry_str_split (F.args_str_split_2 _ _) (meets_str_split_sep z y t t' h1' hy0 h2' (by rw [sizeLine_eq]; omega) (by rw [sizeLine_eq]; omega)) ?_
      rw [← e] at hl ⊢
      have hvl : (strV (PySem.Txt.split z y)).length ≤ sizeLine := by show (List.map _ _).length ≤ _; rw [List.length_map, sizeLine_eq]; omega
      exact ⟨.ref s.heap.objs.size, _, I.laid (o := .lst (strV (PySem.Txt.split z y))) (fun b o e => Heap.get?_push_of_some _ e) (Nat.le_refl _) ⟨hvl, _, 0, vals_from _ _, Heap.get?_push_size _ rfl⟩ (Nat.lt_of_lt_of_le I.tk (Nat.le_add_right _ _)), rfl, q _ hf⟩
end
end L2
namespace L2
open PySem PySem.Spec PyProof.Rows
def excI (K : PySem.W.Frag) (C : Addr) : Bool := match K.lookup C with
  | some ⟨.type "type", _, .cls cd, sl⟩ => (match cd.mro, sl.toList with
    | .ref C' :: bm, [_, _, _, _, some (.builtin n), _] => C' == C && n == "ValueError.__new__" && !cd.hasDel && PySem.W.tailIn K bmV bm && cd.hasDict
    | _, _ => false)
  | _ => false
theorem excI_cls {K : PySem.W.Frag} {h : Heap} {C : Addr} (X : K.In h) (q : excI K C = true) :
    ∃ bm N nm qn bs sn sub ab col dd k0 k1 k2 k3 k5, h.get? C = some (excClassObj nm qn C N bs bm true sn sub ab col dd k0 k1 k2 k3 k5 "ValueError.__new__") ∧ OwnTail h bmV bm := by
  revert q
  unfold excI
  split
  next dd cd sl ho =>
    split
    next C' bm k0 k1 k2 k3 n k5 hm hs =>
      intro q
      simp only [Bool.and_eq_true, beq_iff_eq, Bool.not_eq_true'] at q
      obtain ⟨⟨⟨⟨q1, q2⟩, q3⟩, q4⟩, q5⟩ := q
      subst q1 q2
      cases cd
      simp only at hm q3 q5
      subst hm q3 q5
      obtain ⟨sl⟩ := sl
      simp only at hs
      subst hs
      exact ⟨bm, _, _, _, _, _, _, _, _, dd, k0, k1, k2, k3, k5, X _ _ ho, PySem.W.tail_of_in X q4⟩
    next => intro q; cases q
  next => intro q; cases q
section
variable {prog : Program} {w : World} {A : Around} {E : Value → Shared → Prop} {h : Heap} {g : Array GenState} {d : Drawn} {t : Nat} {os : OsState} {a C dx : Addr} {o : Obj} {K : PySem.W.Frag} {mA : Str → Option Value} {y : Str} {v : Value}
theorem xget_entry {tk : Tok} {Q : Fin → Shared → Prop} (X : K.In h) (qi : excI K C = true) (hy : PySem.W.findIn K (.ref C) y = some none) (hx : h.get? a = some o) (hc : o.cls = .ref C) (hnc : ∀ c, o.data ≠ .cls c) (hd : o.dict = some dx) (hn : h.Ns1 dx mA) (hv : mA y = some v) (hq : Q (.done (.ret v)) ⟨h, g, d, t, os⟩) :
    wpAny (model prog w) A (Builtin.«object.__getattribute__» ⟨[.ref a, .str y tk], []⟩) Q E ⟨h, g, d, t, os⟩ := by
  obtain ⟨bm, N, nm, qn, bs, sn, sub, ab, col, dd, k0, k1, k2, k3, k5, hC, T⟩ := excI_cls X qi
  have L := PySem.W.looks_findIn (M := model prog w) X hy
  repeat (any_goals (first | assumption | (with_reducible refine wpAny_loadPart_at hx ?_; rw [hc]) | with_reducible refine L.at ?_ | wp_step))
  split
  · rename_i c z; exact absurd z (hnc c)
  unfold instanceDict
  repeat (any_goals (first | assumption | (with_reducible refine wpAny_loadPart_at hx ?_; rw [hc]) | with_reducible refine wpAny_loadPart_at hC ?_ | with_reducible refine L.at ?_ | wp_step))
  rw [hd]
  refine wpAny_pure ?_
  show wpAny _ _ (nsGet dx y) _ _ _
  refine wpAny_nsGet hn.ns ?_
  rw [hv]
  repeat (any_goals (first | assumption | wp_step))
theorem xget_call {B : String} {tk : Tok} {R : Result → Shared → Prop} (FB : ExcAttrFacts B) (X : K.In h) (Z : ExcK K C) (qi : excI K C = true) (hy : PySem.W.findIn K (.ref C) y = some none) (hx : h.get? a = some o) (hc : o.cls = .ref C) (hnc : ∀ c, o.data ≠ .cls c) (hd : o.dict = some dx) (hn : h.Ns1 dx mA) (hv : mA y = some v) (hq : R (.ok (.ret v)) ⟨h, g, d, t, os⟩) :
    codeAny (model prog w) A (.call (.builtin "BaseException.__getattribute__") ⟨[.ref a, .str y tk], []⟩) R ⟨h, g, d, t, os⟩ :=
  codeAny_call_builtin FB.ga.plain F.entry_bexc_ga (xcls_check X Z hx hc (xget_entry X qi hy hx hc hnc hd hn hv hq))
theorem xget {B : String} {b : Bool} {Q : Value → Shared → Prop} (FB : ExcAttrFacts B) (X : K.In h) (Z : ExcK K C) (qi : excI K C = true) (hy : PySem.W.findIn K (.ref C) y = some none) (hx : h.get? a = some o) (hc : o.cls = .ref C) (hnc : ∀ c, o.data ≠ .cls c) (hd : o.dict = some dx) (hn : h.Ns1 dx mA) (hv : mA y = some v) (hh : PySem.W.handedIn v = true) (hq : Q v ⟨h, g, d, t + 1, os⟩) :
    wpAny (model prog w) A (getAttr (.ref a) y b) Q E ⟨h, g, d, t, os⟩ := by
  have f3 := FB.ga.bind (.ref a)
  have hx2 : (Value.builtin "BaseException.__getattribute__" == Value.builtin "object.__getattribute__") = false := by decide +kernel
  have hx1 : (onTheHeap (Value.ref C) && Value.builtin "BaseException.__getattribute__" == Value.builtin "object.__getattribute__") = false := by rw [hx2]; rfl
  have L1 := PySem.W.looks_findIn (M := model prog w) X Z.ga
  have L2 := PySem.W.looks_findIn (M := model prog w) X Z.gn
  unfold getAttr
  repeat (any_goals (first | assumption | (with_reducible refine wpAny_loadPart_at hx ?_; rw [hc]) | with_reducible refine L1.at ?_ | with_reducible refine L2.at ?_ | wp_step))
  rw [if_neg (by show ¬ (b && false) = true; cases b <;> decide)]
  repeat (any_goals (first | assumption | (with_reducible refine wpAny_loadPart_at hx ?_; rw [hc]) | wp_step))
  refine xget_call FB X Z qi hy hx hc hnc hd hn hv ?_
  repeat (any_goals (first | assumption | wp_step))
  show wpAny _ _ (handedOut v) _ _ _
  rw [PySem.W.handedOut_of hh]; exact wpAny_pure hq
end
def ErrD (a C : Addr) (od : Option Addr) : HO := .ext fun h => ∃ o, h.get? a = some o ∧ o.cls = .ref C ∧ o.dict = od ∧ ∃ vs, o.data = .fields vs
theorem errD_ok {P : Program} {w : World} {H : Hp} {h : Heap} {a C : Addr} {od : Option Addr} {o : Obj} (e : h.get? a = some o) (c : o.cls = .ref C) (d : o.dict = od) (v : ∃ vs, o.data = .fields vs) : ObjOk P w H h a (ErrD a C od) :=
  ⟨⟨o, e, c, d, v⟩, ⟨o, e⟩, fun h1 h2 ⟨u, e1, r⟩ k => ⟨u, k u e1, r⟩⟩
structure ExI (K : PySem.W.Frag) (C : Addr) (f : Str) : Prop where
  Z : ExcK K C
  qi : excI K C = true
  hy : PySem.W.findIn K (.ref C) f = some none
def tXat (K : PySem.W.Frag) (ta : TE) (f : Str) : TE := fun σ H Q => ta σ H fun x H1 => ∃ a C dx fs v, x = .ref a ∧ H1 a = some (ErrD a C (some dx)) ∧ H1 dx = some (.xd fs) ∧ ExI K C f ∧ fs.lookup f = some v ∧ Q v H1
section
variable {X : Cx} {e : Expr} {f : Str} {pos : Pos} {ta : TE}
theorem pe_xat (he : PE X e ta) (hb : attributeBase e f X.env (eval e X.env) = eval e X.env) : PE X (.Attribute e f pos) (tXat X.K ta f) := by
  intro pins s σ H Q I h
  refine attr_of hb (thn (he pins s σ H _ I h) fun u s1 ⟨x, H1, I1, rx, a, C, dx, fs, v, ex, ea, ed, c, l, q⟩ => ?_)
  subst ex
  obtain rfl : u = Value.ref a := rx
  obtain ⟨⟨o, o1, o2, o3, vs, o4⟩, _⟩ := I1.hok _ _ ea
  obtain ⟨mA, hn, r⟩ := I1.hok _ _ ed
  obtain ⟨u, hu, ru⟩ := RelO.some_of (v := v) (o := mA f) (by rw [← l]; exact r f)
  obtain ⟨hh, g, d, t, os⟩ := s1
  exact xget F.excAttr_ValueError I1.kIn c.Z c.qi c.hy o1 o2 (fun c z => by rw [o4] at z; cases z) o3 hn hu (handed_of ru) ⟨v, H1, I1.tok _, ru, q⟩
end
def tTryD (C : Addr) (i : Nat) (te : XK → TE) (ts : TS) : TS := fun D σ H =>
  te (fun cls od H' => cls = .ref C ∧ ∀ a, H' a = none → ts { nx := fun σ' H2 => D.nx (σ'.set i none) H2, rt := D.rt, bk := fun σ' H2 => D.bk (σ'.set i none) H2, ct := fun σ' H2 => D.ct (σ'.set i none) H2 } (σ.set i (some (.ref a))) (upd H' a (ErrD a C od))) σ H fun _ H' => D.nx σ H'
section
variable {X : Cx} {C D : Addr} {pos : Pos} {e : Expr}
theorem ps_tryD {te : XK → TE} {ts : TS} {b₀ : Stmt} {suite : List Stmt} {ep hp np : Pos} {y n : Str} {i : Nat} (he : PX X e te) (hg : Gl X y) (hm : X.mg y = some (.ref D)) (hx : PySem.W.exmOne X.K (.ref C) (.ref D) = some true)
    (hN : X.N.Nodup) (hi : X.N[i]? = some n) (hk : X.env.scope.names.lookup n = some .local) (hs : ∀ a xe', PSs (X.held a xe') (b₀ :: suite) ts) (hex : X.ex = [] := by rfl) (hst : X.stack = X.env :: X.outer := by rfl) (hf : X.env.frame = some X.env.locals := by rfl)
    (hsw : swapsWith e none ep.line X.env = pure false := by rfl) (hdb : (y == ("__debug__" : Str)) = false := by decide) :
    PS X (.Try [.Expr e ep] [.ExceptHandler (some (.Name y np)) (some n) (b₀ :: suite) hp] [] [] pos) (tTryD C i te ts) := by
  intro pins s σ H D I h
  refine wpAny_Try_except (wpAny_execs_cons (wpAny_Expr_any (thn (he pins s σ H _ _ _ I (fun H1 s1 e s2 I1 F => ?_) h) fun v s1 ⟨v', H1, I1, r1, q1⟩ => ?_) I.quiet hsw))
  · refine lands hst hf I1 F fun a cls od H' s3 e1 na hE J ⟨oe, o1, o2⟩ k => ?_
    obtain ⟨rfl, q⟩ := hE
    refine wpAny_handleBy_cons (codeAny_handlers_test (ld_glob (J.held a fun _ _ => False) hg hm ?_ hdb)) (by intro q; cases q)
    have lk : PySem.W.Looks (model X.prog X.w) s3.heap (typeOf (.ref a)) (.ref C) := o2 ▸ (PySem.W.Looks.ld o1).andThen .now
    refine (PySem.W.exm_one J.kIn lk hx).here ?_
    refine codeAny_handlers_suite_as (k _ _ _ fun s4 J4 ⟨oe4, p1, p2, p3⟩ nH => ?_)
    have J5 := Inv.track I1 na J4 nH hex (errD_ok p1 p2 p3.1 p3.2)
    refine store_ok J5 hN hi (.inl hk) (v := .ref a) rfl (fun s5 J6 => ?_) (.inr hk)
    refine wpAny_mono (hs a _ pins s5 _ _ _ (J6.held a _) (q a nH)) (fun f s6 z => ?_) fun _ _ z => z
    have z := z.unheld I.ok
    cases f with
    | next => obtain ⟨σ', H2, J7, q7⟩ := z; exact gone_ok J7 hN hi hk fun s7 J8 => ⟨_, H2, J8, q7⟩
    | brk => obtain ⟨σ', H2, J7, q7⟩ := z; exact gone_ok J7 hN hi hk fun s7 J8 => ⟨_, H2, J8, q7⟩
    | cont => obtain ⟨σ', H2, J7, q7⟩ := z; exact gone_ok J7 hN hi hk fun s7 J8 => ⟨_, H2, J8, q7⟩
    | ret u => obtain ⟨v, σ', H2, J7, r7, q7⟩ := z; exact gone_ok J7 hN hi hk fun s7 J8 => ⟨v, _, H2, J8, r7, q7⟩
  · exact wpAny_execs_nil (wpAny_execs_nil ⟨σ, H1, I1, q1⟩)
end
end L2
namespace L2
open PySem PySem.Spec PyProof.Rows
def ErX (e C : Addr) (od : Option Addr) : HO := .ext fun h => ∃ t, h.get? e = some { cls := .ref C, dict := od, data := .fields #[.ref t, .none, .none, .none, .bool false, .none] }
theorem erX_ok {P : Program} {w : World} {H : Hp} {h : Heap} {e C t : Addr} {od : Option Addr} (g : h.get? e = some { cls := .ref C, dict := od, data := .fields #[.ref t, .none, .none, .none, .bool false, .none] }) : ObjOk P w H h e (ErX e C od) :=
  ⟨⟨t, g⟩, ⟨_, g⟩, fun h1 h2 ⟨u, e1⟩ k => ⟨u, k _ e1⟩⟩
def rmv (H : Hp) (e : Addr) : Hp := fun b => if b = e then none else H b
theorem rmv_same {H : Hp} {e : Addr} : rmv H e e = none := by unfold rmv; rw [if_pos rfl]
theorem rmv_ne {H : Hp} {e b : Addr} (h : b ≠ e) : rmv H e b = H b := by unfold rmv; rw [if_neg h]
structure InI (K : PySem.W.Frag) (mg : Str → Option Value) (x : Str) (C f : Addr) : Prop where
  mx : mg x = some (.ref C)
  qi : excI K C = true
  hi : PySem.W.findIn K (.ref C) "__init__" = some (some (.ref f))
  hf : PySem.W.typeIn K (.ref f) = some (.type "function")
  kp : PySem.W.keepIn K (.ref C) = true
  bx : PySem.W.subIn K (.ref C) (.type "BaseException") = some true
  ck : ClsK K C
def tRaiseI (C : Addr) (E : XK) (sp : Sp) (t : TA) : TS := fun _ σ H => t σ H fun vs H1 => vs.length ≤ sizeLine ∧ ∀ e, H1 e = none → sp (.ref e :: vs) (upd H1 e (ErX e C none)) (fun v H2 => v = .non ∧ ∃ od, H2 e = some (ErX e C od) ∧ E (.ref C) od (rmv H2 e)) E0
section
variable {P : Program} {w : World} {H H1 H2 : Hp} {h h1 h2 : Heap} {e C : Addr} {od : Option Addr} {fs : List Addr}
theorem HOk.rmv (x : HOk P w H2 h2) (he : H2 e = some (ErX e C od)) : HOk P w (rmv H2 e) h2 := fun b u q => by
  have nb : b ≠ e := fun z => by rw [z, rmv_same] at q; cases q
  rw [rmv_ne nb] at q
  refine (x b u q).stay (fun c v _ q => q) (fun c q => ?_) fun c xs q => ?_
  · rw [rmv_ne (fun z => by rw [z, he] at q; cases q)]; exact q
  · rw [rmv_ne (fun z => by rw [z, he] at q; cases q)]; exact q
theorem Un.rmv (hok : HOk P w H1 h) (k : ∀ b o, h.get? b = some o → h1.get? b = some o) (ne : h.get? e = none) (u : Un fs [] (upd H1 e (ErX e C od)) H2 h1 h2) : Un fs [] H1 (rmv H2 e) h h2 := by
  have nb : ∀ {b : Addr} {o : Obj}, h.get? b = some o → b ≠ e := fun g z => by rw [z, ne] at g; cases g
  have nH : ∀ {b : Addr} {o : HO}, H1 b = some o → b ≠ e := fun g => by obtain ⟨_, q⟩ := (hok _ _ g).lies; exact nb q
  refine ⟨fun b o g n hb hx => u.keep b o (k b o g) (by rw [upd_ne (nb g)]; exact n) hb hx, fun b o g n hb hx => u.slot b o (k b o g) (by rw [upd_ne (nb g)]; exact n) hb hx, fun b o g n hx => ?_, fun b o g hx => u.there b o (k b o g) hx, fun b xs g => ?_, fun b o v g => ?_, fun b ps g => ?_⟩
  · rw [rmv_ne (nb g)]; exact u.free b o (k b o g) (by rw [upd_ne (nb g)]; exact n) hx
  · rw [rmv_ne (nH g)]; exact u.tups b xs (by rw [upd_ne (nH g)]; exact g)
  · rw [rmv_ne (nH g)]; exact u.frzs b o v (by rw [upd_ne (nH g)]; exact g)
  · obtain ⟨m, q⟩ := u.tbls b ps (by rw [upd_ne (nH g)]; exact g)
    exact ⟨m, by rw [rmv_ne (nH g)]; exact q⟩
end
section
variable {X : Cx} {C f : Addr} {x : Str} {np cpos pos : Pos} {e₀ : Expr} {es : List Expr} {t : TA} {E : XK} {k : Nat} {fd : FuncData} {ps : List Str} {sp : Sp}
theorem ps_raiseI (O : InI X.K X.mg x C f) (FI : FnOk X.prog X.w X.K X.mg X.base CX0 k f fd ps sp) (hr : Room (k + 1) X.A) (hb : Binds X.K fd ps []) (hx : ThrowsX X E) (hg : Gl X x) (hc : X.calm = true) (ha : PA X (e₀ :: es) t)
    (hdb : (x == ("__debug__" : Str)) = false := by decide) (he : starEach (e₀ :: es) X.env = (false, eval e₀ X.env) :: starEach es X.env := by rfl) (hpl : (backTo cpos (starEach es X.env)).any (·.1) = false := by rfl) :
    PS X (.Raise (some (.Call (.Name x np) (e₀ :: es) [] cpos)) none pos) (tRaiseI C E sp t) := by
  intro pins s σ H D I h
  rw [arm_exec_Raise]
  refine wpAny_bind (wpAny_standAt (raise_obj (K := X.K) (C := C) O.bx O.ck (I.ok.hd hc) ?_))
  refine wpAny_bind (wpAny_mono (Q := fun v s₁ => ∃ e dx t, v = .ref e ∧ X.K.In s₁.heap ∧ s₁.heap.get? e = some { cls := .ref C, dict := dx, data := .fields #[t, .none, .none, .none, .bool false, .none] } ∧ X.xe (.ref e) s₁) ?_ (fun v s3 h3 => wpAny_bind (wpAny_standAt (wpAny_pure h3))) fun _ _ x => x)
  refine wpAny_Call_Name_kw (ld_glob I hg O.mx ?_ hdb)
  refine PySem.W.callWith_K (h₀ := X.base) I.ok.mod.kin O.kp (thn (ha cpos pins s σ H _ I h) fun us s1 ⟨vs, H1, I1, r, hz, q⟩ => ⟨I1.kIn, ?_⟩) he hpl
  obtain ⟨bm, N, nm, qn, bs, sn, sub, ab, col, dd, k0, k1, k2, k3, k5, hC, T⟩ := excI_cls I1.kIn O.qi
  obtain ⟨hh, g, d, tt, os⟩ := s1
  rw [List.nil_append]
  refine xcall F.excBase_ValueError T I1.kIn hC O.hi O.hf (fun h' e hle hm => ?_) (by rw [← r.length]; exact hz)
  obtain ⟨t0, e1, e2, e3⟩ := hm.there
  have I2 : Inv X pins σ (upd H1 e (ErX e C none)) _ := I1.laid (o := ErX e C none) hm.keeps hle (erX_ok e1)
  have hq := q e (I1.hok.gone hm.new)
  have r2 : Vals (V.ref e :: vs) (Value.ref e :: us) := .cons rfl r
  have hl : (Value.ref e :: us ++ []).length = ps.length := by
    rw [List.append_nil]
    have e := r2.length
    rw [FI.len _ _ _ _ hq] at e
    exact e.symm
  refine wpAny_call (codeAny_mono (FI.run _ X.stack _ _ ⟨Value.ref e :: us, []⟩ (Value.ref e :: us) _ _ E0 (hr.make C us []) (I2.env0.make C us []) (by have := hb _ (Value.ref e :: us) I2.kIn hl; rw [List.append_nil] at this; exact this) r2 hq) fun r s' hq' => ?_)
  cases r with
  | error e => exact False.elim hq'
  | ok fl =>
    cases fl with
    | ret u =>
      have J := I2.after hq'
      obtain ⟨v, H', tk, os', bare, un, hok, rv, ev, od, hH, hE⟩ := hq'
      obtain ⟨v', H'', I3, _⟩ := J
      subst ev
      obtain ⟨⟨t1, g1⟩, _⟩ := hok _ _ hH
      exact ⟨rv, e, od, .ref t1, rfl, I3.kIn, g1, hx pins σ H1 (rmv H' e) _ s' e t1 (.ref C) od I1 (un.rmv I1.hok hm.keeps hm.new) (hok.rmv hH) tk os' bare hm.new rmv_same g1 hE⟩
    | next => exact False.elim hq'
    | brk => exact False.elim hq'
    | cont => exact False.elim hq'
end
end L2
namespace L2
open PySem PySem.Spec PyProof.Rows
section
variable {X : Cx} {e : Expr} {t : TE}
def tFsI (c1 c2 : Str) (t : TE) : TE := fun σ H Q => t σ H fun x H1 => ∃ i : Int, x = .int i ∧ i.natAbs ≤ 1000 ∧ Q (.str (c1 ++ Str.ofString (toString i) ++ c2)) H1
theorem pe_fsI {c1 c2 : Str} {j1 j2 : Nat} {p1 p2 p3 pos : Pos} (he : PE X e t) (h1 : c1.length ≤ 4096 := by decide) (h2 : c2.length ≤ 4096 := by decide) :
    PE X (.JoinedStr [.Constant (.str c1) j1 p1, .FormattedValue e (-1) none p2, .Constant (.str c2) j2 p3] pos) (tFsI c1 c2 t) := by
  intro pins s σ H Q I h
  have e0 : Str.empty ++ c1 = c1 := Str.empty_append c1
  have hs : sizeLine = 16777216 := sizeLine_eq
  refine JoinedStr_many (joinParts_cons (Calls.Constant_str ?_))
  refine ⟨by rw [e0, hs]; omega, ?_⟩
  rw [e0]
  refine joinParts_cons (FormattedValue_plain (thn (he pins _ σ H _ (I.tok _) h) fun u s1 ⟨x, H1, I1, r1, i, e1, hi, q⟩ => ?_))
  subst e1
  obtain ⟨tk, rfl⟩ := r1
  have hl : i.natAbs.log2 < 1920 := Nat.lt_of_le_of_lt (Nat.log2_le_self _) (by omega)
  have hz := int_text_len_1921 hl
  refine wpAny_formatField_int hl ?_
  refine ⟨by rw [strLen_append, hs]; show _ + (Str.ofString (toString i)).length ≤ _; omega, ?_⟩
  refine joinParts_consE (joinParts_cons (Calls.Constant_str ?_))
  refine ⟨by rw [strLen_append, strLen_append, hs]; show _ + (Str.ofString (toString i)).length + _ ≤ _; omega, joinParts_nilE (joinParts_nil ?_ (by rw [strLen_append, strLen_append, hs]; show _ + (Str.ofString (toString i)).length + _ ≤ _; omega))⟩
  exact ⟨.str (c1 ++ Str.ofString (toString i) ++ c2), H1, I1.tok _, ⟨_, rfl⟩, q⟩
end
structure BaI (K : PySem.W.Frag) (mg : Str → Option Value) (x : Str) (B : Addr) : Prop where
  mx : mg x = some (.ref B)
  hg : PySem.W.specialIn K (.ref B) "__getattribute__" = some (some (.builtin "type.__getattribute__"))
  hr : PySem.W.readsIn K B (.type "type") = true
  e : PySem.W.findCls K (.ref B) (.type "type") "__init__" = some (.val (.builtin "ValueError.__init__"))
theorem upd_id {H : Hp} {a : Addr} {o : HO} (h : H a = some o) : upd H a o = H := by
  funext b
  by_cases z : b = a
  · subst z; rw [upd_same, h]
  · rw [upd_ne z]
def tBIn (K : PySem.W.Frag) (t : TA) : TE := fun σ H Q => t σ H fun vs H1 => ∃ e C od v, vs = [.ref e, v] ∧ H1 e = some (ErX e C od) ∧ excI K C = true ∧ Q .non H1
structure SeI (K : PySem.W.Frag) (C : Addr) (f : Str) : Prop where
  qi : excI K C = true
  sa : PySem.W.findIn K (.ref C) "__setattr__" = some (some (.builtin "object.__setattr__"))
  hy : PySem.W.findIn K (.ref C) f = some none
def sXet (K : PySem.W.Frag) (ta tv : TE) (f : Str) : TS := fun D σ H => tv σ H fun y H1 => ta σ H1 fun x H2 => ∃ e C, x = .ref e ∧ H2 e = some (ErX e C none) ∧ SeI K C f ∧
  ∀ dx, H2 dx = none → dx ≠ e → D.nx σ (upd (upd H2 e (ErX e C (some dx))) dx (.xd [(f, y)]))
section
variable {X : Cx} {B : Addr} {x f : Str} {o value : Expr} {np apos pos pos' : Pos} {e₀ : Expr} {es : List Expr} {t : TA} {ta tv : TE}
theorem pe_bin {pl : Sem Bool} (O : BaI X.K X.mg x B) (hg : Gl X x) (ha : PA X (e₀ :: es) t) (hdb : (x == ("__debug__" : Str)) = false := by decide)
    (hst : starEach (e₀ :: es) X.env = (false, eval e₀ X.env) :: starEach es X.env := by rfl) (hpl : (backTo pos (starEach es X.env)).any (·.1) = false := by rfl)
    (ht : eval (.Call (.Attribute (.Name x np) "__init__" apos) (e₀ :: es) [] pos) X.env = (do
      let ov ← eval (.Name x np) X.env
      standAt apos.atName
      let (f, first) ← holding [ov] (getMethod ov "__init__" pl)
      callWith pos f first (backTo pos (starEach (e₀ :: es) X.env)) (backToKw pos (keywordEach [] X.env))) := by rfl) :
    PE X (.Call (.Attribute (.Name x np) "__init__" apos) (e₀ :: es) [] pos) (tBIn X.K t) := by
  intro pins s σ H Q I h
  refine PySem.W.methodCall_KW (pl := pl) (ld_glob I hg O.mx ?_ hdb) ht
  refine PySem.W.method_cls I.kIn O.hg (PySem.W.cls_value I.kIn O.hr O.e rfl ?_)
  have I' : Inv X pins σ H { s with toks := s.toks + 1 } := I.tok _
  show wpAny _ _ (callWith pos (.builtin "ValueError.__init__") [] (backTo pos (starEach (e₀ :: es) X.env)) []) _ _ _
  refine PyProof.Rows.callWith_builtin1 (thn (ha pos pins _ σ H _ I' h) fun us s2 ⟨vs, H2, I2, r, e, C, od, v, ev, hH, qi, q2⟩ => ?_) hst hpl
  subst ev
  obtain ⟨u0, us, rfl, r0, r1⟩ : ∃ u0 us', us = u0 :: us' ∧ RelV (.ref e) u0 ∧ Vals [v] us' := by
    cases r with | cons r0 r1 => exact ⟨_, _, rfl, r0, r1⟩
  obtain rfl : u0 = Value.ref e := r0
  obtain ⟨u1, rfl, r2⟩ : ∃ u1, us = [u1] ∧ RelV v u1 := by
    cases r1 with | cons r2 r3 => cases r3; exact ⟨_, rfl, r2⟩
  obtain ⟨bm, N, nm, qn, bs, sn, sub, ab, col, dd, k0, k1, k2, k3, k5, hC, T⟩ := excI_cls I2.kIn qi
  obtain ⟨⟨t0, g0⟩, _⟩ := I2.hok _ _ hH
  obtain ⟨hh, g, d, tt, os⟩ := s2
  show wpAny _ _ (call (.builtin "ValueError.__init__") [.ref e, u1]) _ _ _
  refine xinit F.excBase_ValueError T hC g0 fun h' a k g1 => ?_
  have J := I2.write (x := e) (e := e) (o := ErX e C od) (h' := h') (t' := tt) (by rw [hH]; exact True.intro) (.inl rfl) k ⟨_, g1⟩ (erX_ok g1) I2.tk
  rw [upd_id hH] at J
  exact ⟨.non, H2, J, rfl, q2⟩
theorem ps_xet (ha : PE X o ta) (hv : PE X value tv) (hs : swapsWith value (some (.Attribute o f pos')) pos.line X.env = pure false) (hex : X.ex = [] := by rfl) : PS X (.Assign [.Attribute o f pos'] value pos) (sXet X.K ta tv f) := by
  intro pins s σ H D I h
  refine plainObj_wpAny_Assign_Attribute (thn (hv pins s σ H _ I h) fun u s1 ⟨y, H1, I1, ry, q⟩ => thn (ha pins s1 σ H1 _ I1 q) fun ov s2 ⟨x, H2, I2, rx, e, C, ex, he, S, q2⟩ => ?_) hs
  subst ex
  obtain rfl : ov = Value.ref e := rx
  obtain ⟨bm, N, nm, qn, bs, sn, sub, ab, col, dd, k0, k1, k2, k3, k5, hC, T⟩ := excI_cls I2.kIn S.qi
  obtain ⟨⟨t0, g0⟩, _⟩ := I2.hok _ _ he
  have In : s2.heap.Inst e C (fun _ => none) := ⟨_, g0, rfl, fun c z => (by cases z), .inl ⟨rfl, fun _ => rfl⟩⟩
  obtain ⟨hh, g, d, tt, os⟩ := s2
  refine xset F.store_ValueError T I2.kIn hC S.sa S.hy In (fun h' tk' I' k c ht => ?_) (ns := []) Within.nil (by simp)
  obtain ⟨o1, g1, c1, c2, c3, c4, c5⟩ := c _ g0
  have c5 := c5 rfl
  have ne : hh.objs.size ≠ e := Nat.ne_of_gt (Heap.lt_size g0)
  have k' : ∀ b u, b ≠ e → hh.get? b = some u → h'.get? b = some u := fun b u nb gb => k b u nb (fun o0 dx z1 z2 => by rw [g0] at z1; cases z1; cases z2) gb
  have g1' : h'.get? e = some { cls := .ref C, dict := some hh.objs.size, data := .fields #[.ref t0, .none, .none, .none, .bool false, .none] } := by
    obtain ⟨oc, od, odt, osl⟩ := o1
    have c1 : oc = .ref C := c1
    have c2 : odt = .fields #[.ref t0, .none, .none, .none, .bool false, .none] := c2
    have c3 : osl = #[] := c3
    have c5 : od = some hh.objs.size := c5
    rw [c1, c2, c3, c5] at g1
    exact g1
  obtain ⟨o2, f1, f2, f3, f4⟩ := I'
  rw [g1'] at f1
  cases f1
  obtain ⟨dx, e1, e2, hn⟩ : ∃ d, (some hh.objs.size : Option Addr) = some d ∧ d ≠ e ∧ h'.Ns1 d (fun z => if z = f then some u else none) := by
    rcases f4 with ⟨z, _⟩ | h
    · cases z
    · exact h
  cases e1
  have J := I2.write (x := e) (e := e) (o := ErX e C (some hh.objs.size)) (h' := h') (t' := tk') (by rw [he]; exact True.intro) (.inl rfl) k' ⟨_, g1'⟩ (erX_ok g1') (Nat.lt_of_lt_of_le I2.tk ht)
  have hfr : H2 hh.objs.size = none := I2.fresh
  have J2 := Inv.track (a := hh.objs.size) (o := .xd [(f, y)]) I2 (Heap.get?_none_of_le (Nat.le_refl _)) J (by rw [upd_ne ne]; exact hfr) hex ⟨_, hn, fun f' => ?_⟩
  · exact ⟨σ, _, J2, q2 _ hfr ne⟩
  · show RelO ([(f, y)].lookup f') (if f' = f then some u else none)
    by_cases z : f' = f
    · subst z; rw [if_pos rfl, List.lookup_cons_self]; exact ry
    · rw [if_neg z, List.lookup_cons, show (f' == f) = false from beq_false_of_ne z]; exact True.intro
end
section
variable {K : PySem.W.Frag} {σ : St} {H : Hp} {Q : VK} {D : Ends} {t : TA} {te ta tv : TE} {f c1 c2 : Str} {C : Addr} {E : XK} {sp : Sp}
theorem st_bin (h : t σ H fun vs H1 => ∃ e C od v, vs = [.ref e, v] ∧ H1 e = some (ErX e C od) ∧ excI K C = true ∧ Q .non H1) : tBIn K t σ H Q := h
theorem st_fsI (h : te σ H fun x H1 => ∃ i : Int, x = .int i ∧ i.natAbs ≤ 1000 ∧ Q (.str (c1 ++ Str.ofString (toString i) ++ c2)) H1) : tFsI c1 c2 te σ H Q := h
theorem st_xet (h : tv σ H fun y H1 => ta σ H1 fun x H2 => ∃ e C, x = .ref e ∧ H2 e = some (ErX e C none) ∧ SeI K C f ∧ ∀ dx, H2 dx = none → dx ≠ e → D.nx σ (upd (upd H2 e (ErX e C (some dx))) dx (.xd [(f, y)]))) : sXet K ta tv f D σ H := h
theorem st_raiseI (h : t σ H fun vs H1 => vs.length ≤ sizeLine ∧ ∀ e, H1 e = none → sp (.ref e :: vs) (upd H1 e (ErX e C none)) (fun v H2 => v = .non ∧ ∃ od, H2 e = some (ErX e C od) ∧ E (.ref C) od (rmv H2 e)) E0) : tRaiseI C E sp t D σ H := h
theorem st_xat (h : ta σ H fun x H1 => ∃ a C dx fs v, x = .ref a ∧ H1 a = some (ErrD a C (some dx)) ∧ H1 dx = some (.xd fs) ∧ ExI K C f ∧ fs.lookup f = some v ∧ Q v H1) : tXat K ta f σ H Q := h
end
end L2
namespace L2
open PySem PySem.Spec PyProof.Rows
section
variable {X : Cx}
def r_minL (K : PySem.W.Frag) : List V → Hp → VK → Prop := fun xs H Q => ∃ (p : Addr) (js : List Int), xs = [.ref p] ∧ SqL K H p (js.map V.int) ∧ js ≠ [] ∧ ∀ j : Int, j ∈ js → (∀ i ∈ js, j ≤ i) → Q (.int j) H
theorem call_minL (hc : X.calm = true) : CallR X (.builtin "min") (r_minL X.K) := by
  intro pins s σ H xs us Q I r h
  obtain ⟨p, js, rfl, hq, hne, q⟩ := h
  obtain ⟨u, rfl, ru⟩ := vals1 r
  cases ru
  obtain ⟨its, rv, pl, hz⟩ := I.list hq
  obtain ⟨ps, rfl, e⟩ := intVals rv
  have hl : s.heap.IsList p (intItems ps.toArray) := by
    have := pl.isList
    rw [show intItems ps.toArray = (ps.map (fun p => Value.int p.1 p.2)).toArray by unfold intItems; simp]
    exact this
  have hlen : 0 < ps.toArray.size := by
    rw [List.size_toArray]
    cases ps with
    | nil => exact absurd e.symm hne
    | cons _ _ => simp
  refine wpAny_with_toks (n := 1) I.tk (min_intList (I.ok.hd hc) hl hlen fun v h' tk hv hk ht => ?_)
  obtain ⟨t, rfl⟩ := intItems_at hv
  have b := argBest_lt (numAt ps.toArray) (ps.toArray.size - 1)
  have at_ : ∀ i, i < ps.length → numAt ps.toArray i = (js[i]?).getD 0 := fun i hi => by
    unfold numAt
    rw [← e, List.getElem?_map]
    simp
  have hjl : js.length = ps.length := by rw [← e]; simp
  have hs : ps.toArray.size = ps.length := List.size_toArray ..
  rw [hs] at b hlen
  refine ⟨.int _, H, I.kept hk ht, ⟨_, rfl⟩, q _ ?_ fun i hi => ?_⟩
  · rw [hs, at_ _ (by omega)]
    have : argBest (fun i j => decide (numAt ps.toArray i < numAt ps.toArray j)) (ps.length - 1) < js.length := by omega
    rw [List.getElem?_eq_getElem this]
    exact List.getElem_mem this
  · obtain ⟨k, hk, rfl⟩ := List.getElem_of_mem hi
    have := b.2 k (by omega)
    rw [at_ k (by omega), List.getElem?_eq_getElem hk] at this
    rw [hs]
    exact this
theorem v_minL {H : Hp} {Q : VK} {K : PySem.W.Frag} {p : Addr} {js : List Int} (h : SqL K H p (js.map V.int)) (hne : js ≠ []) (q : ∀ j : Int, j ∈ js → (∀ i ∈ js, j ≤ i) → Q (.int j) H) : r_minL K [.ref p] H Q := ⟨p, js, rfl, h, hne, q⟩
theorem strs_at : ∀ {vs : List Value} {ys : List Str} {j : Nat} {y : Str}, StrsAre vs ys → ys[j]? = some y → ∃ t, vs[j]? = some (.str y t)
  | _, _, j, y, .nil, h => by cases h
  | _, _, 0, y, .cons n u h, e => by cases e; exact ⟨u, rfl⟩
  | _, _, j + 1, y, .cons n u h, e => strs_at h (j := j) e
theorem strs_len : ∀ {vs : List Value} {ys : List Str}, StrsAre vs ys → vs.length = ys.length
  | _, _, .nil => rfl
  | _, _, .cons n u h => by rw [List.length_cons, List.length_cons, strs_len h]
def rIndexL : V → List V → Hp → VK → Prop := fun x vs H Q => ∃ (l : Addr) (xs : List Str) (y : Str) (j : Nat), x = .ref l ∧ vs = [.str y] ∧ H l = some (.lst (strV xs)) ∧ xs[j]? = some y ∧ (∀ m, m < j → xs[m]? ≠ some y) ∧ Q (.int j) H
theorem mt_indexL : MtR X "list.index" rIndexL := by
  intro pins s σ H x vs v us Q I rx rv h
  obtain ⟨l, xs, y, j, rfl, rfl, hH, hj, hno, q⟩ := h
  cases rx
  obtain ⟨u, rfl, ru⟩ := rv.one
  obtain ⟨t, rfl⟩ := ru
  obtain ⟨its, n, r, e, hz⟩ := I.lst hH
  have ra := strs_are r
  have hl := strs_len ra
  have hjl : j < its.length := by rw [hl]; exact (List.getElem?_eq_some_iff.mp hj).1
  have hxl : xs.length ≤ sizeLine := by have := hz; unfold strV at this; rw [List.length_map] at this; exact this
  obtain ⟨t', et⟩ := strs_at ra hj
  have h1 : its.toArray[j]'(by simpa using hjl) = .str y t' := by
    have := List.getElem?_eq_getElem hjl
    rw [et] at this
    simp only [List.getElem_toArray]
    exact (Option.some.inj this).symm
  refine call_meets PySem.F.slot_list_index ⟨_, e, rfl⟩ PySem.F.entry_list_index (PySem.F.args_list_index_2 _ _) (PySem.SeqAt.list_indexAt l its.toArray n _ _ (.str y t) (isStrOf y) j (by simpa using hjl) (by rw [sizeLine_eq] at hxl; omega) (by rw [h1]; simp [isStrOf]) (fun m hm hmj => ?_)) ⟨e, fun z hy => (eq_isStrOf y t ra z (by simpa using hy)).at _ _, ?_⟩
  · have hml : m < xs.length := by omega
    have em : xs[m]? = some xs[m] := List.getElem?_eq_getElem hml
    obtain ⟨t2, e2⟩ := strs_at ra em
    have h2 : its.toArray[m]'hm = .str xs[m] t2 := by
      have hm' : m < its.length := by omega
      have := List.getElem?_eq_getElem hm'
      rw [e2] at this
      simp only [List.getElem_toArray]
      exact (Option.some.inj this).symm
    rw [h2]
    have := hno m hmj
    rw [em] at this
    show (xs[m] == y) = false
    exact beq_false_of_ne fun z => this (by rw [z])
  · exact ⟨.int _, H, I.tok _, ⟨_, rfl⟩, q⟩
end
end L2
local macro_rules | `(tactic| walk_at "or") => `(tactic| first | exact .inl rfl | exact .inr rfl)
local macro_rules | `(tactic| walk_at "le") => `(tactic| first | decide | omega)
local macro_rules | `(tactic| walk_at "step") => `(tactic| (repeat (first | (with_reducible first | refine L2.st_seq ?_ | refine L2.iteT ?_ | refine L2.iteF ?_ | refine L2.st_asg ?_ | refine L2.st_name ?_ | refine L2.st_C ?_ | refine L2.st_op ?_ | refine L2.st_un ?_ | refine L2.st_ret ?_ | refine L2.st_retN ?_ | refine L2.st_drop ?_ | refine L2.st_if ?_ | refine L2.st_ifE ?_ | refine L2.st_test ?_ | refine L2.st_B ?_ | refine L2.st_bl ?_ | refine L2.st_and ?_ | refine L2.st_or ?_ | refine L2.st_not ?_ | refine L2.st_andV ?_ | refine L2.st_orV ?_ | refine L2.st_notV ?_ | refine L2.st_nil ?_ | refine L2.st_cons ?_ | refine L2.st_tup ?_ | refine L2.st_lst ?_ | refine L2.st_call ?_ | refine L2.st_CB ?_ | refine L2.st_tt ?_ | refine L2.st_break ?_ | refine L2.st_cont ?_ | refine L2.st_next ?_ | refine L2.st_sub ?_ | refine L2.st_bm ?_ | refine L2.st_chain ?_ | refine L2.st_for ?_ | refine L2.st_comp ?_ | refine L2.st_any ?_ | refine L2.st_rng1 ?_ | refine L2.st_rng2 ?_ | refine L2.st_rev ?_ | refine L2.st_sl ?_ | refine L2.st_part ?_ | refine L2.st_nopart ?_ | refine L2.st_int ?_ | refine L2.st_repl ?_ | refine L2.st_enumS ?_ | refine L2.st_iStr ?_ | refine L2.st_bm0 ?_ | refine L2.st_rng3 ?_ | refine L2.st_enumT ?_ | refine L2.st_rev2 ?_ | refine L2.st_rev3 ?_ | refine L2.st_inV ?_ | refine L2.st_dget ?_ | refine L2.st_orT ?_ | refine L2.st_revL ?_ | refine L2.v_min ?_ | refine L2.v_max ?_ | refine L2.st_strs ?_ | refine L2.v_addI ?_ | refine L2.v_subI ?_ | refine L2.v_ltI ?_ | refine L2.v_leI ?_ | refine L2.v_gtI ?_ | refine L2.v_geI ?_ | refine L2.v_eqI ?_ | refine L2.v_eqS ?_ | refine L2.v_neS ?_ | refine L2.v_neI ?_ | refine L2.v_is ?_ | refine L2.v_isnot ?_) | ((with_reducible refine' L2.st_var ?ev ?_); (case ev => exact rfl)) | ((with_reducible refine L2.v_mod ?ec ?_); (case ec => first | decide | omega | assumption)) | ((with_reducible refine L2.v_fdiv ?ec ?_); (case ec => first | exact ⟨by decide, by decide⟩ | exact ⟨by omega, by omega⟩)))))
namespace TX
open PySem PySem.StrLaws PySem.Builtin PySem.Builtin.Str
def rep (Y Z : List Nat) : Nat → List Nat → List Nat
  | _, [] => []
  | k + 1, _ :: l => rep Y Z k l
  | 0, c :: l => if Y.isPrefixOf (c :: l) = true then Z ++ rep Y Z (Y.length - 1) l else c :: rep Y Z 0 l
end TX
namespace TX
open PySem
def letter (c : Nat) : Bool := decide (97 ≤ c) && decide (c ≤ 122)
end TX
namespace My
open PySem L2 PyProof.Rows
structure Row where
  name : Str
  sort : Str
  host : Str
  shuts : List Str
  bars : List Str
def Row.da (r : Row) : PyData := .tuple [.str r.name, .str r.sort, .str r.host, .tuple (sDa r.shuts), .tuple (sDa r.bars)]
def oV : Option Str → V
  | some s => .str s
  | none => .non
section
variable {K : PySem.W.Frag} {H H' : Hp} {Q : VK}
theorem row_parts {r : Row} {v : V} (h : Dv K H r.da v) : ∃ b sv bv, v = .ref b ∧ SqT K H b [.str r.name, .str r.sort, .str r.host, sv, bv] ∧ Dv K H (.tuple (sDa r.shuts)) sv ∧ Dv K H (.tuple (sDa r.bars)) bv := by
  obtain ⟨b, ys, rfl, hb, h⟩ := dv_tuple.mp h
  rw [Dvs] at h; obtain ⟨v1, r1, rfl, e1, h⟩ := h
  rw [Dvs] at h; obtain ⟨v2, r2, rfl, e2, h⟩ := h
  rw [Dvs] at h; obtain ⟨v3, r3, rfl, e3, h⟩ := h
  rw [Dvs] at h; obtain ⟨v4, r4, rfl, e4, h⟩ := h
  rw [Dvs] at h; obtain ⟨v5, r5, rfl, e5, h⟩ := h
  rw [Dvs] at h; subst h
  rw [dv_str.mp e1, dv_str.mp e2, dv_str.mp e3] at hb
  exact ⟨b, v4, v5, rfl, hb, e4, e5⟩
def Rws (K : PySem.W.Frag) (H : Hp) (v : V) (rs : List Row) : Prop := ∃ a vs, v = .ref a ∧ (SqL K H a vs ∨ SqT K H a vs) ∧ Dvs K H (rs.map Row.da) vs
theorem v_eqO {x : Str} {n : Option Str} (h : Q (.bl (decide (some x = n))) H) : rEqA K (.str x) (oV n) H Q := by
  cases n with
  | none => refine v_eq rfl ?_; have e : (decide ((V.str x) = oV none)) = decide (some x = none) := by simp [oV]
            rw [e]; exact h
  | some y => refine v_eq rfl ?_; have e : (decide ((V.str x) = oV (some y))) = decide (some x = some y) := by simp [oV]
              rw [e]; exact h
theorem v_eqS {x y : Str} (h : Q (.bl (decide (x = y))) H) : rEqA K (.str x) (.str y) H Q := by
  refine v_eq rfl ?_
  have e : (decide ((V.str x) = V.str y)) = decide (x = y) := by simp
  rw [e]; exact h
theorem v_neS {x y : Str} (h : Q (.bl (!decide (x = y))) H) : rNeA K (.str x) (.str y) H Q := by
  refine v_ne rfl ?_
  have e : (decide ((V.str x) = V.str y)) = decide (x = y) := by simp
  rw [e]; exact h
theorem v_eqI {x y : Int} (h : Q (.bl (decide (x = y))) H) : rEqA K (.int x) (.int y) H Q := by
  refine v_eq rfl ?_
  have e : (decide ((V.int x) = V.int y)) = decide (x = y) := by simp
  rw [e]; exact h
end
def rowOf (rs : List Row) (n : Option Str) : Option Row := rs.find? fun r => decide (some r.name = n)
def sortOf (rs : List Row) (n : Option Str) : Option Str := (rowOf rs n).map (·.sort)
def hostOf (rs : List Row) (n : Option Str) : Option Str := (rowOf rs n).bind fun r => if r.sort = ("frame" : Str) then some r.host else none
def frameOf (rs : List Row) (n : Option Str) : Option Str := (rs.find? fun r => decide (r.sort = ("frame" : Str)) && decide (some r.host = n)).map (·.name)
def sp_row_of (K : PySem.W.Frag) : Sp := fun vs H Q _ => ∃ v n rs, vs = [v, oV n] ∧ Rws K H v rs ∧ (rowOf rs n = none → Q .non H) ∧ ∀ r u, rowOf rs n = some r → Dv K H r.da u → Q u H
theorem len_row_of (K : PySem.W.Frag) : ∀ vs H Q E, sp_row_of K vs H Q E → vs.length = ["rows", "name"].length := by
  rintro vs H Q E ⟨v, n, rs, rfl, _⟩; rfl
def R_row_of (K : PySem.W.Frag) : TS :=
 (tSeq (tFor (iAny K (tVar 0)) (gName 2)
 (tIfS (tTest (tOp (rEqA K) (tOp (rIxA K) (tVar 2) (tC (.int 0))) (tVar 1)))
 (tRet (tVar 2)) tNext))
 (tRet (tC .non)))
theorem find_none_snoc {α : Type} {p : α → Bool} : ∀ {l : List α} {i : Nat} {x : α}, l[i]? = some x → (∀ y ∈ l.take i, p y = false) → p x = true → l.find? p = some x
  | y :: l, 0, x, e, _, hp => by cases e; rw [List.find?_cons, hp]
  | y :: l, i + 1, x, e, h, hp => by
    have hy : p y = false := h y (by simp)
    rw [List.find?_cons, hy]
    exact find_none_snoc (i := i) (by simpa using e) (fun z hz => h z (by simp [hz])) hp
theorem take_all {α : Type} {P : α → Prop} {l : List α} {i : Nat} {x : α} (e : l[i]? = some x) (h : ∀ y ∈ l.take i, P y) (hx : P x) : ∀ y ∈ l.take (i + 1), P y := by
  intro y hy
  rw [List.take_add_one, e] at hy
  rcases List.mem_append.mp hy with z | z
  · exact h y z
  · have : y = x := by simpa using z
    subst this; exact hx
theorem rd_row_of {K : PySem.W.Frag} {vs : List V} {H : Hp} {Q : VK} {E : XK} (h : sp_row_of K vs H Q E) : R_row_of K { nx := fun _ H' => Q .non H', rt := Q } (start ["rows", "name", "row"] vs) H := by
  obtain ⟨v, n, rs, rfl, ⟨a, xs, rfl, hq, hd⟩, h1, h2⟩ := h
  show R_row_of K _ [some (.ref a), some (oV n), none] H
  have hlen : xs.length = rs.length := by have := hd.length; simpa using this
  unfold R_row_of
  refine st_seq (st_for (st_any (st_var rfl ?_)))
  refine any_for hq (fun i σ H' => H' = H ∧ (∃ w, σ = [some (.ref a), some (oV n), w]) ∧ ∀ r ∈ rs.take i, decide (some r.name = n) = false) ⟨rfl, ⟨_, rfl⟩, by simp⟩ (fun hl i σ H' _ p => p.1 ▸ hl) (fun ht i σ H' _ p => p.1 ▸ ht) ?_ ?_
  · rintro i x σ H' hx ⟨rfl, ⟨w, rfl⟩, hn⟩
    obtain ⟨d, hd1, hd2⟩ := hd.get' hx
    rw [List.getElem?_map] at hd1
    obtain ⟨r, hr, rfl⟩ := Option.map_eq_some_iff.mp hd1
    obtain ⟨b, sv, bv, rfl, hb, hsv, hbv⟩ := row_parts hd2
    refine st_name (st_if (st_test (st_op (st_op (st_var rfl (st_C (v_ixT hb rfl (st_var rfl (v_eqO ⟨_, rfl, ?_⟩)))))))))
    by_cases e : some r.name = n
    · rw [decide_eq_true e, if_pos rfl]
      refine ⟨_, rfl, ?_⟩
      exact h2 r _ (find_none_snoc hr hn (decide_eq_true e)) hd2
    · rw [decide_eq_false e, if_neg Bool.false_ne_true]
      exact st_next ⟨rfl, ⟨_, rfl⟩, take_all hr hn (decide_eq_false e)⟩
  · rintro σ H' ⟨rfl, ⟨w, rfl⟩, hn⟩
    show Q .non H'
    refine h1 ?_
    unfold rowOf
    rw [List.find?_eq_none]
    intro r hr
    rw [hlen, List.take_length] at hn
    simp [hn r hr]
end My
namespace My
open PySem L2 PyProof.Rows
variable {K : PySem.W.Frag} {vs : List V} {H : Hp} {Q : VK} {E : XK}
def sp_sort_of (K : PySem.W.Frag) : Sp := fun vs H Q _ => ∃ v n rs, vs = [v, oV n] ∧ Rws K H v rs ∧ Q (oV (sortOf rs n)) H
theorem len_sort_of (K : PySem.W.Frag) : ∀ vs H Q E, sp_sort_of K vs H Q E → vs.length = ["book", "name"].length := by rintro vs H Q E ⟨v, n, rs, rfl, _⟩; rfl
def R_sort_of (K : PySem.W.Frag) : TS :=
 (tSeq (tAsg (tCall (sp_row_of K) [] E0 (tCons (tVar 0) (tCons (tVar 1) tNil))) (gName 2))
 (tRet (tIf (tTest (tOp rIsA (tVar 2) (tC .non))) (tC .non) (tOp (rIxA K) (tVar 2) (tC (.int 1))))))
theorem rd_sort_of (h : sp_sort_of K vs H Q E) : R_sort_of K { nx := fun _ H' => Q .non H', rt := Q } (start ["book", "name", "row"] vs) H := by
  obtain ⟨v, n, rs, rfl, hR, q⟩ := h
  show R_sort_of K _ [some v, some (oV n), none] H
  refine ⟨_, rfl, _, rfl, v, n, rs, rfl, hR, fun e => ?_, fun r u e hu => ?_⟩
  · refine ⟨_, rfl, rfl, _, rfl, ?_⟩
    show Q .non H
    have : sortOf rs n = none := by unfold sortOf; rw [e]; rfl
    rw [this] at q; exact q
  · obtain ⟨b, sv, bv, rfl, hb, _, _⟩ := row_parts hu
    refine ⟨_, rfl, rfl, _, rfl, ?_⟩
    show (if decide (V.ref b = V.non) = true then _ else _)
    rw [decide_eq_false (by simp)]; refine iteF ?_
    refine ⟨_, rfl, v_ixT hb rfl ?_⟩
    have : sortOf rs n = some r.sort := by unfold sortOf; rw [e]; rfl
    rw [this] at q; exact q
def sp_host_of (K : PySem.W.Frag) : Sp := fun vs H Q _ => ∃ v n rs, vs = [v, oV n] ∧ Rws K H v rs ∧ Q (oV (hostOf rs n)) H
theorem len_host_of (K : PySem.W.Frag) : ∀ vs H Q E, sp_host_of K vs H Q E → vs.length = ["book", "name"].length := by rintro vs H Q E ⟨v, n, rs, rfl, _⟩; rfl
def R_host_of (K : PySem.W.Frag) : TS :=
 (tSeq (tAsg (tCall (sp_row_of K) [] E0 (tCons (tVar 0) (tCons (tVar 1) tNil))) (gName 2))
 (tSeq (tIfS (tOr (tTest (tOp rIsA (tVar 2) (tC .non))) (tTest (tOp (rNeA K) (tOp (rIxA K) (tVar 2) (tC (.int 1))) (tC (.str ("frame" : Str))))))
 (tRet (tC .non)) tNext)
 (tRet (tOp (rIxA K) (tVar 2) (tC (.int 2))))))
theorem rd_host_of (h : sp_host_of K vs H Q E) : R_host_of K { nx := fun _ H' => Q .non H', rt := Q } (start ["book", "name", "row"] vs) H := by
  obtain ⟨v, n, rs, rfl, hR, q⟩ := h
  show R_host_of K _ [some v, some (oV n), none] H
  refine ⟨_, rfl, _, rfl, v, n, rs, rfl, hR, fun e => ?_, fun r u e hu => ?_⟩
  · refine ⟨_, rfl, rfl, _, rfl, ?_⟩
    show Q .non H
    have : hostOf rs n = none := by unfold hostOf; rw [e]; rfl
    rw [this] at q; exact q
  · obtain ⟨b, sv, bv, rfl, hb, _, _⟩ := row_parts hu
    refine ⟨_, rfl, rfl, _, rfl, ?_⟩
    show (if decide (V.ref b = V.non) = true then _ else _)
    rw [decide_eq_false (by simp)]; refine iteF ?_
    refine ⟨_, rfl, v_ixT hb rfl (v_neS ⟨_, rfl, ?_⟩)⟩
    by_cases hs : r.sort = ("frame" : Str)
    · rw [decide_eq_true hs, Bool.not_true]; refine iteF ?_
      refine ⟨_, rfl, v_ixT hb rfl ?_⟩
      have : hostOf rs n = some r.host := by unfold hostOf; rw [e]; show (if r.sort = ("frame" : Str) then some r.host else none) = _; rw [if_pos hs]
      rw [this] at q; exact q
    · rw [decide_eq_false hs, Bool.not_false]; refine iteT ?_
      show Q .non H
      have : hostOf rs n = none := by unfold hostOf; rw [e]; show (if r.sort = ("frame" : Str) then some r.host else none) = _; rw [if_neg hs]
      rw [this] at q; exact q
def sp_frame_of (K : PySem.W.Frag) : Sp := fun vs H Q _ => ∃ v n rs, vs = [v, oV n] ∧ Rws K H v rs ∧ Q (oV (frameOf rs n)) H
theorem len_frame_of (K : PySem.W.Frag) : ∀ vs H Q E, sp_frame_of K vs H Q E → vs.length = ["book", "name"].length := by rintro vs H Q E ⟨v, n, rs, rfl, _⟩; rfl
def R_frame_of (K : PySem.W.Frag) : TS :=
 (tSeq (tFor (iAny K (tVar 0)) (gName 2)
 (tIfS (tAnd (tTest (tOp (rEqA K) (tOp (rIxA K) (tVar 2) (tC (.int 1))) (tC (.str ("frame" : Str))))) (tTest (tOp (rEqA K) (tOp (rIxA K) (tVar 2) (tC (.int 2))) (tVar 1))))
 (tRet (tOp (rIxA K) (tVar 2) (tC (.int 0)))) tNext))
 (tRet (tC .non)))
theorem rd_frame_of (h : sp_frame_of K vs H Q E) : R_frame_of K { nx := fun _ H' => Q .non H', rt := Q } (start ["book", "name", "row"] vs) H := by
  obtain ⟨v, n, rs, rfl, ⟨a, xs, rfl, hq, hd⟩, q⟩ := h
  show R_frame_of K _ [some (.ref a), some (oV n), none] H
  have hlen : xs.length = rs.length := by have := hd.length; simpa using this
  refine ⟨_, rfl, any_for hq (fun i σ H' => H' = H ∧ (∃ w, σ = [some (.ref a), some (oV n), w]) ∧ ∀ r ∈ rs.take i, (decide (r.sort = ("frame" : Str)) && decide (some r.host = n)) = false) ⟨rfl, ⟨_, rfl⟩, by simp⟩ (fun hl i σ H' _ p => p.1 ▸ hl) (fun ht i σ H' _ p => p.1 ▸ ht) ?_ ?_⟩
  · rintro i x σ H' hx ⟨rfl, ⟨w, rfl⟩, hn⟩
    obtain ⟨d, hd1, hd2⟩ := hd.get' hx
    rw [List.getElem?_map] at hd1
    obtain ⟨r, hr, rfl⟩ := Option.map_eq_some_iff.mp hd1
    obtain ⟨b, sv, bv, rfl, hb, hsv, hbv⟩ := row_parts hd2
    refine ⟨_, rfl, v_ixT hb rfl (v_eqS ⟨_, rfl, ?_⟩)⟩
    by_cases hs : r.sort = ("frame" : Str)
    · rw [decide_eq_true hs]; refine iteT ?_
      refine ⟨_, rfl, v_ixT hb rfl ⟨_, rfl, v_eqO ⟨_, rfl, ?_⟩⟩⟩
      by_cases e : some r.host = n
      · rw [decide_eq_true e]; refine iteT ?_
        refine ⟨_, rfl, v_ixT hb rfl ?_⟩
        have : frameOf rs n = some r.name := by
          unfold frameOf
          rw [find_none_snoc hr hn (by rw [decide_eq_true hs, decide_eq_true e]; rfl)]; rfl
        rw [this] at q; exact q
      · rw [decide_eq_false e]; refine iteF ?_
        exact ⟨rfl, ⟨_, rfl⟩, take_all hr hn (by rw [decide_eq_false e, Bool.and_false])⟩
    · rw [decide_eq_false hs]; refine iteF ?_
      refine iteF ?_
      exact ⟨rfl, ⟨_, rfl⟩, take_all hr hn (by rw [decide_eq_false hs, Bool.false_and])⟩
  · rintro σ H' ⟨rfl, ⟨w, rfl⟩, hn⟩
    show Q .non H'
    have : frameOf rs n = none := by
      unfold frameOf
      rw [List.find?_eq_none.mpr]
      · rfl
      · intro r hr
        rw [hlen, List.take_length] at hn
        rw [hn r hr]; exact Bool.false_ne_true
    rw [this] at q; exact q
def ups (rs : List Row) : Nat → Option Str → List Str
  | 0, _ => []
  | k + 1, n => match frameOf rs n with
    | none => []
    | some y => y :: ups rs k (some y)
def Falls (rs : List Row) (rk : Str → Nat) : Prop := ∀ x y, frameOf rs (some x) = some y → rk y < rk x
theorem ups_more {rs : List Row} {rk : Str → Nat} (f : Falls rs rk) : ∀ (k : Nat) (x : Str), rk x ≤ k → ups rs k (some x) = ups rs (rk x) (some x)
  | 0, x, h => by have : rk x = 0 := by omega
                  rw [this]
  | k + 1, x, h => by
    cases e : frameOf rs (some x) with
    | none =>
      have e1 : ups rs (k + 1) (some x) = [] := by rw [ups, e]
      rw [e1]
      cases e2 : rk x with
      | zero => rfl
      | succ m => rw [ups, e]
    | some y =>
      have hy := f x y e
      have e1 : ups rs (k + 1) (some x) = y :: ups rs k (some y) := by rw [ups, e]
      rw [e1, ups_more f k y (by omega)]
      cases e2 : rk x with
      | zero => omega
      | succ m =>
        have e3 : ups rs (m + 1) (some x) = y :: ups rs m (some y) := by rw [ups, e]
        rw [e3, ups_more f m y (by omega)]
theorem ups_cons {rs : List Row} {rk : Str → Nat} (f : Falls rs rk) {x y : Str} (e : frameOf rs (some x) = some y) : ups rs (rk x) (some x) = y :: ups rs (rk y) (some y) := by
  have hy := f x y e
  cases e2 : rk x with
  | zero => omega
  | succ m =>
    have e3 : ups rs (m + 1) (some x) = y :: ups rs m (some y) := by rw [ups, e]
    rw [e3, ups_more f m y (by omega)]
theorem ups_nil {rs : List Row} {k : Nat} {x : Option Str} (e : frameOf rs x = none) : ups rs k x = [] := by
  cases k with
  | zero => rfl
  | succ m => rw [ups, e]
def sp_belongs (K : PySem.W.Frag) : Sp := fun vs H Q _ => ∃ v n g rs rk, vs = [v, .str n, .str g] ∧ Rws K H v rs ∧ Falls rs rk ∧ Q (.bl (decide (g ∈ ups rs (rk n) (some n)))) H
theorem len_belongs (K : PySem.W.Frag) : ∀ vs H Q E, sp_belongs K vs H Q E → vs.length = ["book", "name", "frame"].length := by rintro vs H Q E ⟨v, n, g, rs, rk, rfl, _⟩; rfl
def R_belongs (K : PySem.W.Frag) : TS :=
 (tSeq (tAsg (tCall (sp_frame_of K) [] E0 (tCons (tVar 0) (tCons (tVar 1) tNil))) (gName 3))
 (tSeq (tWhile (tTest (tOp rIsNotA (tVar 3) (tC .non)))
 (tSeq (tIfS (tTest (tOp (rEqA K) (tVar 3) (tVar 2)))
 (tRet (tC (.bl true))) tNext)
 (tAsg (tCall (sp_frame_of K) [] E0 (tCons (tVar 0) (tCons (tVar 3) tNil))) (gName 3))))
 (tRet (tC (.bl false)))))
def upTo (rs : List Row) (rk : Str → Nat) : Option Str → List Str
  | none => []
  | some y => y :: ups rs (rk y) (some y)
theorem ups_upTo {rs : List Row} {rk : Str → Nat} (f : Falls rs rk) (x : Str) : ups rs (rk x) (some x) = upTo rs rk (frameOf rs (some x)) := by
  cases e : frameOf rs (some x) with
  | none => rw [ups_nil e]; rfl
  | some y => rw [ups_cons f e]; rfl
theorem rd_belongs (h : sp_belongs K vs H Q E) : R_belongs K { nx := fun _ H' => Q .non H', rt := Q } (start ["book", "name", "frame", "above"] vs) H := by
  obtain ⟨v, n, g, rs, rk, rfl, hR, f, q⟩ := h
  show R_belongs K _ [some v, some (.str n), some (.str g), none] H
  refine ⟨_, rfl, _, rfl, v, some n, rs, rfl, hR, ?_⟩
  refine while_by (fun σ H' => H' = H ∧ ∃ x, σ = [some v, some (.str n), some (.str g), some (oV x)] ∧ (g ∈ ups rs (rk n) (some n) ↔ g ∈ upTo rs rk x))
    (fun σ _ => match σ with | [_, _, _, some (.str y)] => rk y + 1 | _ => 0) ⟨rfl, frameOf rs (some n), rfl, by rw [ups_upTo f]⟩ ?_ ?_
  · rintro σ H' ⟨rfl, x, rfl, hx⟩
    cases x with
    | none =>
      refine ⟨_, rfl, rfl, _, rfl, ?_⟩
      show Q (.bl false) H'
      have : ¬ g ∈ ups rs (rk n) (some n) := fun z => by have := hx.mp z; simp [upTo] at this
      rw [decide_eq_false this] at q; exact q
    | some y =>
      refine ⟨_, rfl, rfl, _, rfl, ?_⟩
      show (if (!decide (V.str y = V.non)) = true then _ else _)
      rw [decide_eq_false (by simp), Bool.not_false]; refine iteT ?_
      refine ⟨_, rfl, _, rfl, v_eqS ⟨_, rfl, ?_⟩⟩
      by_cases e : y = g
      · rw [decide_eq_true e]; refine iteT ?_
        show Q (.bl true) H'
        have : g ∈ ups rs (rk n) (some n) := hx.mpr (by subst e; simp [upTo])
        rw [decide_eq_true this] at q; exact q
      · rw [decide_eq_false e]; refine iteF ?_
        refine ⟨_, rfl, _, rfl, v, some y, rs, rfl, hR, ?_⟩
        refine ⟨⟨rfl, frameOf rs (some y), rfl, ?_⟩, ?_⟩
        · rw [hx]
          show g ∈ y :: ups rs (rk y) (some y) ↔ _
          rw [ups_upTo f, List.mem_cons]
          exact ⟨fun z => z.resolve_left fun z => e z.symm, Or.inr⟩
        · show (match [some v, some (V.str n), some (V.str g), some (oV (frameOf rs (some y)))] with | [_, _, _, some (.str y)] => rk y + 1 | _ => 0) < rk y + 1
          cases e2 : frameOf rs (some y) with
          | none => exact Nat.succ_pos _
          | some z => have := f y z e2; show rk z + 1 < rk y + 1; omega
  · rintro σ H' Q1 Q2 hQ ⟨v1, e1, e2, k, e3, q1⟩
    exact ⟨v1, e1, e2, k, e3, hQ _ _ q1⟩
end My
namespace My
open PySem L2
variable {K : PySem.W.Frag} {vs : List V} {H : Hp} {Q : VK} {E : XK}
def sp__law_cell_at (K : PySem.W.Frag) : Sp := fun vs H Q _ => ∃ (a : Addr) (ns : List Int) (k : Int), vs = [.ref a, .int k] ∧ SqL K H a (ns.map V.int) ∧ 0 ≤ k ∧ ∀ n : Int, Q (.int n) H
theorem len__law_cell_at (K : PySem.W.Frag) : ∀ vs H Q E, sp__law_cell_at K vs H Q E → vs.length = ["_law_script", "_law_k"].length := by rintro vs H Q E ⟨v, n, rs, rfl, _⟩; rfl
def R__law_cell_at (K : PySem.W.Frag) : TS :=
 (tSeq (tIfS (tTest (tOp rLtA (tVar 1) (tCB (rLenA K) (tCons (tVar 0) tNil))))
 (tRet (tOp (rIxA K) (tVar 0) (tVar 1))) tNext)
 (tRet (tC (.int 0))))
theorem rd__law_cell_at (h : sp__law_cell_at K vs H Q E) : R__law_cell_at K { nx := fun _ H' => Q .non H', rt := Q } (start ["_law_script", "_law_k"] vs) H := by
  obtain ⟨a, ns, k, rfl, hS, h0, q⟩ := h
  show R__law_cell_at K _ [some (.ref a), some (.int k)] H
  unfold R__law_cell_at
  walk_at "step"
  refine v_lenQ (.inl hS) ?_
  walk_at "step"
  rw [List.length_map]
  by_cases hk : k < (ns.length : Int)
  · rw [decide_eq_true hk]; refine iteT ?_
    have hk' : k.toNat < ns.length := by omega
    walk_at "step"
    refine v_ixL hS (v := .int ns[k.toNat]) ?_ (q _)
    have ek : k = ((k.toNat : Nat) : Int) := by omega
    have e : atI (ns.map V.int) ((k.toNat : Nat) : Int) = some (.int ns[k.toNat]) := atI_nat (by rw [List.getElem?_map, List.getElem?_eq_getElem hk'] <;> rfl)
    rw [← ek] at e
    exact e
  · rw [decide_eq_false hk]; refine iteF ?_
    exact q 0
def sp__law_pot (K : PySem.W.Frag) : Sp := fun vs H Q _ => ∃ c : Int, vs = [.int c] ∧ ∀ (p : Addr) (n : Int), H p = none → Q (.ref p) (upd H p (.lst [.int n]))
theorem len__law_pot (K : PySem.W.Frag) : ∀ vs H Q E, sp__law_pot K vs H Q E → vs.length = ["_law_cell"].length := by rintro vs H Q E ⟨c, rfl, _⟩; rfl
def R__law_pot (K : PySem.W.Frag) : TS :=
 (tSeq (tIfS (tTest (tOp (rEqA K) (tOp (rI (fun _ j => 0 < j) fun i j => .int (i % j)) (tVar 0) (tC (.int 2))) (tC (.int 0))))
 (tRet (tLst (tCons (tOp (rI CDiv fun i j => .int (i / j)) (tVar 0) (tC (.int 2))) tNil))) tNext)
 (tSeq (tAsg (tC (.int 0)) (gName 1))
 (tSeq (tFor (iRng1 (tCons (tC (.int 8)) tNil)) (gName 2)
 (tSeq (tAsg (tOp (rI (fun _ j => 0 < j) fun i j => .int (i % j)) (tOp rMulA (tOp (rAddA K) (tOp (rAddA K) (tOp (rI (fun _ j => 0 < j) fun i j => .int (i % j)) (tOp (rI CDiv fun i j => .int (i / j)) (tVar 0) (tC (.int 2))) (tC (.int 2147483629))) (tOp rMulA (tC (.int 7919)) (tVar 2))) (tC (.int 1))) (tC (.int 48271))) (tC (.int 2147483647))) (gName 3))
 (tSeq (tAsg (tOp (rI (fun _ j => 0 < j) fun i j => .int (i % j)) (tOp (rAddA K) (tOp (rAddA K) (tOp rMulA (tVar 3) (tVar 3)) (tOp rMulA (tC (.int 69621)) (tVar 2))) (tC (.int 7))) (tC (.int 2147483587))) (gName 3))
 (tAsg (tOp (rAddA K) (tOp rMulA (tVar 1) (tC (.int 2147483587))) (tVar 3)) (gName 1)))))
 (tRet (tLst (tCons (tVar 1) tNil))))))
theorem rd__law_pot (h : sp__law_pot K vs H Q E) : R__law_pot K { nx := fun _ H' => Q .non H', rt := Q } (start ["_law_cell", "_law_number", "_law_j", "_law_more"] vs) H := by
  obtain ⟨c, rfl, q⟩ := h
  show R__law_pot K _ [some (.int c), none, none, none] H
  unfold R__law_pot
  walk_at "step"
  have one : (1 : Nat) ≤ sizeLine := by rw [sizeLine_eq]; decide
  by_cases e : c % 2 = 0
  · rw [decide_eq_true e]; refine iteT ?_
    walk_at "step"
    exact ⟨one, fun p hp => q p _ hp⟩
  · rw [decide_eq_false e]; refine iteF ?_
    walk_at "step"
    refine rng1_for (n := 8) (by decide) (by decide) (fun i σ H' => H' = H ∧ ∃ n a b, σ = [some (.int c), some (.int n), a, b]) ⟨rfl, 0, none, none, rfl⟩ ?_ ?_
    · rintro i σ H' hi ⟨rfl, n, a, b, rfl⟩
      walk_at "step"
      refine v_mulI (.inl ⟨by decide, by decide⟩) ?_
      walk_at "step"
      refine v_mulI (.inr ⟨by decide, by decide⟩) ?_
      walk_at "step"
      generalize hm : (c / 2 % 2147483629 + 7919 * (i : Int) + 1) * 48271 % 2147483647 = m
      have m0 : 0 ≤ m := by rw [← hm]; exact Int.emod_nonneg _ (by decide)
      have m1 : m < 2147483647 := by rw [← hm]; exact Int.emod_lt_of_pos _ (by decide)
      refine v_mulI (.inl ⟨by omega, by omega⟩) ?_
      walk_at "step"
      refine v_mulI (.inl ⟨by decide, by decide⟩) ?_
      walk_at "step"
      refine v_mulI (.inr ⟨by decide, by decide⟩) ?_
      walk_at "step"
      exact ⟨rfl, _, _, _, rfl⟩
    · rintro σ H' ⟨rfl, n, a, b, rfl⟩
      walk_at "step"
      exact ⟨one, fun p hp => q p _ hp⟩
def sp__law_take (K : PySem.W.Frag) : Sp := fun vs H Q _ => ∃ (p : Addr) (m n : Int), vs = [.ref p, .int m] ∧ H p = some (.lst [.int n]) ∧ 0 < m ∧ m < 1073741824 ∧ ∀ r n' : Int, 0 ≤ r → r < m → Q (.int r) (upd H p (.lst [.int n']))
theorem len__law_take (K : PySem.W.Frag) : ∀ vs H Q E, sp__law_take K vs H Q E → vs.length = ["_law_pot_here", "_law_most"].length := by rintro vs H Q E ⟨p, m, n, rfl, _⟩; rfl
def R__law_take (K : PySem.W.Frag) : TS :=
 (tSeq (tAsg (tOp (rI (fun _ j => 0 < j) fun i j => .int (i % j)) (tOp (rIxA K) (tVar 0) (tC (.int 0))) (tVar 1)) (gName 2))
 (tSeq (tAsg (tOp (rI CDiv fun i j => .int (i / j)) (tOp (rIxA K) (tVar 0) (tC (.int 0))) (tVar 1)) (gSub (tVar 0) (tC (.int 0)) rSetA))
 (tRet (tVar 2))))
theorem rd__law_take (h : sp__law_take K vs H Q E) : R__law_take K { nx := fun _ H' => Q .non H', rt := Q } (start ["_law_pot_here", "_law_most", "_law_number"] vs) H := by
  obtain ⟨p, m, n, rfl, hp, h0, h1, q⟩ := h
  show R__law_take K _ [some (.ref p), some (.int m), none] H
  unfold R__law_take
  walk_at "step"
  refine v_ixL (SqL.of hp) (v := .int n) rfl ?_
  walk_at "step"
  refine v_ixL (SqL.of hp) (v := .int n) rfl ?_
  walk_at "step"
  refine .inl (v_setL hp (j := 0) rfl ?_)
  walk_at "step"
  exact (q _ _ (Int.emod_nonneg _ (by omega)) (Int.emod_lt_of_pos _ h0))
theorem strV_get {xs : List Str} {i : Nat} {x : V} (h : (strV xs)[i]? = some x) : ∃ y, xs[i]? = some y ∧ x = .str y := by
  unfold strV at h
  rw [List.getElem?_map] at h
  obtain ⟨y, hy, e⟩ := Option.map_eq_some_iff.mp h
  exact ⟨y, hy, e.symm⟩
theorem strV_len (xs : List Str) : (strV xs).length = xs.length := List.length_map _
theorem small64 {n : Nat} (h : n ≤ 1000) : n ≤ sizeLine := Nat.le_of_lt (small1000 h)
end My
namespace My
open PySem L2
def ch (c : Nat) : Str := ⟨#[c]⟩
def Lt : Str := "abcdefghijklmnopqrstuvwxyz"
theorem str_ext {x y : Str} (h : x.cps.toList = y.cps.toList) : x = y := by
  obtain ⟨a⟩ := x
  obtain ⟨b⟩ := y
  exact congrArg Str.mk (Array.toList_inj.mp h)
theorem lt_get : ∀ j : Nat, j < 26 → Lt.cps.toList[j]? = some (97 + j) := by decide +kernel
theorem lt_len : Lt.length = 26 := by decide +kernel
theorem lt_at {i : Int} (h0 : 0 ≤ i) (h1 : i < 26) : atI Lt.cps.toList i = some (97 + i.toNat) := by
  have e : i = ((i.toNat : Nat) : Int) := by omega
  have q : atI Lt.cps.toList ((i.toNat : Nat) : Int) = some (97 + i.toNat) := atI_nat (lt_get _ (by omega))
  rw [← e] at q
  exact q
theorem lt_occ : ∀ c : Nat, c < 26 → Builtin.Str.occurrences Lt (ch (97 + c)) 0 Lt.length 1 = [c] := by decide +kernel
theorem join_ch : ∀ bs : List Nat, (PySem.Txt.join ("" : Str) (bs.map ch)).cps.toList = bs := by
  intro bs
  have e : PySem.Txt.join ("" : Str) (bs.map ch) = Str.join ("" : Str) (bs.map ch) := PySem.StrLaws.glued_eq_join _ _
  rw [e]
  induction bs with
  | nil => rfl
  | cons b r ih =>
    cases r with
    | nil => rfl
    | cons c r =>
      show ((ch b ++ ("" : Str) ++ Str.join ("" : Str) ((c :: r).map ch)).cps).toList = _
      have ih := ih (PySem.StrLaws.glued_eq_join _ _)
      show ((ch b).cps ++ ("" : Str).cps ++ (Str.join ("" : Str) ((c :: r).map ch)).cps).toList = _
      rw [Array.toList_append, Array.toList_append, ih]
      rfl
theorem mul_ch {c : Nat} {n : Int} (h : 1 ≤ n) : (PySem.Txt.mul (ch c) n).cps.toList = List.replicate n.toNat c := by
  unfold PySem.Txt.mul
  rw [if_neg (by omega)]
  have f : ∀ (k : Nat) (acc : Array Nat), ((List.replicate k #[c]).foldl (· ++ ·) acc).toList = acc.toList ++ List.replicate k c := by
    intro k
    induction k with
    | zero => intro acc; simp
    | succ k ih => intro acc; rw [List.replicate_succ, List.foldl_cons, ih]; simp [List.replicate_succ]
  by_cases h1 : n = 1
  · subst h1; rfl
  · have e : (n == 1 || (ch c).length == 0) = false := by
      have : (n == 1) = false := by simpa using h1
      rw [this]; rfl
    rw [e, if_neg Bool.false_ne_true]
    have := f n.toNat #[]
    show (List.foldl (fun x1 x2 => x1 ++ x2) #[] (List.replicate n.toNat #[c])).toList = _
    simpa using this
structure NameOk (x : Str) : Prop where
  one : 1 ≤ x.length
  eight : x.length ≤ 8
  low : ∀ c ∈ x.cps.toList, 97 ≤ c ∧ c ≤ 122
  noS : x ≠ ("shuts" : Str)
  noB : x ≠ ("bars" : Str)
def nmA (f : Int) (k : Nat) : Str := ⟨(List.replicate (1 + k % 8) (97 + ((f + (k / 8 : Nat)) % 26).toNat)).toArray⟩
theorem nmA_ok (f : Int) (k : Nat) : NameOk (nmA f k) := by
  have h1 : ((f + (k / 8 : Nat)) % 26) < 26 := Int.emod_lt_of_pos _ (by decide)
  have h0 : 0 ≤ ((f + (k / 8 : Nat)) % 26) := Int.emod_nonneg _ (by decide)
  generalize hc : 97 + ((f + (k / 8 : Nat)) % 26).toNat = c at *
  have e : (nmA f k).cps.toList = List.replicate (1 + k % 8) c := by unfold nmA; rw [hc]
  have el : (nmA f k).length = 1 + k % 8 := by show (nmA f k).cps.size = _; rw [← Array.length_toList, e, List.length_replicate]
  refine ⟨by omega, by omega, fun d hd => ?_, fun z => ?_, fun z => ?_⟩
  · rw [e] at hd
    rw [List.eq_of_mem_replicate hd]; omega
  · have : ("shuts" : Str).cps.toList = List.replicate (1 + k % 8) c := by rw [← z, e]
    have a : ∀ d ∈ ("shuts" : Str).cps.toList, d = c := fun d hd => by rw [this] at hd; exact List.eq_of_mem_replicate hd
    have h1 := a 115 (by decide +kernel)
    have h2 := a 104 (by decide +kernel)
    omega
  · have : ("bars" : Str).cps.toList = List.replicate (1 + k % 8) c := by rw [← z, e]
    have a : ∀ d ∈ ("bars" : Str).cps.toList, d = c := fun d hd => by rw [this] at hd; exact List.eq_of_mem_replicate hd
    have h1 := a 98 (by decide +kernel)
    have h2 := a 97 (by decide +kernel)
    omega
theorem nodup_map_range {α : Type} (f : Nat → α) (m : Nat) (h : ∀ i j, i < m → j < m → f i = f j → i = j) : ((List.range m).map f).Nodup := by
  induction m with
  | zero => simp
  | succ m ih =>
    rw [List.range_succ, List.map_append, List.nodup_append]
    refine ⟨ih fun i j hi hj => h i j (by omega) (by omega), by simp, fun a ha b hb => ?_⟩
    obtain ⟨i, hi, rfl⟩ := List.mem_map.mp ha
    have hb : b = f m := by simpa using hb
    subst hb
    intro z
    have hi := List.mem_range.mp hi
    have := h i m (by omega) (by omega) z
    omega
theorem nmA_inj {f : Int} {i j : Nat} (hi : i < 26) (hj : j < 26) (h : nmA f i = nmA f j) : i = j := by
  have e : List.replicate (1 + i % 8) (97 + ((f + (i / 8 : Nat)) % 26).toNat) = List.replicate (1 + j % 8) (97 + ((f + (j / 8 : Nat)) % 26).toNat) := by
    have := congrArg (fun s : Str => s.cps.toList) h
    simpa [nmA] using this
  have l : 1 + i % 8 = 1 + j % 8 := by have := congrArg List.length e; simpa using this
  have c : 97 + ((f + (i / 8 : Nat)) % 26).toNat = 97 + ((f + (j / 8 : Nat)) % 26).toNat := by
    have hm : (97 + ((f + (i / 8 : Nat)) % 26).toNat) ∈ List.replicate (1 + j % 8) (97 + ((f + (j / 8 : Nat)) % 26).toNat) := by
      rw [← e]; exact List.mem_replicate.mpr ⟨by omega, rfl⟩
    exact List.eq_of_mem_replicate hm
  have a1 : 0 ≤ ((f + (i / 8 : Nat)) % 26) := Int.emod_nonneg _ (by decide)
  have a2 : 0 ≤ ((f + (j / 8 : Nat)) % 26) := Int.emod_nonneg _ (by decide)
  omega
def nm0 (bs : List Nat) (th : Nat) (a : Int) (k : Nat) : List Nat := bs.set th (97 + ((a + k) % 26).toNat)
def fixS (x : Str) : Str := if x = ("shuts" : Str) ∨ x = ("bars" : Str) then x ++ ("x" : Str) else x
def nmB (bs : List Nat) (th : Nat) (a : Int) (k : Nat) : Str := fixS ⟨(nm0 bs th a k).toArray⟩
theorem fixS_inj {x y : Str} (hl : x.length = y.length) (h : fixS x = fixS y) : x = y := by
  unfold fixS at h
  have app : ∀ z : Str, (z ++ ("x" : Str)).length = z.length + 1 := fun z => by show (z.cps ++ ("x" : Str).cps).size = _; rw [Array.size_append]; rfl
  split at h <;> split at h
  · have e := congrArg (fun s : Str => s.cps.toList) h
    have e : (x.cps ++ ("x" : Str).cps).toList = (y.cps ++ ("x" : Str).cps).toList := e
    rw [Array.toList_append, Array.toList_append] at e
    exact str_ext (List.append_cancel_right e)
  · have := congrArg Str.length h; rw [app] at this; omega
  · have := congrArg Str.length h; rw [app] at this; omega
  · exact h
theorem nmB_inj {bs : List Nat} {th : Nat} {a : Int} (ht : th < bs.length) {i j : Nat} (hi : i < 26) (hj : j < 26) (h : nmB bs th a i = nmB bs th a j) : i = j := by
  have e := fixS_inj (by show (nm0 bs th a i).toArray.size = (nm0 bs th a j).toArray.size; simp [nm0]) h
  have e : nm0 bs th a i = nm0 bs th a j := by have := congrArg (fun s : Str => s.cps.toList) e; simpa using this
  have e : (bs.set th (97 + ((a + i) % 26).toNat))[th]? = (bs.set th (97 + ((a + j) % 26).toNat))[th]? := congrArg (fun l => l[th]?) e
  rw [List.getElem?_set_self ht, List.getElem?_set_self ht] at e
  have e := Option.some.inj e
  have a1 : 0 ≤ ((a + i) % 26) := Int.emod_nonneg _ (by decide)
  have a2 : 0 ≤ ((a + j) % 26) := Int.emod_nonneg _ (by decide)
  omega
theorem nmB_ok {bs : List Nat} {th : Nat} {a : Int} {k : Nat} (h1 : 1 ≤ bs.length) (h8 : bs.length ≤ 8) (hb : ∀ c ∈ bs, 97 ≤ c ∧ c ≤ 122) : NameOk (nmB bs th a k) := by
  have c1 : ((a + k) % 26) < 26 := Int.emod_lt_of_pos _ (by decide)
  have c0 : 0 ≤ ((a + k) % 26) := Int.emod_nonneg _ (by decide)
  have low : ∀ c ∈ nm0 bs th a k, 97 ≤ c ∧ c ≤ 122 := fun c hc => by
    rcases List.mem_or_eq_of_mem_set hc with h | h
    · exact hb c h
    · subst h; omega
  have len : (nm0 bs th a k).length = bs.length := by simp [nm0]
  unfold nmB
  generalize nm0 bs th a k = cs at *
  unfold fixS
  split
  · rename_i h
    rcases h with h | h
    · rw [h]
      exact ⟨by decide +kernel, by decide +kernel, by decide +kernel, by decide +kernel, by decide +kernel⟩
    · rw [h]
      exact ⟨by decide +kernel, by decide +kernel, by decide +kernel, by decide +kernel, by decide +kernel⟩
  · rename_i h
    refine ⟨?_, ?_, fun c hc => low c (by simpa using hc), fun z => h (.inl z), fun z => h (.inr z)⟩
    · show 1 ≤ cs.toArray.size
      rw [List.size_toArray]; omega
    · show cs.toArray.size ≤ 8
      rw [List.size_toArray]; omega
end My
namespace My
open PySem L2
variable {K : PySem.W.Frag} {vs : List V} {H : Hp} {Q : VK} {E : XK}
theorem same_upd {H H' : Hp} {p : Addr} (s : Same H H') (h : H p = none) (o : HO) : Same H (upd H' p o) := fun b u q => by
  rw [upd_ne (ne_of_none q h)]; exact s b u q
theorem same_new {H H' : Hp} {p : Addr} (s : Same H H') (h : H' p = none) (o : HO) : Same H (upd H' p o) := s.trans (Same.new h o)
def sp__law_names (K : PySem.W.Frag) : Sp := fun vs H Q _ => ∃ c w m : Int, vs = [.int c, .int w, .int m] ∧ 0 ≤ m ∧ m ≤ 26 ∧
  ∀ (t : Addr) (ns : List Str) (H' : Hp), Same H H' → H t = none → H' t = some (.lst (strV ns)) → ns.length = m.toNat → ns.Nodup → (∀ x ∈ ns, NameOk x) → Q (.ref t) H'
theorem len__law_names (K : PySem.W.Frag) : ∀ vs H Q E, sp__law_names K vs H Q E → vs.length = ["_law_cell", "_law_where", "_law_lots"].length := by rintro vs H Q E ⟨c, w, m, rfl, _⟩; rfl
def R__law_names (K : PySem.W.Frag) : TS :=
 (tSeq (tAsg (tC (.str ("abcdefghijklmnopqrstuvwxyz" : Str))) (gName 3))
 (tSeq (tAsg (tCall (sp__law_pot K) [] E0 (tCons (tVar 0) tNil)) (gName 4))
 (tSeq (tIfS (tTest (tOp (rEqA K) (tCall (sp__law_take K) [] E0 (tCons (tVar 4) (tCons (tC (.int 3)) tNil))) (tC (.int 1))))
 (tSeq (tAsg (tCall (sp__law_take K) [] E0 (tCons (tVar 4) (tCons (tC (.int 26)) tNil))) (gName 5))
 (tRet (tComp [some 3, some 5, none] (iRng1 (tCons (tVar 2) tNil)) (gName 2) tTT (tOp rMulA (tOp (rIxA K) (tVar 0) (tOp (rI (fun _ j => 0 < j) fun i j => .int (i % j)) (tOp (rAddA K) (tVar 1) (tOp (rI CDiv fun i j => .int (i / j)) (tVar 2) (tC (.int 8)))) (tC (.int 26)))) (tOp (rAddA K) (tC (.int 1)) (tOp (rI (fun _ j => 0 < j) fun i j => .int (i % j)) (tVar 2) (tC (.int 8)))))))) tNext)
 (tSeq (tAsg (tComp [some 3, some 4, none] (iRng1 (tCons (tOp (rAddA K) (tC (.int 1)) (tCall (sp__law_take K) [] E0 (tCons (tVar 4) (tCons (tC (.int 8)) tNil)))) tNil)) (gName 2) tTT (tOp (rIxA K) (tVar 0) (tCall (sp__law_take K) [] E0 (tCons (tVar 1) (tCons (tC (.int 26)) tNil))))) (gName 6))
 (tSeq (tAsg (tOp (rI (fun _ j => 0 < j) fun i j => .int (i % j)) (tVar 1) (tCB (rLenA K) (tCons (tVar 6) tNil))) (gName 7))
 (tSeq (tAsg (tBM K "str" rIndexS (tVar 3) (tCons (tOp (rIxA K) (tVar 6) (tVar 7)) tNil)) (gName 8))
 (tSeq (tAsg (tLst tNil) (gName 9))
 (tSeq (tFor (iRng1 (tCons (tVar 2) tNil)) (gName 10)
 (tSeq (tAsg (tOp (rIxA K) (tVar 3) (tOp (rI (fun _ j => 0 < j) fun i j => .int (i % j)) (tOp (rAddA K) (tVar 8) (tVar 10)) (tC (.int 26)))) (gSub (tVar 6) (tVar 7) rSetA))
 (tSeq (tAsg (tBM K "str" (rJoin K) (tC (.str ("" : Str))) (tCons (tVar 6) tNil)) (gName 11))
 (tDrop (tBM K "list" rAppend (tVar 9) (tCons (tOp (rIxA K) (tLst (tCons (tVar 11) (tCons (tOp (rAddA K) (tVar 11) (tC (.str ("x" : Str)))) tNil))) (tCB rIntA (tCons (tOp (rInB K false) (tVar 11) (tLst (tCons (tC (.str ("shuts" : Str))) (tCons (tC (.str ("bars" : Str))) tNil)))) tNil))) tNil))))))
 (tRet (tVar 9))))))))))
theorem lt_small : Lt.length ≤ sizeLine := by rw [lt_len]; exact small64 (by decide)
theorem rd__law_names (h : sp__law_names K vs H Q E) : R__law_names K { nx := fun _ H' => Q .non H', rt := Q } (start ["_law_cell", "_law_where", "_law_lots", "_law_letters", "_law_pot_here", "_law_first", "_law_base", "_law_there", "_law_at_first", "_law_names_here", "_law_k", "_law_name"] vs) H := by
  obtain ⟨c, w, m, rfl, m0, m1, q⟩ := h
  show R__law_names K _ [some (.int c), some (.int w), some (.int m), none, none, none, none, none, none, none, none, none] H
  unfold R__law_names
  walk_at "step"
  refine ⟨c, rfl, fun p n hp => ?_⟩
  walk_at "step"
  refine ⟨p, 3, n, rfl, upd_same, by decide, by decide, fun r n2 _ _ => ?_⟩
  walk_at "step"
  have s2 : Same H (upd (upd H p (.lst [.int n])) p (.lst [.int n2])) := same_upd (Same.new hp _) hp _
  generalize hH2 : upd (upd H p (.lst [.int n])) p (.lst [.int n2]) = H2 at *
  have p2 : H2 p = some (.lst [.int n2]) := by rw [← hH2, upd_same]
  by_cases hr : r = 1
  · rw [decide_eq_true hr]; refine iteT ?_
    walk_at "step"
    refine ⟨p, 26, n2, rfl, p2, by decide, by decide, fun f n3 f0 f1 => ?_⟩
    walk_at "step"
    have s3 : Same H (upd H2 p (.lst [.int n3])) := same_upd s2 hp _
    refine rng1_comp (n := m) m0 (by omega) (fun i ys H' => H' = upd H2 p (.lst [.int n3]) ∧ ys = strV ((List.range i).map (nmA f))) ⟨rfl, rfl⟩ ?_ ?_ ?_
    · rintro i ys H' hi ⟨_, rfl⟩
      rw [strV_len, List.length_map, List.length_range]
      exact small64 (by omega)
    · rintro i ys H' hi ⟨rfl, rfl⟩
      walk_at "step"
      have a0 : 0 ≤ (f + (i : Int) / 8) % 26 := Int.emod_nonneg _ (by decide)
      have a1 : (f + (i : Int) / 8) % 26 < 26 := Int.emod_lt_of_pos _ (by decide)
      refine v_ixS (z := Lt) lt_small (lt_at a0 a1) ?_
      walk_at "step"
      have b0 : 0 ≤ (i : Int) % 8 := Int.emod_nonneg _ (by decide)
      have b1 : (i : Int) % 8 < 8 := Int.emod_lt_of_pos _ (by decide)
      refine v_mulS (by omega) (by omega) (by show 1 ≤ 1000; decide) ?_
      refine ⟨rfl, ?_⟩
      rw [List.range_succ, List.map_append]
      show _ = strV (List.map (nmA f) (List.range i) ++ [nmA f i])
      have e : PySem.Txt.mul (ch (97 + ((f + (i : Int) / 8) % 26).toNat)) (1 + (i : Int) % 8) = nmA f i := by
        apply str_ext
        rw [mul_ch (by omega)]
        unfold nmA
        have e1 : (1 + (i : Int) % 8).toNat = 1 + i % 8 := by omega
        have e2 : (i : Int) / 8 = ((i / 8 : Nat) : Int) := by omega
        rw [e1, e2]
      show _ = (List.map (nmA f) (List.range i) ++ [nmA f i]).map V.str
      rw [List.map_append, ← e]
      rfl
    · rintro ys H' ⟨rfl, rfl⟩ t ht
      refine q t _ _ (same_new s3 ht _) (s3.free ht) upd_same (by rw [List.length_map, List.length_range]) (nodup_map_range _ _ fun i j hi hj e => nmA_inj (by omega) (by omega) e) fun x hx => ?_
      obtain ⟨k, _, rfl⟩ := List.mem_map.mp hx
      exact nmA_ok f k
  · rw [decide_eq_false hr]; refine iteF ?_
    walk_at "step"
    refine ⟨p, 8, n2, rfl, p2, by decide, by decide, fun z n3 z0 z1 => ?_⟩
    walk_at "step"
    have s3 : Same H (upd H2 p (.lst [.int n3])) := same_upd s2 hp _
    generalize hH3 : upd H2 p (.lst [.int n3]) = H3 at *
    have p3 : H3 p = some (.lst [.int n3]) := by rw [← hH3, upd_same]
    refine rng1_comp (n := 1 + z) (by omega) (by omega) (fun i ys H' => Same H H' ∧ (∃ n', H' p = some (.lst [.int n'])) ∧ ∃ bs : List Nat, ys = strV (bs.map ch) ∧ bs.length = i ∧ ∀ c ∈ bs, 97 ≤ c ∧ c ≤ 122) ⟨s3, ⟨n3, p3⟩, [], rfl, rfl, by simp⟩ ?_ ?_ ?_
    · rintro i ys H' hi ⟨_, _, bs, rfl, hl, _⟩
      rw [strV_len, List.length_map]
      exact small64 (by omega)
    · rintro i ys H' hi ⟨s', ⟨n', p'⟩, bs, rfl, hl, hb⟩
      walk_at "step"
      refine ⟨p, 26, n', rfl, p', by decide, by decide, fun r n4 r0 r1 => ?_⟩
      refine v_ixS (z := Lt) lt_small (lt_at r0 r1) ?_
      refine ⟨same_upd s' hp _, ⟨n4, upd_same⟩, bs ++ [97 + r.toNat], ?_, by simp [hl], ?_⟩
      · simp [strV, ch]
      · intro c hc
        rcases List.mem_append.mp hc with h | h
        · exact hb c h
        · have : c = 97 + r.toNat := by simpa using h
          omega
    · rintro ys H' ⟨s', ⟨n', p'⟩, bs, rfl, hl, hb⟩ b hbn
      walk_at "step"
      have hbH : H b = none := s'.free hbn
      generalize hH4 : upd H' b (.lst (strV (bs.map ch))) = H4
      have s4 : Same H H4 := by rw [← hH4]; exact same_new s' hbn _
      have b4 : H4 b = some (.lst (strV (bs.map ch))) := by rw [← hH4, upd_same]
      have lb : (strV (bs.map ch)).length = bs.length := by rw [strV_len, List.length_map]
      refine v_lenQ (.inl (SqL.of b4)) ?_
      walk_at "step"
      rw [lb]
      have hbl : 1 ≤ bs.length := by omega
      have hb8 : bs.length ≤ 8 := by omega
      have t0 : 0 ≤ w % (bs.length : Int) := Int.emod_nonneg _ (by omega)
      have t1 : w % (bs.length : Int) < bs.length := Int.emod_lt_of_pos _ (by omega)
      generalize hth : (w % (bs.length : Int)).toNat = th
      have eth : w % (bs.length : Int) = ((th : Nat) : Int) := by omega
      rw [eth]
      have hth' : th < bs.length := by omega
      refine ⟨rfl, ?_⟩
      walk_at "step"
      have at_b : ∀ cs : List Nat, cs.length = bs.length → ∃ d, cs[th]? = some d ∧ atI (strV (cs.map ch)) ((th : Nat) : Int) = some (.str (ch d)) := fun cs hcs => by
        refine ⟨cs[th], by simp [hcs, hth'], atI_nat ?_⟩
        simp [strV, hcs, hth']
      obtain ⟨d, hd, ed⟩ := at_b bs rfl
      refine v_ixL (SqL.of b4) ed ?_
      have hdl := hb d (List.mem_of_getElem? hd)
      refine ⟨Lt, ch d, d - 97, [], rfl, rfl, ?_, ?_⟩
      · have := lt_occ (d - 97) (by omega)
        have e : 97 + (d - 97) = d := by omega
        rw [e] at this
        exact this
      walk_at "step"
      refine ⟨small64 (by decide), fun l hln => ?_⟩
      walk_at "step"
      have hlH : H l = none := s4.free hln
      have nbl : b ≠ l := ne_of_none b4 hln
      refine rng1_for (n := m) m0 (by omega) (fun i σ H' => Same H H' ∧ (∃ cs : List Nat, H' b = some (.lst (strV (cs.map ch))) ∧ cs.length = bs.length ∧ ∀ a, cs.set th a = bs.set th a) ∧ H' l = some (.lst (strV ((List.range i).map (nmB bs th ((d - 97 : Nat) : Int))))) ∧
        ∃ x y, σ = [some (.int c), some (.int w), some (.int m), some (.str Lt), some (.ref p), none, some (.ref b), some (.int th), some (.int ((d - 97 : Nat) : Int)), some (.ref l), x, y])
        ⟨same_new s4 hln _, ⟨bs, by rw [upd_ne nbl]; exact b4, rfl, fun _ => rfl⟩, upd_same, none, none, rfl⟩ ?_ ?_
      · rintro i σ H' hi ⟨s', ⟨cs, hb', hcs, hset⟩, hl', x, y, rfl⟩
        walk_at "step"
        have a0 : 0 ≤ (((d - 97 : Nat) : Int) + (i : Int)) % 26 := Int.emod_nonneg _ (by decide)
        have a1 : (((d - 97 : Nat) : Int) + (i : Int)) % 26 < 26 := Int.emod_lt_of_pos _ (by decide)
        refine v_ixS (z := Lt) lt_small (lt_at a0 a1) ?_
        walk_at "step"
        generalize hcc : 97 + ((((d - 97 : Nat) : Int) + (i : Int)) % 26).toNat = cc
        refine .inl (v_setL hb' (j := th) ?_ ?_)
        · unfold ixN
          rw [strV_len, List.length_map, hcs, if_pos (by omega), if_pos (by omega)]
          simp
        have e1 : (strV (cs.map ch)).set th (.str ⟨#[cc]⟩) = strV ((cs.set th cc).map ch) := by
          unfold strV
          rw [List.map_set, List.map_set]; rfl
        rw [e1]
        have e2 : cs.set th cc = nm0 bs th ((d - 97 : Nat) : Int) i := by rw [hset]; unfold nm0; rw [hcc]
        rw [e2]
        generalize hnm : nm0 bs th ((d - 97 : Nat) : Int) i = nm
        have lnm : nm.length = bs.length := by rw [← hnm]; simp [nm0]
        have s5 : Same H (upd H' b (.lst (strV (nm.map ch)))) := same_upd s' hbH _
        have l5 : (upd H' b (.lst (strV (nm.map ch)))) l = some (.lst (strV ((List.range i).map (nmB bs th ((d - 97 : Nat) : Int))))) := by rw [upd_ne nbl.symm]; exact hl'
        generalize hH5 : upd H' b (.lst (strV (nm.map ch))) = H5 at *
        have b5 : H5 b = some (.lst (strV (nm.map ch))) := by rw [← hH5, upd_same]
        walk_at "step"
        refine ⟨rfl, ?_⟩
        walk_at "step"
        refine ⟨("" : Str), b, nm.map ch, rfl, rfl, .inl (SqL.of b5), ?_, ?_⟩
        · have e : ((nm.map ch).map (·.length)).sum ≤ 8 := by
            have : (nm.map ch).map (·.length) = List.replicate nm.length 1 := by
              rw [List.map_map]
              apply List.ext_getElem
              · simp
              · intro k _ _; simp [ch, Str.length]
            rw [this, List.sum_replicate_nat]; omega
          have e2 : (nm.map ch).length = nm.length := List.length_map _
          have e3 : ("" : Str).length = 0 := rfl
          rw [e2, e3]; omega
        have ej : PySem.Txt.join ("" : Str) (nm.map ch) = ⟨nm.toArray⟩ := str_ext (by rw [join_ch])
        rw [ej]
        generalize hX : (⟨nm.toArray⟩ : Str) = X
        have lX : X.length = bs.length := by rw [← hX]; show nm.toArray.size = _; simp [lnm]
        walk_at "step"
        refine ⟨.inl ⟨rfl, _, SqL.of l5⟩, ?_⟩
        walk_at "step"
        refine v_addS (by rw [lX]; exact small64 (by show bs.length + 1 ≤ 1000; omega)) ?_
        walk_at "step"
        refine ⟨small64 (by show 2 ≤ 1000; decide), fun t1 ht1 => ?_⟩
        walk_at "step"
        refine ⟨small64 (by show 2 ≤ 1000; decide), fun t2 ht2 => ?_⟩
        have nt : t1 ≠ t2 := ne_of_none upd_same ht2
        refine .inl (v_in (.inl (SqL.of upd_same)) rfl rfl ?_)
        walk_at "step"
        refine .inr ⟨_, rfl, ?_⟩
        generalize hH6 : upd (upd H5 t1 (HO.lst [V.str X, V.str (X ++ ("x" : Str))])) t2 (HO.lst [V.str ("shuts" : Str), V.str ("bars" : Str)]) = H6 at *
        have s6 : Same H5 H6 := by rw [← hH6]; exact same_new (Same.new ht1 _) ht2 _
        have i1 : H6 t1 = some (.lst [V.str X, V.str (X ++ ("x" : Str))]) := by rw [← hH6, upd_ne nt, upd_same]
        have fin : ∀ j : Int, atI [V.str X, V.str (X ++ ("x" : Str))] j = some (.str (fixS X)) → rIxA K (.ref t1) (.int j) H6 (fun x H1 => tNil [some (.int c), some (.int w), some (.int m), some (.str Lt), some (.ref p), none, some (.ref b), some (.int th), some (.int ((d - 97 : Nat) : Int)), some (.ref l), some (.int i), some (.str X)] H1 fun xs H2 => rAppend (.ref l) (x :: xs) H2 fun _ H1 => Same H H1 ∧ (∃ cs : List Nat, H1 b = some (.lst (strV (cs.map ch))) ∧ cs.length = bs.length ∧ ∀ a, cs.set th a = bs.set th a) ∧ H1 l = some (.lst (strV ((List.range (i + 1)).map (nmB bs th ((d - 97 : Nat) : Int))))) ∧
            ∃ x y, [some (V.int c), some (V.int w), some (V.int m), some (V.str Lt), some (V.ref p), none, some (V.ref b), some (V.int th), some (V.int ((d - 97 : Nat) : Int)), some (V.ref l), some (V.int i), some (V.str X)] = [some (.int c), some (.int w), some (.int m), some (.str Lt), some (.ref p), none, some (.ref b), some (.int th), some (.int ((d - 97 : Nat) : Int)), some (.ref l), x, y]) := fun j hj => by
          refine v_ixL (SqL.of i1) hj ?_
          walk_at "step"
          refine v_append (s6 _ _ l5) (by rw [strV_len, List.length_map, List.length_range]; exact Nat.lt_of_lt_of_le (by omega : i < 1000) (small64 (Nat.le_refl _))) ?_
          refine ⟨same_upd (s5.trans s6) hlH _, ⟨nm, by rw [upd_ne nbl]; exact s6 _ _ b5, lnm, fun a => by rw [← hnm]; simp [nm0]⟩, ?_, _, _, rfl⟩
          rw [upd_same, List.range_succ, List.map_append]
          have : nmB bs th ((d - 97 : Nat) : Int) i = fixS X := by unfold nmB; rw [hnm, hX]
          simp [strV, this]
        by_cases hsh : X = ("shuts" : Str) ∨ X = ("bars" : Str)
        · have e : inV (V.str X) [V.str ("shuts" : Str), V.str ("bars" : Str)] = true := by
            rcases hsh with rfl | rfl <;> decide +kernel
          rw [e]
          refine fin 1 ?_
          unfold fixS
          rw [if_pos hsh]; rfl
        · have e : inV (V.str X) [V.str ("shuts" : Str), V.str ("bars" : Str)] = false := by
            have h1 : ¬ ("shuts" : Str) = X := fun z => hsh (.inl z.symm)
            have h2 : ¬ ("bars" : Str) = X := fun z => hsh (.inr z.symm)
            simp [inV, eqV, h1, h2]
          rw [e]
          refine fin 0 ?_
          unfold fixS
          rw [if_neg hsh]; rfl
      · rintro σ H' ⟨s', _, hl', x, y, rfl⟩
        walk_at "step"
        refine q l _ _ s' hlH hl' (by rw [List.length_map, List.length_range]) (nodup_map_range _ _ fun i j hi hj e => nmB_inj hth' (by omega) (by omega) e) fun x hx => ?_
        obtain ⟨k, _, rfl⟩ := List.mem_map.mp hx
        exact nmB_ok hbl hb8 hb
end My
namespace My
open PySem L2
def gd (l : List Str) (i : Nat) : Str := l.getD i ("" : Str)
theorem gd_get {l : List Str} {i : Nat} (h : i < l.length) : l[i]? = some (gd l i) := by
  unfold gd; rw [List.getD_eq_getElem?_getD]; simp [h]
theorem gd_mem {l : List Str} {i : Nat} (h : i < l.length) : gd l i ∈ l := List.mem_of_getElem? (gd_get h)
theorem gd_out {l : List Str} {i : Nat} (h : l.length ≤ i) : gd l i = ("" : Str) := by
  unfold gd; rw [List.getD_eq_getElem?_getD, List.getElem?_eq_none_iff.mpr h]; rfl
end My
namespace My
open PySem L2
variable {K : PySem.W.Frag} {vs : List V} {H : Hp} {Q : VK} {E : XK}
theorem at_str {xs : List Str} {i : Nat} (h : i < xs.length) : atI (strV xs) ((i : Nat) : Int) = some (.str (gd xs i)) := atI_nat (by unfold strV; rw [List.getElem?_map, gd_get h]; rfl)
theorem flat_strV (xs : List Str) : (strV xs).all flatV = true := by unfold strV; rw [List.all_map]; exact List.all_eq_true.mpr fun _ _ => rfl
theorem inV_strV (x : Str) : ∀ xs : List Str, inV (.str x) (strV xs) = decide (x ∈ xs)
  | [] => by simp [inV, strV]
  | y :: ys => by
    have ih := inV_strV x ys
    unfold inV at ih ⊢
    show (eqV (.str y) (.str x) || (strV ys).any fun z => eqV z (.str x)) = _
    rw [ih]
    by_cases e : x = y
    · subst e; simp [eqV]
    · have e' : ¬ y = x := fun z => e z.symm
      simp [eqV, e, e']
end My
namespace My
open PySem L2
variable {K : PySem.W.Frag} {vs : List V} {H : Hp} {Q : VK} {E : XK}
section
variable {H0 H' : Hp} {ps : List Addr} {a3 a4 a5 : Addr} {S Hs : List Str}
end
end My
namespace My
open PySem L2
variable {K : PySem.W.Frag} {vs : List V} {H : Hp} {Q : VK} {E : XK}
theorem fixs_sDa : ∀ xs : List Str, fixs (sDa xs) = true
  | [] => by show fixs [] = true; rw [fixs]
  | x :: xs => by show fixs (.str x :: sDa xs) = true; rw [fixs, fixs_sDa xs, fix]; rfl
theorem fix_row (r : Row) : fix r.da = true := by
  unfold Row.da
  simp [fix, fixs, fixs_sDa]
theorem fix_rows : ∀ rs : List Row, fixs (rs.map Row.da) = true
  | [] => by show fixs [] = true; rw [fixs]
  | r :: rs => by show fixs (r.da :: rs.map Row.da) = true; rw [fixs, fix_row, fix_rows rs]; rfl
theorem not_in_one {b p : Addr} (h : b ≠ p) : b ∉ [p] := by simpa using h
theorem tup_but {H H' : Hp} {p : Addr} {xs : List V} (h : But [p] H H') (hp : H p = some (.lst xs)) : TupK H H' := by
  refine ⟨fun b ys e => h b _ e (not_in_one ?_), fun b o ys e => h b _ e (not_in_one ?_)⟩
  · rintro rfl; rw [hp] at e; cases e
  · rintro rfl; rw [hp] at e; cases e
theorem tup_lst {H : Hp} {p : Addr} {xs ys : List V} (hp : H p = some (.lst xs)) : TupK H (upd H p (.lst ys)) := tup_but (But.upd (by simp) _) hp
section
variable {H0 H' H'' : Hp} {ps : List Addr} {a3 a4 a5 : Addr} {S Hs : List Str}
end
theorem ins_map {α β : Type} (f : α → β) (l : List α) (k : Nat) (x : α) : insAt (l.map f) k (f x) = (insAt l k x).map f := by
  unfold insAt; simp [List.map_take, List.map_drop]
theorem ins_perm {α : Type} (l : List α) (k : Nat) (x : α) : (insAt l k x).Perm (x :: l) := by
  unfold insAt
  have := List.perm_middle (l₁ := l.take k) (l₂ := l.drop k) (a := x)
  rwa [List.take_append_drop] at this
section
variable {H0 H' H'' : Hp} {ps : List Addr} {a3 a4 a5 a8 a9 : Addr} {names S Hs : List Str} {us : List V} {rs : List Row}
end
end My
namespace My
open PySem L2
variable {K : PySem.W.Frag} {vs : List V} {H : Hp} {Q : VK} {E : XK}
end My
namespace My
open PySem L2
variable {K : PySem.W.Frag} {vs : List V} {H : Hp} {Q : VK} {E : XK}
theorem v_eqO' {x : Str} {n : Option Str} (h : Q (.bl (decide (n = some x))) H) : rEqA K (oV n) (.str x) H Q := by
  cases n with
  | none => refine v_eq rfl ?_; have e : (decide (oV none = V.str x)) = decide (none = some x) := by simp [oV]
            rw [e]; exact h
  | some y => refine v_eq rfl ?_; have e : (decide (oV (some y) = V.str x)) = decide (some y = some x) := by simp [oV]
              rw [e]; exact h
def backB (rs : List Row) (n : Str) : Nat → Option Str → Bool
  | 0, _ => false
  | k + 1, h => if h = some n then true else backB rs n k (hostOf rs h)
def sp_comes_back (K : PySem.W.Frag) : Sp := fun vs H Q _ => ∃ v n rs, vs = [v, .str n] ∧ Rws K H v rs ∧ rs.length ≤ 1000 ∧ Q (.bl (backB rs n rs.length (hostOf rs (some n)))) H
theorem len_comes_back (K : PySem.W.Frag) : ∀ vs H Q E, sp_comes_back K vs H Q E → vs.length = ["rows", "name"].length := by rintro vs H Q E ⟨v, n, rs, rfl, _⟩; rfl
def R_comes_back (K : PySem.W.Frag) : TS :=
 (tSeq (tAsg (tCall (sp_host_of K) [] E0 (tCons (tVar 0) (tCons (tVar 1) tNil))) (gName 2))
 (tSeq (tFor (iRng1 (tCons (tCB (rLenA K) (tCons (tVar 0) tNil)) tNil)) (gName 3)
 (tSeq (tIfS (tTest (tOp (rEqA K) (tVar 2) (tVar 1)))
 (tRet (tC (.bl true))) tNext)
 (tAsg (tCall (sp_host_of K) [] E0 (tCons (tVar 0) (tCons (tVar 2) tNil))) (gName 2))))
 (tRet (tC (.bl false)))))
theorem rd_comes_back (h : sp_comes_back K vs H Q E) : R_comes_back K { nx := fun _ H' => Q .non H', rt := Q } (start ["rows", "name", "host", "step"] vs) H := by
  obtain ⟨v, n, rs, rfl, hR, hl, q⟩ := h
  have hR' := hR
  obtain ⟨a, us, rfl, hq, hd⟩ := hR'
  have lus : us.length = rs.length := by have := hd.length; simpa using this
  show R_comes_back K _ [some (.ref a), some (.str n), none, none] H
  unfold R_comes_back
  walk_at "step"
  refine ⟨.ref a, some n, rs, rfl, hR, ?_⟩
  walk_at "step"
  refine v_lenQ hq ?_
  walk_at "step"
  rw [lus]
  refine rng1_for (n := (rs.length : Int)) (by omega) (by omega) (fun i σ H' => H' = H ∧ ∃ h w, σ = [some (.ref a), some (.str n), some (oV h), w] ∧ backB rs n rs.length (hostOf rs (some n)) = backB rs n (rs.length - i) h) ⟨rfl, hostOf rs (some n), none, rfl, rfl⟩ ?_ ?_
  · rintro i σ H' hi ⟨rfl, h, w, rfl, e⟩
    have ek : rs.length - i = (rs.length - (i + 1)) + 1 := by omega
    rw [ek, backB] at e
    walk_at "step"
    refine v_eqO' ?_
    walk_at "step"
    by_cases hn : h = some n
    · rw [decide_eq_true hn]
      walk_at "step"
      rw [if_pos hn] at e
      rw [e] at q; exact q
    · rw [decide_eq_false hn]
      walk_at "step"
      rw [if_neg hn] at e
      refine ⟨.ref a, h, rs, rfl, hR, ?_⟩
      walk_at "step"
      exact ⟨rfl, _, _, rfl, e⟩
  · rintro σ H' ⟨rfl, h, w, rfl, e⟩
    walk_at "step"
    have z : rs.length - (rs.length : Int).toNat = 0 := by omega
    rw [z, backB] at e
    rw [e] at q; exact q
theorem dvs_app {H : Hp} : ∀ {ds es : List PyData} {us ws : List V}, Dvs K H ds us → Dvs K H es ws → Dvs K H (ds ++ es) (us ++ ws)
  | [], es, us, ws, h, h' => by rw [Dvs] at h; subst h; exact h'
  | d :: ds, es, us, ws, h, h' => by
    rw [Dvs] at h
    obtain ⟨v, r, rfl, h1, h2⟩ := h
    exact dvs_cons h1 (dvs_app h2 h')
def firstRows (rs : List Row) : List Row := rs.foldl (fun l r => if rowOf l (some r.name) = none then l ++ [r] else l) []
theorem firstRows_snoc (l : List Row) (r : Row) : firstRows (l ++ [r]) = if rowOf (firstRows l) (some r.name) = none then firstRows l ++ [r] else firstRows l := by
  unfold firstRows
  rw [List.foldl_append]; rfl
theorem firstRows_len (l : List Row) : (firstRows l).length ≤ l.length := by
  unfold firstRows
  have : ∀ (l l' : List Row), (l.foldl (fun l r => if rowOf l (some r.name) = none then l ++ [r] else l) l').length ≤ l.length + l'.length := by
    intro l
    induction l with
    | nil => intro l'; simp
    | cons r l ih =>
      intro l'
      rw [List.foldl_cons]
      refine Nat.le_trans (ih _) ?_
      split <;> simp <;> omega
  simpa using this l []
def sp_first_rows (K : PySem.W.Frag) : Sp := fun vs H Q _ => ∃ v rs, vs = [v] ∧ Rws K H v rs ∧ rs.length ≤ 900 ∧
  ∀ t us H', Same H H' → H t = none → H' t = some (.lst us) → Dvs K H' ((firstRows rs).map Row.da) us → Q (.ref t) H'
theorem len_first_rows (K : PySem.W.Frag) : ∀ vs H Q E, sp_first_rows K vs H Q E → vs.length = ["rows"].length := by rintro vs H Q E ⟨v, n, rfl, _⟩; rfl
def R_first_rows (K : PySem.W.Frag) : TS :=
 (tSeq (tAsg (tLst tNil) (gName 1))
 (tSeq (tFor (iAny K (tVar 0)) (gName 2)
 (tIfS (tTest (tOp rIsA (tCall (sp_row_of K) [] E0 (tCons (tVar 1) (tCons (tOp (rIxA K) (tVar 2) (tC (.int 0))) tNil))) (tC .non)))
 (tDrop (tBM K "list" rAppend (tVar 1) (tCons (tVar 2) tNil))) tNext))
 (tRet (tVar 1))))
theorem rd_first_rows (h : sp_first_rows K vs H Q E) : R_first_rows K { nx := fun _ H' => Q .non H', rt := Q } (start ["rows", "counted", "row"] vs) H := by
  obtain ⟨v, rs, rfl, ⟨a, us, rfl, hq, hd⟩, hl, q⟩ := h
  have lus : us.length = rs.length := by have := hd.length; simpa using this
  show R_first_rows K _ [some (.ref a), none, none] H
  unfold R_first_rows
  refine st_seq (st_asg (st_lst (st_nil ⟨small64 (by show 0 ≤ 1000; decide), fun t ft => st_name ?_⟩)))
  refine st_seq (st_for (st_any (st_var rfl ?_)))
  have s0 : Same H (upd H t (.lst [])) := Same.new ft _
  have turn : ∀ i x σ H', us[i]? = some x → (∃ xs w, σ = [some (.ref a), some (.ref t), w] ∧ Same H H' ∧ H' t = some (.lst xs) ∧ Dvs K H' ((firstRows (rs.take i)).map Row.da) xs) → ∀ (D : Ends), (∀ σ' H'', (∃ xs w, σ' = [some (.ref a), some (.ref t), w] ∧ Same H H'' ∧ H'' t = some (.lst xs) ∧ Dvs K H'' ((firstRows (rs.take (i + 1))).map Row.da) xs) → D.nx σ' H'') →
      gName 2 x σ H' fun σ2 H2 => (tIfS (tTest (tOp rIsA (tCall (sp_row_of K) [] E0 (tCons (tVar 1) (tCons (tOp (rIxA K) (tVar 2) (tC (.int 0))) tNil))) (tC .non))) (tDrop (tBM K "list" rAppend (tVar 1) (tCons (tVar 2) tNil))) tNext) D σ2 H2 := by
    rintro i x σ H' hx ⟨xs, w, rfl, s, ht, hx'⟩ D k
    obtain ⟨d, hd1, hd2⟩ := (Dvs.same s _ _ hd).get' hx
    rw [List.getElem?_map] at hd1
    obtain ⟨r, hr, rfl⟩ := Option.map_eq_some_iff.mp hd1
    have hd2' := hd2
    obtain ⟨b, sv, bv, rfl, hb, hsv, hbv⟩ := row_parts hd2
    have et : rs.take (i + 1) = rs.take i ++ [r] := by rw [List.take_add_one, hr]; rfl
    have lx : xs.length ≤ 900 := by
      have := hx'.length
      rw [List.length_map] at this
      have h2 := firstRows_len (rs.take i)
      rw [List.length_take] at h2
      omega
    refine st_name ?_
    walk_at "step"
    refine v_ixT hb rfl ?_
    walk_at "step"
    refine ⟨.ref t, some r.name, firstRows (rs.take i), rfl, ⟨t, xs, rfl, .inl (SqL.of ht), hx'⟩, fun e => ?_, fun r' u e hu => ?_⟩
    · walk_at "step"
      rw [decide_eq_true rfl]
      refine iteT ?_
      refine st_drop (st_bm (st_var rfl ⟨.inl ⟨rfl, _, SqL.of ht⟩, st_cons (st_var rfl (st_nil ?_))⟩))
      refine v_append ht (Nat.lt_of_lt_of_le (by omega : xs.length < 1000) (small64 (Nat.le_refl _))) ?_
      refine k _ _ ⟨xs ++ [.ref b], _, rfl, same_upd s ft _, upd_same, ?_⟩
      rw [et, firstRows_snoc, if_pos e, List.map_append]
      exact dvs_app (Dvs.tupK (tup_lst ht) _ _ (fix_rows _) hx') (dvs_cons (Dv.tupK (tup_lst ht) _ _ (fix_row _) hd2') dvs_nil)
    · obtain ⟨b', _, _, rfl, _⟩ := row_parts hu
      walk_at "step"
      rw [decide_eq_false (by simp)]
      refine iteF (st_next ?_)
      refine k _ _ ⟨xs, _, rfl, s, ht, ?_⟩
      rw [et, firstRows_snoc, if_neg (by rw [e]; exact fun z => by cases z)]
      exact hx'
  have fin : ∀ σ H', (∃ xs w, σ = [some (.ref a), some (.ref t), w] ∧ Same H H' ∧ H' t = some (.lst xs) ∧ Dvs K H' ((firstRows (rs.take us.length)).map Row.da) xs) → tRet (tVar 1) { nx := fun _ H' => Q .non H', rt := Q } σ H' := by
    rintro σ H' ⟨xs, w, rfl, s, ht, hx'⟩
    rw [lus, List.take_length] at hx'
    exact st_ret (st_var rfl (q t xs H' s ft ht hx'))
  refine ⟨a, rfl, ?_⟩
  rcases hq with hq | hq
  · exact .inl ⟨⟨us, s0.sqL hq⟩, for_list (fun i σ H' => ∃ xs w, σ = [some (.ref a), some (.ref t), w] ∧ Same H H' ∧ H' t = some (.lst xs) ∧ Dvs K H' ((firstRows (rs.take i)).map Row.da) xs) ⟨[], none, rfl, s0, upd_same, dvs_nil⟩ (fun i σ H' _ p => by obtain ⟨_, _, _, s, _⟩ := p; exact s.sqL hq) (fun i x σ H' hx p => turn i x σ H' hx p _ fun _ _ z => z) fin⟩
  · exact .inr ⟨⟨us, s0.sqT hq⟩, for_tup (fun i σ H' => ∃ xs w, σ = [some (.ref a), some (.ref t), w] ∧ Same H H' ∧ H' t = some (.lst xs) ∧ Dvs K H' ((firstRows (rs.take i)).map Row.da) xs) ⟨[], none, rfl, s0, upd_same, dvs_nil⟩ (fun i σ H' _ p => by obtain ⟨_, _, _, s, _⟩ := p; exact s.sqT hq) (fun i x σ H' hx p => turn i x σ H' hx p _ fun _ _ z => z) fin⟩
end My
namespace My
open PySem L2 PySem.StrLaws PySem.Builtin.Str
variable {K : PySem.W.Frag} {vs : List V} {H : Hp} {Q : VK} {E : XK}
theorem sl64 {n : Nat} (h : n ≤ 100000) : n ≤ sizeLine := by rw [sizeLine_eq]; omega
theorem Same.tr {H H1 H2 : Hp} (a : Same H H1) (b : Same H1 H2) : Same H H2 := fun c o e => b c o (a c o e)
theorem Same.put {H H1 : Hp} {p : Addr} (s : Same H H1) (h : H p = none) (o : HO) : Same H (upd H1 p o) := fun b u e => by
  have nb : b ≠ p := fun z => by rw [z, h] at e; cases e
  rw [upd_ne nb]; exact s b u e
theorem ne_free {H : Hp} {a b : Addr} {o : HO} (h : H a = some o) (g : H b = none) : a ≠ b := fun e => by rw [e, g] at h; cases h
theorem tupK_lst {d : Addr} {xs ys : List V} (h : H d = some (.lst xs)) : TupK H (upd H d (.lst ys)) :=
  ⟨fun b zs e => by rw [upd_ne (fun z => by rw [z, h] at e; cases e)]; exact e, fun b o zs e => by rw [upd_ne (fun z => by rw [z, h] at e; cases e)]; exact e⟩
theorem any_forS {g : TG} {tb : TS} {D : Ends} {σ : St} {H0 : Hp} {a : Addr} {xs : List V} (hq : SqL K H0 a xs ∨ SqT K H0 a xs) (s0 : Same H0 H) (Pv : Nat → St → Hp → Prop) (h0 : Pv 0 σ H) (hk : ∀ i σ H', Pv i σ H' → Same H0 H')
    (hs : ∀ i x σ H, xs[i]? = some x → Pv i σ H → g x σ H fun σ2 H2 => tb { D with nx := PAt Pv (i + 1), ct := PAt Pv (i + 1), bk := D.nx } σ2 H2) (hd : ∀ σ H, Pv xs.length σ H → D.nx σ H) :
    ∃ b, V.ref a = .ref b ∧ (((∃ xs, SqL K H b xs) ∧ ForW g tb D σ (Itl K b) H) ∨ ((∃ xs, SqT K H b xs) ∧ ForW g tb D σ (Itt K b) H)) := by
  rcases hq with hq | hq
  · exact ⟨a, rfl, .inl ⟨⟨xs, s0.sqL hq⟩, for_list Pv h0 (fun i σ H' _ p => (hk i σ H' p).sqL hq) hs hd⟩⟩
  · exact ⟨a, rfl, .inr ⟨⟨xs, s0.sqT hq⟩, for_tup Pv h0 (fun i σ H' _ p => (hk i σ H' p).sqT hq) hs hd⟩⟩
theorem any_compS {g : TG} {tt : TT} {te : TE} {σ' : St} {H0 : Hp} {a : Addr} {xs : List V} (hq : SqL K H0 a xs ∨ SqT K H0 a xs) (s0 : Same H0 H) (Pv : Nat → List V → Hp → Prop) (h0 : Pv 0 [] H) (hlen : ∀ i ys H, i ≤ xs.length → Pv i ys H → ys.length ≤ sizeLine) (hk : ∀ i ys H', Pv i ys H' → Same H0 H')
    (hs : ∀ i x ys H, xs[i]? = some x → Pv i ys H → g x σ' H fun σ2 H2 => tt σ2 H2 fun b H3 => if b = true then te σ2 H3 fun y H4 => PAt Pv (i + 1) (ys ++ [y]) H4 else PAt Pv (i + 1) ys H3)
    (hd : ∀ ys H, Pv xs.length ys H → ∀ p, H p = none → Q (.ref p) (upd H p (.lst ys))) :
    ∃ b, V.ref a = .ref b ∧ (((∃ xs, SqL K H b xs) ∧ CompW g tt te σ' Q (Itl K b) H) ∨ ((∃ xs, SqT K H b xs) ∧ CompW g tt te σ' Q (Itt K b) H)) := by
  rcases hq with hq | hq
  · exact any_compL (s0.sqL hq) Pv h0 hlen (fun i ys H' _ p => (hk i ys H' p).sqL hq) hs hd
  · refine ⟨a, rfl, .inr ⟨⟨xs, s0.sqT hq⟩, comp_of (n := xs.length) (fun i x => xs[i]? = some x) Pv h0 hlen (fun i ys H hi p => ?_) (fun i ys H x H' hi p y => ?_) (fun ys H p => ?_) (fun i x ys H _ hx p => hs i x ys H hx p) hd⟩⟩
    · exact ⟨xs, xs[i], (hk i ys H p).sqT hq, by simp [hi]⟩
    · exact ⟨y.1, y.2 xs ((hk i ys H p).sqT hq)⟩
    · exact ⟨xs, (hk _ ys H p).sqT hq, Nat.le_refl _⟩
theorem alpha_mem (c : Nat) : c ∈ ("abcdefghijklmnopqrstuvwxyz" : Str).cps.toList ↔ TX.letter c = true := by
  show c ∈ [97, 98, 99, 100, 101, 102, 103, 104, 105, 106, 107, 108, 109, 110, 111, 112, 113, 114, 115, 116, 117, 118, 119, 120, 121, 122] ↔ _
  unfold TX.letter
  simp only [List.mem_cons, List.not_mem_nil, or_false, Bool.and_eq_true, decide_eq_true_eq]
  omega
theorem Same.refl' {H : Hp} : Same H H := fun _ _ e => e
theorem row5 {r : Row} {v : V} (h : Dv K H r.da v) : ∃ b s t, v = .ref b ∧ SqT K H b [.str r.name, .str r.sort, .str r.host, .ref s, .ref t] ∧ SqT K H s (strV r.shuts) ∧ SqT K H t (strV r.bars) := by
  obtain ⟨b, sv, bv, rfl, hb, h1, h2⟩ := row_parts h
  obtain ⟨s, ss, rfl, hs, ds⟩ := dv_tuple.mp h1
  obtain ⟨t, ts, rfl, ht, dt⟩ := dv_tuple.mp h2
  rw [dvs_sDa] at ds dt
  subst ds dt
  exact ⟨b, s, t, rfl, hb, hs, ht⟩
theorem cut_one' (xs : List Str) : cutV (strV xs) (some 1) none = strV (xs.drop 1) := by
  unfold cutV strV
  cases xs with
  | nil => rfl
  | cons x xs =>
    rw [← List.map_drop, ← List.map_take, List.length_map]
    have e1 : HT.sIx (x :: xs).length 0 (some 1) = 1 := by unfold HT.sIx; simp <;> omega
    have e2 : HT.sIx (x :: xs).length (x :: xs).length none = xs.length + 1 := rfl
    rw [e1, e2, List.drop_succ_cons, List.drop_zero, Nat.add_sub_cancel, List.take_length]
structure Sml (r : Row) : Prop where
  n : r.name.length ≤ 100
  h : r.host.length ≤ 100
  s : r.shuts.length ≤ 100 ∧ ∀ x ∈ r.shuts, x.length ≤ 100
  b : r.bars.length ≤ 100 ∧ ∀ x ∈ r.bars, x.length ≤ 100
def letB (z : Str) : Bool := decide (1 ≤ z.length) && (decide (z.length ≤ 8) && z.cps.toList.all TX.letter)
def nmX (z : Str) : Bool := letB z && !decide (z ∈ ([("shuts" : Str), ("bars" : Str)]))
def ltS (a b : Str) : Bool := decide (a.cps.toList < b.cps.toList)
def risB (xs : List Str) : Bool := (xs.zip (xs.drop 1)).all fun p => ltS p.1 p.2
def sortsL : List Str := [("bare" : Str), ("plain" : Str), ("anew" : Str), ("room" : Str), ("frame" : Str)]
theorem nmX_ok {z : Str} : nmX z = true ↔ NameOk z := by
  unfold nmX letB
  simp only [Bool.and_eq_true, decide_eq_true_eq, Bool.not_eq_true', decide_eq_false_iff_not, List.all_eq_true, List.mem_cons, List.not_mem_nil, or_false, not_or]
  constructor
  · rintro ⟨⟨h1, h2, h3⟩, h4, h5⟩
    exact ⟨h1, h2, fun c hc => by have := h3 c hc; unfold TX.letter at this; simpa using this, h4, h5⟩
  · intro h
    exact ⟨⟨h.one, h.eight, fun c hc => by have := h.low c hc; unfold TX.letter; simpa using this⟩, h.noS, h.noB⟩
def sp_has_letters_of_name (K : PySem.W.Frag) : Sp := fun vs H Q _ => ∃ z : Str, vs = [.str z] ∧ z.length ≤ 100000 ∧ ∀ H', Same H H' → Q (.bl (letB z)) H'
theorem len_has_letters_of_name (K : PySem.W.Frag) : ∀ vs H Q E, sp_has_letters_of_name K vs H Q E → vs.length = ["word"].length := by rintro vs H Q E ⟨z, rfl, _⟩; rfl
def R_has_letters_of_name (K : PySem.W.Frag) : TS :=
 (tRet (tAndV (tChain rLeA rLeA (tC (.int 1)) (tCB (rLenA K) (tCons (tVar 0) tNil)) (tC (.int 8))) (tCB (r_all K) (tCons (tComp [none] (iStr (tVar 0)) (gName 0) tTT (tChain rLeA rLeA (tC (.str ("a" : Str))) (tVar 0) (tC (.str ("z" : Str))))) tNil))))
theorem rd_has_letters_of_name (h : sp_has_letters_of_name K vs H Q E) : R_has_letters_of_name K { nx := fun _ H' => Q .non H', rt := Q } (start ["word"] vs) H := by
  obtain ⟨z, rfl, hz, q⟩ := h
  unfold letB at q
  show R_has_letters_of_name K _ [some (.str z)] H
  unfold R_has_letters_of_name
  walk_at "step"
  refine v_lenS (sl64 hz) ?_
  walk_at "step"
  by_cases h1 : (1 : Int) ≤ z.length
  · rw [decide_eq_true h1]
    refine iteT ?_
    rw [decide_eq_true (by omega : 1 ≤ z.length), Bool.true_and] at q
    walk_at "step"
    by_cases h2 : (z.length : Int) ≤ 8
    · rw [decide_eq_true h2]
      refine iteT ?_
      rw [decide_eq_true (by omega : z.length ≤ 8), Bool.true_and] at q
      walk_at "step"
      have hl : z.cps.toList.length = z.cps.size := Array.length_toList
      refine str_comp (fun i ys H' => H' = H ∧ ys = ((z.cps.toList.take i).map TX.letter).map V.bl) ⟨rfl, rfl⟩ ?_ ?_ ?_
      · rintro i ys H' hi ⟨_, rfl⟩
        rw [List.length_map, List.length_map, List.length_take]
        exact sl64 (by have : z.cps.size ≤ 100000 := hz; omega)
      · rintro i c ys H' hc ⟨rfl, rfl⟩
        have tk : z.cps.toList.take (i + 1) = z.cps.toList.take i ++ [c] := by rw [List.take_add_one, hc]; rfl
        walk_at "step"
        refine v_leS ?_
        have e1 : (!decide ((⟨#[c]⟩ : Str).cps.toList < ("a" : Str).cps.toList)) = decide (97 ≤ c) := by
          show (!decide ([c] < [97])) = _
          rw [lt_cons_cons, lt_nil_nil, Bool.and_false, Bool.or_false]
          by_cases h : 97 ≤ c
          · rw [decide_eq_true h, decide_eq_false (by omega)]; rfl
          · rw [decide_eq_false h, decide_eq_true (by omega)]; rfl
        have e2 : (!decide (("z" : Str).cps.toList < (⟨#[c]⟩ : Str).cps.toList)) = decide (c ≤ 122) := by
          show (!decide ([122] < [c])) = _
          rw [lt_cons_cons, lt_nil_nil, Bool.and_false, Bool.or_false]
          by_cases h : c ≤ 122
          · rw [decide_eq_true h, decide_eq_false (by omega)]; rfl
          · rw [decide_eq_false h, decide_eq_true (by omega)]; rfl
        rw [e1]
        refine ⟨_, rfl, ?_⟩
        by_cases hc1 : 97 ≤ c
        · rw [decide_eq_true hc1]; refine iteT ?_
          walk_at "step"
          refine v_leS ?_
          rw [e2]
          exact ⟨rfl, by rw [tk]; simp [TX.letter, hc1]⟩
        · rw [decide_eq_false hc1]; refine iteF ?_
          exact ⟨rfl, by rw [tk]; simp [TX.letter, hc1]⟩
      · rintro ys H' ⟨rfl, rfl⟩ p hp
        walk_at "step"
        refine v_all (SqL.of upd_same) ?_
        rw [← hl, List.take_length]
        have e : (z.cps.toList.map TX.letter).all id = z.cps.toList.all TX.letter := by rw [List.all_map]; rfl
        rw [e]
        exact q _ (Same.new hp _)
    · rw [decide_eq_false h2]
      refine iteF ?_
      rw [decide_eq_false (by omega : ¬ z.length ≤ 8), Bool.false_and] at q
      exact q _ (Same.refl H)
  · rw [decide_eq_false h1]
    refine iteF ?_
    refine ⟨false, rfl, iteF ?_⟩
    rw [decide_eq_false (by omega : ¬ 1 ≤ z.length), Bool.false_and] at q
    exact q _ (Same.refl H)
def sp_is_name (K : PySem.W.Frag) : Sp := fun vs H Q _ => ∃ z : Str, vs = [.str z] ∧ z.length ≤ 100000 ∧ ∀ H', Same H H' → Q (.bl (nmX z)) H'
theorem len_is_name (K : PySem.W.Frag) : ∀ vs H Q E, sp_is_name K vs H Q E → vs.length = ["word"].length := by rintro vs H Q E ⟨z, rfl, _⟩; rfl
def R_is_name (K : PySem.W.Frag) (c_KEYWORDS : Addr) : TS :=
 (tRet (tAndV (tCall (sp_has_letters_of_name K) [] E0 (tCons (tVar 0) tNil)) (tOp (rInB K true) (tVar 0) (tC (.ref c_KEYWORDS)))))
theorem rd_is_name {c_KEYWORDS : Addr} (q_KEYWORDS : ∀ H : Hp, SqT K H c_KEYWORDS [.str ("shuts" : Str), .str ("bars" : Str)]) (h : sp_is_name K vs H Q E) : R_is_name K c_KEYWORDS { nx := fun _ H' => Q .non H', rt := Q } (start ["word"] vs) H := by
  obtain ⟨z, rfl, hz, q⟩ := h
  show R_is_name K c_KEYWORDS _ [some (.str z)] H
  unfold R_is_name
  unfold nmX at q
  walk_at "step"
  refine ⟨z, rfl, hz, fun H1 s1 => ?_⟩
  refine ⟨_, rfl, ?_⟩
  cases e : letB z with
  | false =>
    refine iteF ?_
    rw [e, Bool.false_and] at q
    exact q H1 s1
  | true =>
    refine iteT ?_
    rw [e, Bool.true_and] at q
    walk_at "step"
    refine .inl (v_notin (xs := strV [("shuts" : Str), ("bars" : Str)]) (.inr (q_KEYWORDS H1)) rfl (flat_strV _) ?_)
    rw [inV_strV]
    exact q H1 s1
def sp_is_rising (K : PySem.W.Frag) : Sp := fun vs H Q _ => ∃ (a : Addr) (xs : List Str), vs = [.ref a] ∧ SqT K H a (strV xs) ∧ xs.length ≤ 1000 ∧ ∀ H', Same H H' → Q (.bl (risB xs)) H'
theorem len_is_rising (K : PySem.W.Frag) : ∀ vs H Q E, sp_is_rising K vs H Q E → vs.length = ["names"].length := by rintro vs H Q E ⟨a, xs, rfl, _⟩; rfl
def R_is_rising (K : PySem.W.Frag) : TS :=
 (tRet (tCB (r_all K) (tCons (tComp [none, none] (iZip K (tCons (tVar 0) (tCons (tSl (rSlB K) (tVar 0) (tPart (tC (.int 1))) tNoPart) tNil))) (gTup K 2 (gCons (gName 0) (gCons (gName 1) gNil))) tTT (tOp rLtA (tVar 0) (tVar 1))) tNil)))
theorem rd_is_rising (h : sp_is_rising K vs H Q E) : R_is_rising K { nx := fun _ H' => Q .non H', rt := Q } (start ["names"] vs) H := by
  obtain ⟨a, xs, rfl, ha, hz, q⟩ := h
  show R_is_rising K _ [some (.ref a)] H
  unfold R_is_rising
  walk_at "step"
  refine st_zip ?_
  walk_at "step"
  refine v_slT ha fun p H1 s1 hp => ?_
  rw [cut_one'] at hp
  walk_at "step"
  have hl : (strV xs).length = xs.length := strV_len xs
  have hl1 : (strV (xs.drop 1)).length = xs.length - 1 := by rw [strV_len, List.length_drop]
  refine zip_comp (s1.sqT ha) hp (fun i ys H' => Same H1 H' ∧ ys = (((xs.zip (xs.drop 1)).take i).map fun p => ltS p.1 p.2).map V.bl) ⟨Same.refl', rfl⟩ ?_ ?_ ?_ ?_
  · rintro i ys H' hi ⟨_, rfl⟩
    rw [List.length_map, List.length_map, List.length_take]
    exact sl64 (by omega)
  · rintro i ys H' ⟨s2, _⟩
    exact ⟨s2.sqT (s1.sqT ha), s2.sqT hp⟩
  · rintro i x z ys H' t hx hz' ⟨s2, rfl⟩ ht
    obtain ⟨x, hx', rfl⟩ := strV_get hx
    obtain ⟨z, hz'', rfl⟩ := strV_get hz'
    refine ⟨t, _, rfl, SqT.of upd_same, rfl, _, _, rfl, st_name ⟨_, _, rfl, st_name ⟨rfl, ?_⟩⟩⟩
    walk_at "step"
    refine v_ltS ?_
    refine ⟨Same.tr s2 (Same.new ht _), ?_⟩
    have e : (xs.zip (xs.drop 1))[i]? = some (x, z) := by rw [List.getElem?_zip_eq_some]; exact ⟨hx', hz''⟩
    rw [List.take_add_one, e, List.map_append, List.map_append]
    rfl
  · rintro ys H' ⟨s2, rfl⟩ c hc
    walk_at "step"
    refine v_all (SqL.of upd_same) ?_
    have e : min (strV xs).length (strV (xs.drop 1)).length = (xs.zip (xs.drop 1)).length := by rw [List.length_zip, strV_len, strV_len]
    rw [e, List.take_length, List.all_map]
    exact q _ (Same.tr s1 (Same.tr s2 (Same.new hc _)))
end My
namespace My
open PySem L2
variable {K : PySem.W.Frag} {vs : List V} {H : Hp} {Q : VK} {E : XK}
theorem Rws.same {H H' : Hp} {v : V} {rs : List Row} (h : Rws K H v rs) (s : Same H H') : Rws K H' v rs := by
  obtain ⟨a, us, rfl, hq, hd⟩ := h
  exact ⟨a, us, rfl, hq.imp s.sqL s.sqT, Dvs.same s _ _ hd⟩
def inO (o : Option Str) (xs : List Str) : Bool := match o with | none => false | some x => decide (x ∈ xs)
theorem inV_oV (o : Option Str) (xs : List Str) : inV (oV o) (strV xs) = inO o xs := by
  cases o with
  | some x => exact inV_strV x xs
  | none =>
    show inV .non (strV xs) = false
    induction xs with
    | nil => rfl
    | cons x xs ih =>
      show inV .non (V.str x :: strV xs) = false
      unfold inV at ih ⊢
      rw [List.any_cons, ih]
      rfl
theorem flat_oV (o : Option Str) : flatV (oV o) = true := by cases o <;> rfl
def shutL : List Str := [("plain" : Str), ("anew" : Str)]
def hostL : List Str := [("plain" : Str), ("frame" : Str)]
def mayB (rs : List Row) (xs : List Str) : Bool := risB xs && xs.all fun x => inO (sortOf rs (some x)) shutL
def shutB (rs : List Row) (r : Row) : Bool := if 0 < r.shuts.length ∧ frameOf rs (some r.name) ≠ none then false else decide ((r.shuts.filter fun x => decide (frameOf rs (some x) ≠ none)).length = 0) && mayB rs r.shuts
def hostB (rs : List Row) (r : Row) : Bool := if r.sort = ("frame" : Str) then (if inO (sortOf rs (some r.host)) hostL = true ∧ backB rs r.name rs.length (hostOf rs (some r.name)) = false then decide (frameOf rs (some r.host) = some r.name) else false) else true
def fitB (rs : List Row) (r : Row) : Bool := hostB rs r && (shutB rs r && mayB rs r.bars)
def MisN (rs : List Row) : Prop := ∀ (i : Nat) (r : Row), rs[i]? = some r → rowOf (rs.take i) (some r.name) = none ∧ fitB (firstRows rs) r = true
def sp_may_be_named (K : PySem.W.Frag) : Sp := fun vs H Q _ => ∃ (v : V) (a : Addr) (rs : List Row) (xs : List Str), vs = [v, .ref a] ∧ Rws K H v rs ∧ SqT K H a (strV xs) ∧ xs.length ≤ 1000 ∧ ∀ H', Same H H' → Q (.bl (mayB rs xs)) H'
theorem len_may_be_named (K : PySem.W.Frag) : ∀ vs H Q E, sp_may_be_named K vs H Q E → vs.length = ["rows", "names"].length := by rintro vs H Q E ⟨v, a, rs, xs, rfl, _⟩; rfl
def R_may_be_named (K : PySem.W.Frag) (c_SHUT_OR_BARRED_SORTS : Addr) : TS :=
 (tRet (tAndV (tCall (sp_is_rising K) [] E0 (tCons (tVar 1) tNil)) (tCB (r_all K) (tCons (tComp [some 0, none] (iAny K (tVar 1)) (gName 1) tTT (tOp (rInB K false) (tCall (sp_sort_of K) [] E0 (tCons (tVar 0) (tCons (tVar 1) tNil))) (tC (.ref c_SHUT_OR_BARRED_SORTS)))) tNil))))
theorem rd_may_be_named {c_SHUT_OR_BARRED_SORTS : Addr} (q_SHUT_OR_BARRED_SORTS : ∀ H : Hp, SqT K H c_SHUT_OR_BARRED_SORTS [.str ("plain" : Str), .str ("anew" : Str)]) (h : sp_may_be_named K vs H Q E) : R_may_be_named K c_SHUT_OR_BARRED_SORTS { nx := fun _ H' => Q .non H', rt := Q } (start ["rows", "names"] vs) H := by
  obtain ⟨v, a, rs, xs, rfl, hR, ha, hz, q⟩ := h
  show R_may_be_named K c_SHUT_OR_BARRED_SORTS _ [some v, some (.ref a)] H
  unfold R_may_be_named
  unfold mayB at q
  walk_at "step"
  refine ⟨a, xs, rfl, ha, hz, fun H1 s1 => ?_⟩
  refine ⟨_, rfl, ?_⟩
  cases e : risB xs with
  | false =>
    refine iteF ?_
    rw [e, Bool.false_and] at q
    exact q H1 s1
  | true =>
    refine iteT ?_
    rw [e, Bool.true_and] at q
    walk_at "step"
    refine any_compS (.inr (s1.sqT ha)) Same.refl' (fun i ys H' => Same H1 H' ∧ ys = ((xs.take i).map fun x => inO (sortOf rs (some x)) shutL).map V.bl) ⟨Same.refl', rfl⟩ ?_ (fun i ys H' p => p.1) ?_ ?_
    · rintro i ys H' hi ⟨_, rfl⟩
      rw [List.length_map, List.length_map, List.length_take]
      exact sl64 (by omega)
    · rintro i x ys H' hx ⟨s2, rfl⟩
      obtain ⟨x, hx', rfl⟩ := strV_get hx
      walk_at "step"
      refine ⟨v, some x, rs, rfl, (hR.same s1).same s2, ?_⟩
      walk_at "step"
      refine .inl (v_in (xs := strV shutL) (.inr (q_SHUT_OR_BARRED_SORTS H')) (flat_oV _) (flat_strV _) ?_)
      rw [inV_oV]
      refine ⟨s2, ?_⟩
      rw [List.take_add_one, hx', List.map_append, List.map_append]
      rfl
    · rintro ys H' ⟨s2, rfl⟩ c hc
      walk_at "step"
      refine v_all (SqL.of upd_same) ?_
      rw [strV_len, List.take_length, List.all_map]
      exact q _ (Same.tr s1 (Same.tr s2 (Same.new hc _)))
def sp_bars_fit (K : PySem.W.Frag) : Sp := fun vs H Q _ => ∃ (v w : V) (rs : List Row) (r : Row), vs = [v, w] ∧ Rws K H v rs ∧ Dv K H r.da w ∧ Sml r ∧ ∀ H', Same H H' → Q (.bl (mayB rs r.bars)) H'
theorem len_bars_fit (K : PySem.W.Frag) : ∀ vs H Q E, sp_bars_fit K vs H Q E → vs.length = ["rows", "row"].length := by rintro vs H Q E ⟨v, w, rs, r, rfl, _⟩; rfl
def R_bars_fit (K : PySem.W.Frag) : TS :=
 (tRet (tCall (sp_may_be_named K) [] E0 (tCons (tVar 0) (tCons (tOp (rIxA K) (tVar 1) (tC (.int 4))) tNil))))
theorem rd_bars_fit (h : sp_bars_fit K vs H Q E) : R_bars_fit K { nx := fun _ H' => Q .non H', rt := Q } (start ["rows", "row"] vs) H := by
  obtain ⟨v, w, rs, r, rfl, hR, hd, hS, q⟩ := h
  obtain ⟨b, s, t, rfl, hb, hs, ht⟩ := row5 hd
  show R_bars_fit K _ [some v, some (.ref b)] H
  unfold R_bars_fit
  have hB := hS.b
  walk_at "step"
  refine v_ixT hb (v := .ref t) (atI_nat (j := 4) rfl) ?_
  exact ⟨v, t, rs, r.bars, rfl, hR, ht, by omega, q⟩
@[reducible] def T_shuts_fit_0 (K : PySem.W.Frag) : TS :=
 (tRet (tAndV (tOp (rEqA K) (tCB (rLenA K) (tCons (tVar 2) tNil)) (tC (.int 0))) (tCall (sp_may_be_named K) [] E0 (tCons (tVar 0) (tCons (tOp (rIxA K) (tVar 1) (tC (.int 3))) tNil)))))
def shT (K : PySem.W.Frag) : TS :=
 (tSeq (tAsg (tComp [some 0, none] (iAny K (tOp (rIxA K) (tVar 1) (tC (.int 3)))) (gName 1) (tTest (tOp rIsNotA (tCall (sp_frame_of K) [] E0 (tCons (tVar 0) (tCons (tVar 1) tNil))) (tC .non))) (tVar 1)) (gName 2))
 (T_shuts_fit_0 K))
theorem sh_T {D : Ends} {v : V} {b s t : Addr} {rs : List Row} {r : Row} (hR : Rws K H v rs) (hb : SqT K H b [.str r.name, .str r.sort, .str r.host, .ref s, .ref t]) (hs : SqT K H s (strV r.shuts)) (hB : r.shuts.length ≤ 100)
    (q : ∀ H', Same H H' → D.rt (.bl (decide ((r.shuts.filter fun x => decide (frameOf rs (some x) ≠ none)).length = 0) && mayB rs r.shuts)) H') : shT K D [some v, some (.ref b), none] H := by
  unfold shT
  walk_at "step"
  refine v_ixT hb (v := .ref s) (atI_nat (j := 3) rfl) ?_
  refine any_compS (.inr hs) Same.refl' (fun i ys H' => Same H H' ∧ ys = strV ((r.shuts.take i).filter fun x => decide (frameOf rs (some x) ≠ none))) ⟨Same.refl', rfl⟩ ?_ (fun i ys H' p => p.1) ?_ ?_
  · rintro i ys H' hi ⟨_, rfl⟩
    have := List.length_filter_le (fun x => decide (frameOf rs (some x) ≠ none)) (r.shuts.take i)
    rw [List.length_take] at this
    rw [strV_len]
    exact sl64 (by omega)
  · rintro i x ys H' hx ⟨s2, rfl⟩
    obtain ⟨x, hx', rfl⟩ := strV_get hx
    walk_at "step"
    refine ⟨v, some x, rs, rfl, hR.same s2, ?_⟩
    walk_at "step"
    have et : r.shuts.take (i + 1) = r.shuts.take i ++ [x] := by rw [List.take_add_one, hx']; rfl
    cases e : frameOf rs (some x) with
    | none =>
      refine iteF ?_
      refine ⟨s2, ?_⟩
      rw [et, List.filter_append]
      simp [e]
    | some y =>
      refine iteT ?_
      walk_at "step"
      refine ⟨s2, ?_⟩
      rw [et, List.filter_append]
      simp [e, strV]
  · rintro ys H' ⟨s2, rfl⟩ c hc
    rw [strV_len, List.take_length]
    have s3 := Same.tr s2 (Same.new hc (.lst (strV (r.shuts.filter fun x => decide (frameOf rs (some x) ≠ none)))))
    have e3 : (upd H' c (.lst (strV (r.shuts.filter fun x => decide (frameOf rs (some x) ≠ none))))) c = some (.lst (strV (r.shuts.filter fun x => decide (frameOf rs (some x) ≠ none)))) := upd_same
    generalize upd H' c (.lst (strV (r.shuts.filter fun x => decide (frameOf rs (some x) ≠ none)))) = H3 at *
    generalize r.shuts.filter (fun x => decide (frameOf rs (some x) ≠ none)) = fs at *
    walk_at "step"
    refine v_lenQ (.inl (SqL.of e3)) ?_
    rw [strV_len]
    walk_at "step"
    by_cases hf : fs.length = 0
    · rw [decide_eq_true (show ((fs.length : Nat) : Int) = 0 by omega)]
      refine iteT ?_
      rw [decide_eq_true hf, Bool.true_and] at q
      walk_at "step"
      refine v_ixT (s3.sqT hb) (v := .ref s) (atI_nat (j := 3) rfl) ?_
      exact ⟨v, s, rs, r.shuts, rfl, hR.same s3, s3.sqT hs, by omega, fun H4 s4 => q H4 (Same.tr s3 s4)⟩
    · rw [decide_eq_false (show ¬ ((fs.length : Nat) : Int) = 0 by omega)]
      refine iteF ?_
      rw [decide_eq_false hf, Bool.false_and] at q
      exact q H3 s3
def sp_shuts_fit (K : PySem.W.Frag) : Sp := fun vs H Q _ => ∃ (v w : V) (rs : List Row) (r : Row), vs = [v, w] ∧ Rws K H v rs ∧ Dv K H r.da w ∧ Sml r ∧ ∀ H', Same H H' → Q (.bl (shutB rs r)) H'
theorem len_shuts_fit (K : PySem.W.Frag) : ∀ vs H Q E, sp_shuts_fit K vs H Q E → vs.length = ["rows", "row"].length := by rintro vs H Q E ⟨v, w, rs, r, rfl, _⟩; rfl
def R_shuts_fit (K : PySem.W.Frag) : TS :=
 (tSeq (tIfS (tAnd (tTest (tOp rGtA (tCB (rLenA K) (tCons (tOp (rIxA K) (tVar 1) (tC (.int 3))) tNil)) (tC (.int 0)))) (tTest (tOp rIsNotA (tCall (sp_frame_of K) [] E0 (tCons (tVar 0) (tCons (tOp (rIxA K) (tVar 1) (tC (.int 0))) tNil))) (tC .non))))
 (tRet (tC (.bl false))) tNext)
 (shT K))
theorem rd_shuts_fit (h : sp_shuts_fit K vs H Q E) : R_shuts_fit K { nx := fun _ H' => Q .non H', rt := Q } (start ["rows", "row", "hosts"] vs) H := by
  obtain ⟨v, w, rs, r, rfl, hR, hd, hS, q⟩ := h
  obtain ⟨b, s, t, rfl, hb, hs, ht⟩ := row5 hd
  show R_shuts_fit K _ [some v, some (.ref b), none] H
  unfold R_shuts_fit
  unfold shutB at q
  have hB := hS.s
  walk_at "step"
  refine v_ixT hb (v := .ref s) (atI_nat (j := 3) rfl) ?_
  walk_at "step"
  refine v_lenQ (.inr hs) ?_
  rw [strV_len]
  walk_at "step"
  by_cases h0 : 0 < r.shuts.length
  · rw [decide_eq_true (show (0 : Int) < (r.shuts.length : Nat) by omega)]
    refine iteT ?_
    walk_at "step"
    refine v_ixT hb (v := .str r.name) (atI_nat (j := 0) rfl) ?_
    refine ⟨v, some r.name, rs, rfl, hR, ?_⟩
    walk_at "step"
    cases e : frameOf rs (some r.name) with
    | none =>
      refine iteF ?_
      walk_at "step"
      have hn : ¬ (0 < r.shuts.length ∧ frameOf rs (some r.name) ≠ none) := fun z => z.2 e
      rw [if_neg hn] at q
      exact sh_T hR hb hs hB.1 q
    | some y =>
      refine iteT ?_
      walk_at "step"
      rw [if_pos ⟨h0, by rw [e]; simp⟩] at q
      exact q H Same.refl'
  · rw [decide_eq_false (show ¬ (0 : Int) < (r.shuts.length : Nat) by omega)]
    refine iteF ?_
    walk_at "step"
    have hn : ¬ (0 < r.shuts.length ∧ frameOf rs (some r.name) ≠ none) := fun z => h0 z.1
    rw [if_neg hn] at q
    exact sh_T hR hb hs hB.1 q
@[reducible] def T_host_fits_0 (K : PySem.W.Frag) : TS :=
 (tRet (tOp (rEqA K) (tCall (sp_frame_of K) [] E0 (tCons (tVar 0) (tCons (tOp (rIxA K) (tVar 1) (tC (.int 2))) tNil))) (tOp (rIxA K) (tVar 1) (tC (.int 0)))))
@[reducible] def T_host_fits_1 (K : PySem.W.Frag) (c_HOST_SORTS : Addr) : TS :=
 (tSeq (tIfS (tOr (tTest (tOp (rInB K true) (tCall (sp_sort_of K) [] E0 (tCons (tVar 0) (tCons (tOp (rIxA K) (tVar 1) (tC (.int 2))) tNil))) (tC (.ref c_HOST_SORTS)))) (tB (tCall (sp_comes_back K) [] E0 (tCons (tVar 0) (tCons (tOp (rIxA K) (tVar 1) (tC (.int 0))) tNil)))))
 (tRet (tC (.bl false))) tNext)
 (T_host_fits_0 K))
def sp_host_fits (K : PySem.W.Frag) : Sp := fun vs H Q _ => ∃ (v w : V) (rs : List Row) (r : Row), vs = [v, w] ∧ Rws K H v rs ∧ rs.length ≤ 900 ∧ Dv K H r.da w ∧ Sml r ∧ ∀ H', Same H H' → Q (.bl (hostB rs r)) H'
theorem len_host_fits (K : PySem.W.Frag) : ∀ vs H Q E, sp_host_fits K vs H Q E → vs.length = ["rows", "row"].length := by rintro vs H Q E ⟨v, w, rs, r, rfl, _⟩; rfl
def R_host_fits (K : PySem.W.Frag) (c_HOST_SORTS : Addr) : TS :=
 (tSeq (tIfS (tTest (tOp (rNeA K) (tOp (rIxA K) (tVar 1) (tC (.int 1))) (tC (.str ("frame" : Str)))))
 (tRet (tC (.bl true))) tNext)
 (T_host_fits_1 K c_HOST_SORTS))
theorem rd_host_fits {c_HOST_SORTS : Addr} (q_HOST_SORTS : ∀ H : Hp, SqT K H c_HOST_SORTS [.str ("plain" : Str), .str ("frame" : Str)]) (h : sp_host_fits K vs H Q E) : R_host_fits K c_HOST_SORTS { nx := fun _ H' => Q .non H', rt := Q } (start ["rows", "row"] vs) H := by
  obtain ⟨v, w, rs, r, rfl, hR, hz, hd, hS, q⟩ := h
  obtain ⟨b, s, t, rfl, hb, hs, ht⟩ := row5 hd
  show R_host_fits K c_HOST_SORTS _ [some v, some (.ref b)] H
  unfold R_host_fits
  unfold hostB at q
  walk_at "step"
  refine v_ixT hb (v := .str r.sort) (atI_nat (j := 1) rfl) ?_
  walk_at "step"
  by_cases hf : r.sort = ("frame" : Str)
  · rw [decide_eq_true hf]
    refine iteF ?_
    rw [if_pos hf] at q
    walk_at "step"
    refine v_ixT hb (v := .str r.host) (atI_nat (j := 2) rfl) ?_
    refine ⟨v, some r.host, rs, rfl, hR, ?_⟩
    walk_at "step"
    refine .inl (v_notin (xs := strV hostL) (.inr (q_HOST_SORTS H)) (flat_oV _) (flat_strV _) ?_)
    rw [inV_oV]
    walk_at "step"
    cases e1 : inO (sortOf rs (some r.host)) hostL with
    | false =>
      refine iteT ?_
      walk_at "step"
      rw [if_neg (fun z => by rw [e1] at z; exact Bool.false_ne_true z.1)] at q
      exact q H Same.refl'
    | true =>
      refine iteF ?_
      walk_at "step"
      refine v_ixT hb (v := .str r.name) (atI_nat (j := 0) rfl) ?_
      refine ⟨v, r.name, rs, rfl, hR, by omega, ?_⟩
      refine ⟨_, rfl, ?_⟩
      cases e2 : backB rs r.name rs.length (hostOf rs (some r.name)) with
      | true =>
        refine iteT ?_
        walk_at "step"
        rw [if_neg (fun z => by rw [e2] at z; exact absurd z.2 (by decide))] at q
        exact q H Same.refl'
      | false =>
        refine iteF ?_
        walk_at "step"
        refine v_ixT hb (v := .str r.host) (atI_nat (j := 2) rfl) ?_
        refine ⟨v, some r.host, rs, rfl, hR, ?_⟩
        walk_at "step"
        refine v_ixT hb (v := .str r.name) (atI_nat (j := 0) rfl) ?_
        refine v_eqO' ?_
        rw [if_pos ⟨e1, e2⟩] at q
        exact q H Same.refl'
  · rw [decide_eq_false hf]
    refine iteT ?_
    rw [if_neg hf] at q
    walk_at "step"
    exact q H Same.refl'
def sp_fits (K : PySem.W.Frag) : Sp := fun vs H Q _ => ∃ (v w : V) (rs : List Row) (r : Row), vs = [v, w] ∧ Rws K H v rs ∧ rs.length ≤ 900 ∧ Dv K H r.da w ∧ Sml r ∧ ∀ H', Same H H' → Q (.bl (fitB rs r)) H'
theorem len_fits (K : PySem.W.Frag) : ∀ vs H Q E, sp_fits K vs H Q E → vs.length = ["rows", "row"].length := by rintro vs H Q E ⟨v, w, rs, r, rfl, _⟩; rfl
def R_fits (K : PySem.W.Frag) : TS :=
 (tRet (tAndV (tCall (sp_host_fits K) [] E0 (tCons (tVar 0) (tCons (tVar 1) tNil))) (tAndV (tCall (sp_shuts_fit K) [] E0 (tCons (tVar 0) (tCons (tVar 1) tNil))) (tCall (sp_bars_fit K) [] E0 (tCons (tVar 0) (tCons (tVar 1) tNil))))))
theorem rd_fits (h : sp_fits K vs H Q E) : R_fits K { nx := fun _ H' => Q .non H', rt := Q } (start ["rows", "row"] vs) H := by
  obtain ⟨v, w, rs, r, rfl, hR, hz, hd, hS, q⟩ := h
  show R_fits K _ [some v, some w] H
  unfold R_fits
  unfold fitB at q
  walk_at "step"
  refine ⟨v, w, rs, r, rfl, hR, hz, hd, hS, fun H1 s1 => ?_⟩
  refine ⟨_, rfl, ?_⟩
  cases e : hostB rs r with
  | false =>
    refine iteF ?_
    rw [e, Bool.false_and] at q
    exact q H1 s1
  | true =>
    refine iteT ?_
    rw [e, Bool.true_and] at q
    walk_at "step"
    refine ⟨v, w, rs, r, rfl, hR.same s1, Dv.same s1 _ _ hd, hS, fun H2 s2 => ?_⟩
    refine ⟨_, rfl, ?_⟩
    have s12 := Same.tr s1 s2
    cases e : shutB rs r with
    | false =>
      refine iteF ?_
      rw [e, Bool.false_and] at q
      exact q H2 s12
    | true =>
      refine iteT ?_
      rw [e, Bool.true_and] at q
      walk_at "step"
      exact ⟨v, w, rs, r, rfl, hR.same s12, Dv.same s12 _ _ hd, hS, fun H3 s3 => q H3 (Same.tr s12 s3)⟩
end My
namespace My
open PySem L2
variable {K : PySem.W.Frag} {vs : List V} {H : Hp} {Q : VK} {E : XK}
theorem cut_to {vs : List V} {i : Nat} (h : i ≤ vs.length) : cutV vs none (some (i : Int)) = vs.take i := by
  unfold cutV
  have e1 : HT.sIx vs.length 0 none = 0 := rfl
  have e2 : HT.sIx vs.length vs.length (some (i : Int)) = i := by
    show (if (i : Int) < 0 then ((i : Int) + vs.length).toNat else min (i : Int).toNat vs.length) = i
    rw [if_neg (by omega)]; omega
  rw [e1, e2]; simp
theorem dvs_take {ds : List PyData} {us : List V} (h : Dvs K H ds us) (i : Nat) : Dvs K H (ds.take i) (us.take i) := by
  induction i generalizing ds us with
  | zero => rw [List.take_zero, List.take_zero]; exact dvs_nil
  | succ i ih =>
    cases ds with
    | nil => rw [Dvs] at h; subst h; rw [List.take_nil, List.take_nil]; exact dvs_nil
    | cons d ds =>
      rw [Dvs] at h
      obtain ⟨v, r, rfl, h1, h2⟩ := h
      exact dvs_cons h1 (ih h2)
def OkAt (rs : List Row) (i : Nat) : Prop := ∀ r, rs[i]? = some r → rowOf (rs.take i) (some r.name) = none ∧ fitB (firstRows rs) r = true
structure FstM (rs : List Row) (i : Nat) : Prop where
  lt : i < rs.length
  bad : ¬ OkAt rs i
  ok : ∀ j, j < i → OkAt rs j
theorem misN_ok {rs : List Row} : MisN rs ↔ ∀ i, OkAt rs i := ⟨fun h i r hr => h i r hr, fun h i r hr => h i r hr⟩
theorem FstM.uniq {rs : List Row} {i j : Nat} (h1 : FstM rs i) (h2 : FstM rs j) : i = j := by
  rcases Nat.lt_trichotomy i j with h | h | h
  · exact absurd (h2.ok i h) h1.bad
  · exact h
  · exact absurd (h1.ok j h) h2.bad
theorem FstM.not {rs : List Row} {i : Nat} (h : FstM rs i) : ¬ MisN rs := fun m => h.bad (misN_ok.mp m i)
inductive Mis (K : PySem.W.Frag) (H0 : Hp) (a c : Addr) (rs : List Row) (i : Nat) : St → Hp → Prop
  | mk {H' : Hp} {a2 a3 a4 : Option V} (s : Same H0 H') (g : ∀ (j : Nat) (r : Row), j < i → rs[j]? = some r → rowOf (rs.take j) (some r.name) = none ∧ fitB (firstRows rs) r = true) : Mis K H0 a c rs i [some (.ref a), some (.ref c), a2, a3, a4] H'
def fmT (K : PySem.W.Frag) : TS :=
 (tIfS (tOr (tB (tVar 4)) (tNot (tB (tCall (sp_fits K) [] E0 (tCons (tVar 1) (tCons (tVar 3) tNil))))))
 (tRet (tVar 2)) tNext)
theorem fm_T {D : Ends} {a c b : Addr} {i : Nat} {rs : List Row} {r : Row} {c0 : Bool} (hr : rs[i]? = some r) (hC : Rws K H (.ref c) (firstRows rs)) (hz : (firstRows rs).length ≤ 900) (hd3 : Dv K H r.da (.ref b)) (hS : Sml r) (hc0 : c0 = false ↔ rowOf (rs.take i) (some r.name) = none)
    (qi : ∀ H', Same H H' → ¬ OkAt rs i → D.rt (.int i) H') (qn : ∀ H', Same H H' → rowOf (rs.take i) (some r.name) = none → fitB (firstRows rs) r = true → D.nx [some (.ref a), some (.ref c), some (.int i), some (.ref b), some (.bl c0)] H') :
    fmT K D [some (.ref a), some (.ref c), some (.int i), some (.ref b), some (.bl c0)] H := by
  unfold fmT
  cases c0 with
  | true =>
    walk_at "step"
    refine qi _ Same.refl' fun m => ?_
    have := hc0.mpr (m r hr).1
    cases this
  | false =>
    have hrn := hc0.mp rfl
    walk_at "step"
    refine ⟨.ref c, .ref b, firstRows rs, r, rfl, hC, hz, hd3, hS, fun H4 s4 => ?_⟩
    refine ⟨_, rfl, ?_⟩
    cases e : fitB (firstRows rs) r with
    | false =>
      refine iteT ?_
      walk_at "step"
      refine qi _ s4 fun m => ?_
      have := (m r hr).2
      rw [e] at this; cases this
    | true =>
      refine iteF ?_
      walk_at "step"
      exact qn _ s4 hrn e
@[reducible] def T_first_misfit_1 (K : PySem.W.Frag) : TS :=
 (tSeq (tAsg (tOp rIsNotA (tCall (sp_row_of K) [] E0 (tCons (tSl (rSlB K) (tVar 0) tNoPart (tPart (tVar 2))) (tCons (tOp (rIxA K) (tVar 3) (tC (.int 0))) tNil))) (tC .non)) (gName 4))
 (fmT K))
@[reducible] def T_first_misfit_2 (K : PySem.W.Frag) : TS :=
 (tSeq (tFor (iEnumL K (tCons (tVar 0) tNil)) (gTup K 2 (gCons (gName 2) (gCons (gName 3) gNil)))
 (T_first_misfit_1 K))
 (tRet (tC .non)))
def sp_first_misfit (K : PySem.W.Frag) : Sp := fun vs H Q _ => ∃ (a : Addr) (us : List V) (rs : List Row), vs = [.ref a] ∧ SqL K H a us ∧ Dvs K H (rs.map Row.da) us ∧ rs.length ≤ 900 ∧ (∀ r ∈ rs, Sml r) ∧ (∀ H', Same H H' → MisN rs → Q .non H') ∧ ∀ (i : Nat) H', Same H H' → FstM rs i → Q (.int i) H'
theorem len_first_misfit (K : PySem.W.Frag) : ∀ vs H Q E, sp_first_misfit K vs H Q E → vs.length = ["rows"].length := by rintro vs H Q E ⟨a, us, rs, rfl, _⟩; rfl
def R_first_misfit (K : PySem.W.Frag) : TS :=
 (tSeq (tAsg (tCall (sp_first_rows K) [] E0 (tCons (tVar 0) tNil)) (gName 1))
 (T_first_misfit_2 K))
theorem rd_first_misfit (h : sp_first_misfit K vs H Q E) : R_first_misfit K { nx := fun _ H' => Q .non H', rt := Q } (start ["rows", "counted", "number", "row", "told_before"] vs) H := by
  obtain ⟨a, us, rs, rfl, hq, hd, hz, hS, qn, qi⟩ := h
  have lus : us.length = rs.length := by have := hd.length; simpa using this
  show R_first_misfit K _ [some (.ref a), none, none, none, none] H
  unfold R_first_misfit
  walk_at "step"
  refine ⟨.ref a, rs, rfl, ⟨a, us, rfl, .inl hq, hd⟩, hz, fun c cs H1 s1 nc hc hcd => ?_⟩
  have hcl := firstRows_len rs
  walk_at "step"
  refine st_enumL ?_
  walk_at "step"
  refine enumL_for (s1.sqL hq) (Mis K H1 a c rs) (.mk Same.refl' fun j r hj => absurd hj (Nat.not_lt_zero _)) (fun i σ H' p => by cases p with | mk s g => exact s.sqL (s1.sqL hq)) ?_ ?_
  · rintro i x σ H' p hx ⟨s, g⟩ hp
    rename_i a2 a3 a4
    have s2 := Same.tr s (Same.new hp (.tup [.int i, x]))
    obtain ⟨d, hd1, hd2⟩ := (Dvs.same (Same.tr s1 s2) _ _ hd).get' hx
    rw [List.getElem?_map] at hd1
    obtain ⟨r, hr, rfl⟩ := Option.map_eq_some_iff.mp hd1
    have hi : i < rs.length := (List.getElem?_eq_some_iff.mp hr).1
    refine ⟨p, _, rfl, SqT.of upd_same, rfl, _, _, rfl, st_name ⟨_, _, rfl, st_name ⟨rfl, ?_⟩⟩⟩
    generalize upd H' p (.tup [.int i, x]) = H2 at *
    have s02 := Same.tr s1 s2
    walk_at "step"
    refine .inl (v_slL (s02.sqL hq) fun t ht0 => ?_)
    rw [cut_to (by omega)]
    have s3 := Same.new ht0 (.lst (us.take i))
    have ht : (upd H2 t (.lst (us.take i))) t = some (.lst (us.take i)) := upd_same
    generalize upd H2 t (.lst (us.take i)) = H3 at *
    have s03 := Same.tr s02 s3
    walk_at "step"
    obtain ⟨b, s', t', rfl, hb, _, _⟩ := row5 hd2
    refine v_ixT (s3.sqT hb) (v := .str r.name) (atI_nat (j := 0) rfl) ?_
    have hdt := dvs_take (Dvs.same s03 _ _ hd) i
    rw [← List.map_take] at hdt
    have hd3 := Dv.same s3 _ _ hd2
    have s23 := Same.tr s2 s3
    have hC : Rws K H3 (.ref c) (firstRows rs) := ⟨c, cs, rfl, .inl (SqL.of (s23 _ _ hc)), Dvs.same s23 _ _ hcd⟩
    refine ⟨.ref t, some r.name, rs.take i, rfl, ⟨t, _, rfl, .inl (SqL.of ht), hdt⟩, fun e => ?_, fun r' u e hu => ?_⟩
    · walk_at "step"
      refine fm_T hr hC (by omega) hd3 (hS r (List.mem_of_getElem? hr)) ⟨fun _ => e, fun _ => rfl⟩ (fun H' s m => qi i H' (Same.tr s03 s) ⟨hi, m, fun j hj r2 hr2 => g j r2 hj hr2⟩) fun H4 s4 h1 h2 => .mk (Same.tr s23 s4) fun j r2 hj hr2 => ?_
      rcases Nat.lt_or_ge j i with hlt | hge
      · exact g j r2 hlt hr2
      · have ej : j = i := by omega
        subst ej
        rw [hr] at hr2; cases hr2
        exact ⟨h1, h2⟩
    · obtain ⟨b', _, _, rfl, _⟩ := row5 hu
      walk_at "step"
      exact fm_T hr hC (by omega) hd3 (hS r (List.mem_of_getElem? hr)) ⟨fun z => (by cases z), fun z => by rw [e] at z; cases z⟩ (fun H' s m => qi i H' (Same.tr s03 s) ⟨hi, m, fun j hj r2 hr2 => g j r2 hj hr2⟩) fun H4 s4 h1 h2 => by rw [e] at h1; cases h1
  · rintro σ H' ⟨s, g⟩
    walk_at "step"
    exact qn H' (Same.tr s1 s) fun j r hr => g j r (by rw [lus]; exact (List.getElem?_eq_some_iff.mp hr).1) hr
end My
namespace My
open PySem L2
variable {K : PySem.W.Frag} {vs : List V} {H : Hp} {Q : VK} {E : XK}
def hostsL (rs : List Row) : List Str := (rs.filter fun r => decide (r.sort = ("frame" : Str))).map (·.host)
theorem rowOf_none {l : List Row} {x : Str} : rowOf l (some x) = none ↔ x ∉ l.map Row.name := by
  unfold rowOf
  rw [List.find?_eq_none]
  constructor
  · intro h hm
    obtain ⟨r, hr, rfl⟩ := List.mem_map.mp hm
    have := h r hr
    simp at this
  · intro h r hr
    have : r.name ≠ x := fun e => h (e ▸ List.mem_map_of_mem hr)
    simp [this]
theorem rowOf_some {l : List Row} {x : Str} {r : Row} (h : rowOf l (some x) = some r) : r ∈ l ∧ r.name = x := by
  unfold rowOf at h
  have h1 := List.mem_of_find?_eq_some h
  have h2 := List.find?_some h
  exact ⟨h1, by simpa using h2⟩
theorem map_inj {α β : Type} {f : α → β} : ∀ {l : List α}, (l.map f).Nodup → ∀ {a b : α}, a ∈ l → b ∈ l → f a = f b → a = b
  | [], _, a, b, ha, _, _ => by cases ha
  | x :: l, h, a, b, ha, hb, e => by
    rw [List.map_cons, List.nodup_cons] at h
    rcases List.mem_cons.mp ha with rfl | ha'
    · rcases List.mem_cons.mp hb with rfl | hb'
      · rfl
      · exact absurd (e ▸ List.mem_map_of_mem hb') h.1
    · rcases List.mem_cons.mp hb with rfl | hb'
      · exact absurd (e ▸ List.mem_map_of_mem ha') h.1
      · exact map_inj h.2 ha' hb' e
theorem inj_map {α β : Type} {f : α → β} : ∀ {l : List α}, l.Nodup → (∀ a ∈ l, ∀ b ∈ l, f a = f b → a = b) → (l.map f).Nodup
  | [], _, _ => List.nodup_nil
  | x :: l, h, g => by
    rw [List.nodup_cons] at h
    rw [List.map_cons, List.nodup_cons]
    refine ⟨fun hm => ?_, inj_map h.2 fun a ha b hb => g a (List.mem_cons_of_mem _ ha) b (List.mem_cons_of_mem _ hb)⟩
    obtain ⟨y, hy, e⟩ := List.mem_map.mp hm
    have := g y (List.mem_cons_of_mem _ hy) x List.mem_cons_self e
    rw [this] at hy
    exact h.1 hy
section
variable {rs : List Row}
theorem rowOf_mem (nd : (rs.map Row.name).Nodup) {r : Row} (hr : r ∈ rs) : rowOf rs (some r.name) = some r := by
  cases e : rowOf rs (some r.name) with
  | none => exact absurd (List.mem_map_of_mem hr) (rowOf_none.mp e)
  | some r2 =>
    obtain ⟨h1, h2⟩ := rowOf_some e
    rw [map_inj nd h1 hr h2]
theorem frame_host {x : Str} : frameOf rs (some x) ≠ none ↔ x ∈ hostsL rs := by
  unfold frameOf hostsL
  rw [ne_eq, Option.map_eq_none_iff, List.find?_eq_none]
  constructor
  · intro h
    apply Classical.byContradiction
    intro g
    apply h
    intro r hr z
    apply g
    have z : r.sort = ("frame" : Str) ∧ r.host = x := by simpa using z
    exact List.mem_map.mpr ⟨r, List.mem_filter.mpr ⟨hr, decide_eq_true z.1⟩, z.2⟩
  · intro h g
    obtain ⟨r, hr, e⟩ := List.mem_map.mp h
    rw [List.mem_filter] at hr
    have e2 := of_decide_eq_true hr.2
    exact g r hr.1 (by simp [e2, e])
theorem frameOf_some {x y : Str} (h : frameOf rs (some x) = some y) : ∃ r ∈ rs, r.sort = ("frame" : Str) ∧ r.host = x ∧ r.name = y := by
  unfold frameOf at h
  obtain ⟨r, hr, e⟩ := Option.map_eq_some_iff.mp h
  have h1 := List.mem_of_find?_eq_some hr
  have h2 := List.find?_some hr
  have h2 : r.sort = ("frame" : Str) ∧ r.host = x := by simpa using h2
  exact ⟨r, h1, h2.1, h2.2, e⟩
def itO (rs : List Row) : Nat → Option Str → Option Str
  | 0, h => h
  | k + 1, h => itO rs k (hostOf rs h)
theorem itO_none : ∀ k, itO rs k none = none
  | 0 => rfl
  | k + 1 => by
    show itO rs k (hostOf rs none) = none
    have : hostOf rs none = none := by
      unfold hostOf rowOf
      have : rs.find? (fun r => decide (some r.name = none)) = none := by rw [List.find?_eq_none]; intro r _; simp
      rw [this]; rfl
    rw [this]; exact itO_none k
theorem back_iff {n : Str} : ∀ (k : Nat) (h : Option Str), backB rs n k h = true ↔ ∃ j, j < k ∧ itO rs j h = some n
  | 0, h => by
    rw [backB]
    constructor
    · intro z; cases z
    · rintro ⟨j, hj, _⟩; omega
  | k + 1, h => by
    rw [backB]
    by_cases e : h = some n
    · rw [if_pos e]
      exact ⟨fun _ => ⟨0, by omega, e⟩, fun _ => rfl⟩
    · rw [if_neg e, back_iff k]
      constructor
      · rintro ⟨j, hj, q⟩
        exact ⟨j + 1, by omega, q⟩
      · rintro ⟨j, hj, q⟩
        cases j with
        | zero => exact absurd q e
        | succ j => exact ⟨j, by omega, q⟩
theorem firstRows_id : ∀ {l : List Row}, (l.map Row.name).Nodup → firstRows l = l := by
  intro l
  induction h : l.length generalizing l with
  | zero => intro _; rw [List.eq_nil_of_length_eq_zero h]; rfl
  | succ n ih =>
    intro nd
    rcases List.eq_nil_or_concat l with rfl | ⟨l', r, rfl⟩
    · rfl
    · rw [List.concat_eq_append] at *
      rw [List.map_append, List.nodup_append] at nd
      have hl : l'.length = n := by simpa using h
      rw [firstRows_snoc, ih hl nd.1, if_pos]
      rw [rowOf_none]
      intro hm
      exact nd.2.2 _ hm _ (by simp) rfl
theorem shut_iff {r : Row} : shutB rs r = true ↔ ¬ (r.shuts ≠ [] ∧ r.name ∈ hostsL rs) ∧ (∀ x ∈ r.shuts, x ∉ hostsL rs) ∧ mayB rs r.shuts = true := by
  have h0 : 0 < r.shuts.length ↔ r.shuts ≠ [] := by cases r.shuts <;> simp
  unfold shutB
  have hh : (0 < r.shuts.length ∧ frameOf rs (some r.name) ≠ none) ↔ (r.shuts ≠ [] ∧ r.name ∈ hostsL rs) := by rw [h0, frame_host]
  by_cases h : r.shuts ≠ [] ∧ r.name ∈ hostsL rs
  · rw [if_pos (hh.mpr h)]
    exact ⟨fun z => (by cases z), fun z => absurd h z.1⟩
  · rw [if_neg (fun z => h (hh.mp z)), Bool.and_eq_true, decide_eq_true_eq, List.length_eq_zero_iff, List.filter_eq_nil_iff]
    have e : (∀ a ∈ r.shuts, ¬ decide (frameOf rs (some a) ≠ none) = true) ↔ ∀ x ∈ r.shuts, x ∉ hostsL rs := by
      constructor
      · intro z x hx hm; exact z x hx (decide_eq_true (frame_host.mpr hm))
      · intro z x hx hm; exact z x hx (frame_host.mp (of_decide_eq_true hm))
    rw [e]
    exact ⟨fun z => ⟨h, z⟩, fun z => z.2⟩
theorem host_iff {r : Row} : hostB rs r = true ↔ (r.sort = ("frame" : Str) → inO (sortOf rs (some r.host)) hostL = true ∧ backB rs r.name rs.length (hostOf rs (some r.name)) = false ∧ frameOf rs (some r.host) = some r.name) := by
  unfold hostB
  by_cases hf : r.sort = ("frame" : Str)
  · rw [if_pos hf]
    by_cases h : inO (sortOf rs (some r.host)) hostL = true ∧ backB rs r.name rs.length (hostOf rs (some r.name)) = false
    · rw [if_pos h, decide_eq_true_eq]
      exact ⟨fun z _ => ⟨h.1, h.2, z⟩, fun z => (z hf).2.2⟩
    · rw [if_neg h]
      exact ⟨fun z => (by cases z), fun z => absurd ⟨(z hf).1, (z hf).2.1⟩ h⟩
  · rw [if_neg hf]
    exact ⟨fun _ z => absurd z hf, fun _ => rfl⟩
theorem fit_iff {r : Row} : fitB rs r = true ↔ hostB rs r = true ∧ shutB rs r = true ∧ mayB rs r.bars = true := by
  unfold fitB; rw [Bool.and_eq_true, Bool.and_eq_true]
end
theorem lt_or_eq : ∀ (a b : List Nat), ¬ b < a → a ≠ b → a < b
  | [], [], _, n => absurd rfl n
  | [], y :: ys, _, _ => List.nil_lt_cons _ _
  | x :: xs, [], h, _ => absurd (List.nil_lt_cons _ _) h
  | x :: xs, y :: ys, h, n => by
    rw [List.cons_lt_cons_iff] at h ⊢
    rcases Nat.lt_trichotomy x y with g | g | g
    · exact .inl g
    · subst g
      exact .inr ⟨rfl, lt_or_eq xs ys (fun z => h (.inr ⟨rfl, z⟩)) (fun z => n (by rw [z]))⟩
    · exact absurd (.inl g) h
theorem le_trans' {a b c : List Nat} (h1 : ¬ b < a) (h2 : ¬ c < b) : ¬ c < a := by
  intro h
  by_cases e1 : a = b
  · rw [e1] at h; exact h2 h
  · have l1 := lt_or_eq a b h1 e1
    exact h2 (List.lt_trans h l1)
theorem sorted_pw : ∀ {xs : List Str}, PyProof.Rows.sortedS xs = true → xs.Pairwise fun a b => ¬ b.cps.toList < a.cps.toList
  | [], _ => .nil
  | [x], _ => .cons (fun y hy => by cases hy) .nil
  | x :: y :: r, h => by
    have h : PyProof.Rows.risingS x (y :: r) = true := h
    rw [PyProof.Rows.risingS, Bool.and_eq_true] at h
    have ih := sorted_pw (xs := y :: r) h.2
    have hxy : ¬ y.cps.toList < x.cps.toList := fun z => by
      have h1 := h.1
      rw [PyProof.Rows.ltCps_eq, decide_eq_true z] at h1
      cases h1
    refine .cons (fun z hz => ?_) ih
    rcases List.mem_cons.mp hz with rfl | hz
    · exact hxy
    · cases ih with | cons h0 _ => exact le_trans' hxy (h0 z hz)
theorem sorted_eq {xs ys : List Str} (h1 : PyProof.Rows.sortedS xs = true) (h2 : PyProof.Rows.sortedS ys = true) (p : xs.Perm ys) : xs = ys :=
  List.Perm.eq_of_pairwise (fun a b _ _ h1 h2 => Classical.byContradiction fun n => h2 (lt_or_eq _ _ h1 fun e => n (str_ext e))) (sorted_pw h1) (sorted_pw h2) p
def jn (c : Nat) : List Str → List Nat
  | [] => []
  | [x] => x.cps.toList
  | x :: y :: r => x.cps.toList ++ c :: jn c (y :: r)
theorem join_jn (c : Nat) : ∀ xs : List Str, (Str.join ⟨#[c]⟩ xs).cps.toList = jn c xs
  | [] => rfl
  | [x] => rfl
  | x :: y :: r => by
    show (x ++ ⟨#[c]⟩ ++ Str.join ⟨#[c]⟩ (y :: r)).cps.toList = _
    rw [jn, ← join_jn c (y :: r)]
    show (x.cps ++ #[c] ++ (Str.join ⟨#[c]⟩ (y :: r)).cps).toList = _
    simp
theorem app_free {c : Nat} : ∀ {a b u v : List Nat}, c ∉ a → c ∉ b → a ++ c :: u = b ++ c :: v → a = b ∧ u = v
  | [], [], u, v, _, _, e => ⟨rfl, by simpa using e⟩
  | [], y :: b, u, v, _, hb, e => by
    rw [List.nil_append, List.cons_append] at e
    injection e with e1 e2
    exact absurd (by rw [← e1]; exact List.mem_cons_self) hb
  | x :: a, [], u, v, ha, _, e => by
    rw [List.nil_append, List.cons_append] at e
    injection e with e1 e2
    exact absurd (by rw [e1]; exact List.mem_cons_self) ha
  | x :: a, y :: b, u, v, ha, hb, e => by
    rw [List.cons_append, List.cons_append] at e
    injection e with e1 e2
    have := app_free (fun h => ha (List.mem_cons_of_mem _ h)) (fun h => hb (List.mem_cons_of_mem _ h)) e2
    exact ⟨by rw [e1, this.1], this.2⟩
theorem jn_mem {c : Nat} : ∀ {x y : Str} {r : List Str}, c ∈ jn c (x :: y :: r) := by
  intro x y r
  rw [jn]; simp
theorem jn_inj {c : Nat} : ∀ {xs ys : List Str}, xs ≠ [] → ys ≠ [] → (∀ x ∈ xs, c ∉ x.cps.toList) → (∀ y ∈ ys, c ∉ y.cps.toList) → jn c xs = jn c ys → xs = ys
  | [], _, h, _, _, _, _ => absurd rfl h
  | _ :: _, [], _, h, _, _, _ => absurd rfl h
  | [x], [y], _, _, _, _, e => by rw [str_ext (show x.cps.toList = y.cps.toList from e)]
  | [x], y :: z :: r, _, _, hx, _, e => by
    have e : x.cps.toList = jn c (y :: z :: r) := e
    exact absurd (by rw [e]; exact jn_mem) (hx x List.mem_cons_self)
  | x :: z :: r, [y], _, _, _, hy, e => by
    have e : jn c (x :: z :: r) = y.cps.toList := e
    exact absurd (by rw [← e]; exact jn_mem) (hy y List.mem_cons_self)
  | x :: x2 :: r, y :: y2 :: s, _, _, hx, hy, e => by
    rw [jn, jn] at e
    obtain ⟨e1, e2⟩ := app_free (hx x List.mem_cons_self) (hy y List.mem_cons_self) e
    have := jn_inj (xs := x2 :: r) (ys := y2 :: s) (by simp) (by simp) (fun w hw => hx w (List.mem_cons_of_mem _ hw)) (fun w hw => hy w (List.mem_cons_of_mem _ hw)) e2
    rw [str_ext e1, this]
theorem split_join {c : Nat} {xs : List Str} (hne : xs ≠ []) (hf : ∀ x ∈ xs, c ∉ x.cps.toList) : PySem.Txt.split (Str.join ⟨#[c]⟩ xs) ⟨#[c]⟩ = xs := by
  have h1 := PySem.StrLaws.join_split (Str.join ⟨#[c]⟩ xs) ⟨#[c]⟩
  have h2 := PySem.StrLaws.split_free (Str.join ⟨#[c]⟩ xs) c
  have h3 := (PyProof.Rows.fact_split (Str.join ⟨#[c]⟩ xs) ⟨#[c]⟩).1
  refine jn_inj (fun e => by rw [e] at h3; exact absurd h3 (by decide)) hne h2 hf ?_
  rw [← join_jn, ← join_jn, h1]
end My
namespace My
open PySem L2
variable {K : PySem.W.Frag} {vs : List V} {H : Hp} {Q : VK} {E : XK}
def kwL (k : Str) (xs : List Str) : List Str := if xs = [] then [] else k :: xs
def hostW (r : Row) : List Str := if r.sort = ("frame" : Str) then [r.host] else []
def wordsR (r : Row) (sh ba : List Str) : List Str := [r.name, r.sort] ++ (hostW r ++ (kwL ("shuts" : Str) sh ++ kwL ("bars" : Str) ba))
def nbF (k : Str) (ws : List Str) : List Str := if ws.take 1 = [k] then (ws.drop 1).takeWhile nmX else []
def wfN (xs : List Str) : Nat := if xs.length = 0 then 0 else 1 + xs.length
theorem kwL_len (k : Str) (xs : List Str) : (kwL k xs).length = wfN xs := by
  unfold kwL wfN
  cases xs with
  | nil => rfl
  | cons x xs => rw [if_neg (by simp), if_neg (by simp), List.length_cons, List.length_cons]; omega
theorem takeW {xs ys : List Str} (h : ∀ x ∈ xs, nmX x = true) (h2 : ∀ y, ys.head? = some y → nmX y = false) : (xs ++ ys).takeWhile nmX = xs := by
  induction xs with
  | nil =>
    cases ys with
    | nil => rfl
    | cons y ys => rw [List.nil_append, List.takeWhile_cons, h2 y rfl]; rfl
  | cons x xs ih => rw [List.cons_append, List.takeWhile_cons, h x List.mem_cons_self, if_pos rfl, ih fun y hy => h y (List.mem_cons_of_mem _ hy)]
theorem kw_noB : nmX ("bars" : Str) = false := by decide +kernel
theorem nb_shuts {sh ba : List Str} (h : ∀ x ∈ sh, nmX x = true) : nbF ("shuts" : Str) (kwL ("shuts" : Str) sh ++ kwL ("bars" : Str) ba) = sh := by
  unfold nbF
  cases sh with
  | nil =>
    have e : kwL ("shuts" : Str) [] = [] := rfl
    rw [e, List.nil_append]
    cases ba with
    | nil => rfl
    | cons y ys => rw [if_neg]; unfold kwL; rw [if_neg (by simp)]; show ¬ [("bars" : Str)] = [("shuts" : Str)]; decide +kernel
  | cons x xs =>
    have e : kwL ("shuts" : Str) (x :: xs) = ("shuts" : Str) :: (x :: xs) := by unfold kwL; rw [if_neg (by simp)]
    rw [e, List.cons_append, if_pos (by rfl : List.take 1 (("shuts" : Str) :: (x :: xs ++ kwL ("bars" : Str) ba)) = [("shuts" : Str)])]
    show ((x :: xs) ++ kwL ("bars" : Str) ba).takeWhile nmX = _
    refine takeW h fun y hy => ?_
    unfold kwL at hy
    split at hy
    · cases hy
    · cases hy; exact kw_noB
theorem nb_bars {ba : List Str} (h : ∀ x ∈ ba, nmX x = true) : nbF ("bars" : Str) (kwL ("bars" : Str) ba) = ba := by
  unfold nbF
  cases ba with
  | nil => rfl
  | cons x xs =>
    have e : kwL ("bars" : Str) (x :: xs) = ("bars" : Str) :: (x :: xs) := by unfold kwL; rw [if_neg (by simp)]
    rw [e, if_pos (by rfl : List.take 1 (("bars" : Str) :: x :: xs) = [("bars" : Str)])]
    show (x :: xs).takeWhile nmX = _
    have := takeW (ys := []) h (fun y hy => by cases hy)
    rwa [List.append_nil] at this
structure RowG (r : Row) : Prop where
  n : nmX r.name = true
  s : r.sort ∈ sortsL
  f : r.sort = ("frame" : Str) → nmX r.host = true
  e : r.sort ≠ ("frame" : Str) → r.host = ("" : Str)
  a : ∀ x ∈ r.shuts, nmX x = true
  b : ∀ x ∈ r.bars, nmX x = true
  sa : PyProof.Rows.sortedS r.shuts = true
  sb : PyProof.Rows.sortedS r.bars = true
  la : r.shuts.length ≤ 12
  lb : r.bars.length ≤ 12
theorem nm_len {x : Str} (h : nmX x = true) : x.length ≤ 8 := (nmX_ok.mp h).eight
theorem sort_len : ∀ x ∈ sortsL, x.length ≤ 8 := by decide +kernel
theorem eqv_strL (xs ys : List Str) : PyData.eqv (.list (sDa xs)) (.list (sDa ys)) = decide (xs = ys) := by
  induction xs generalizing ys with
  | nil => cases ys with
    | nil => rfl
    | cons y ys => rfl
  | cons x xs ih =>
    cases ys with
    | nil => rfl
    | cons y ys =>
      have h := ih ys
      rw [PyData.eqv] at h ⊢
      show PyData.eqvAll (.str x :: sDa xs) (.str y :: sDa ys) = _
      rw [PyData.eqvAll, h]
      rw [PyData.eqv]
      by_cases e : x = y
      · subst e; by_cases e2 : xs = ys <;> simp [e2]
      · simp [e]
def sp_words_for (K : PySem.W.Frag) : Sp := fun vs H Q _ => ∃ (a : Addr) (xs : List Str), vs = [.ref a] ∧ SqL K H a (strV xs) ∧ Q (.int (wfN xs : Nat)) H
theorem len_words_for (K : PySem.W.Frag) : ∀ vs H Q E, sp_words_for K vs H Q E → vs.length = ["names"].length := by rintro vs H Q E ⟨a, xs, rfl, _⟩; rfl
def R_words_for (K : PySem.W.Frag) : TS :=
 (tRet (tIf (tTest (tOp (rEqA K) (tCB (rLenA K) (tCons (tVar 0) tNil)) (tC (.int 0)))) (tC (.int 0)) (tOp (rAddA K) (tC (.int 1)) (tCB (rLenA K) (tCons (tVar 0) tNil)))))
theorem rd_words_for (h : sp_words_for K vs H Q E) : R_words_for K { nx := fun _ H' => Q .non H', rt := Q } (start ["names"] vs) H := by
  obtain ⟨a, xs, rfl, ha, q⟩ := h
  show R_words_for K _ [some (.ref a)] H
  unfold R_words_for
  unfold wfN at q
  walk_at "step"
  refine v_lenQ (.inl ha) ?_
  rw [strV_len]
  walk_at "step"
  by_cases h0 : xs.length = 0
  · rw [decide_eq_true (show ((xs.length : Nat) : Int) = 0 by omega)]
    refine iteT ?_
    rw [if_pos h0] at q
    walk_at "step"
    exact q
  · rw [decide_eq_false (show ¬ ((xs.length : Nat) : Int) = 0 by omega)]
    refine iteF ?_
    rw [if_neg h0] at q
    walk_at "step"
    refine v_lenQ (.inl ha) ?_
    rw [strV_len]
    walk_at "step"
    rw [show ((1 + xs.length : Nat) : Int) = 1 + (xs.length : Nat) by omega] at q
    exact q
inductive Nbh (K : PySem.W.Frag) (H0 : Hp) (k : Str) (a p : Addr) (ws : List Str) (i : Nat) : St → Hp → Prop
  | mk {H' : Hp} {o : Option V} (s : Same H0 H') (n0 : H0 p = none) (g : H' p = some (.lst (strV (ws.take i)))) (h : ∀ x ∈ ws.take i, nmX x = true) : Nbh K H0 k a p ws i [some (.str k), some (.ref a), some (.ref p), o] H'
theorem cut1 (xs : List Str) : cutV (strV xs) none (some 1) = strV (xs.take 1) := by
  unfold cutV strV
  cases xs with
  | nil => rfl
  | cons x xs =>
    rw [← List.map_drop, ← List.map_take, List.length_map]
    have e1 : HT.sIx (x :: xs).length (x :: xs).length (some 1) = 1 := by
      show (if (1 : Int) < 0 then ((1 : Int) + ((x :: xs).length : Nat)).toNat else min (1 : Int).toNat (x :: xs).length) = 1
      rw [if_neg (by decide), List.length_cons]
      show min 1 (xs.length + 1) = 1
      omega
    have e2 : HT.sIx (x :: xs).length 0 none = 0 := rfl
    rw [e1, e2]; rfl
def nbR (K : PySem.W.Frag) : TS :=
 (tRet (tVar 2))
theorem nb_R {D : Ends} {k : Str} {a p : Addr} {o : Option V} (q : D.rt (.ref p) H) : nbR K D [some (.str k), some (.ref a), some (.ref p), o] H := by
  unfold nbR
  walk_at "step"
  exact q
@[reducible] def T_names_behind_0 (K : PySem.W.Frag) : TS :=
 (tSeq (tIfS (tNot (tB (tCall (sp_is_name K) [] E0 (tCons (tVar 3) tNil))))
 tBreak tNext)
 (tDrop (tBM K "list" rAppend (tVar 2) (tCons (tVar 3) tNil))))
@[reducible] def T_names_behind_1 (K : PySem.W.Frag) : TS :=
 (tFor (iAny K (tSl (rSlA K) (tVar 1) (tPart (tC (.int 1))) tNoPart)) (gName 3)
 (T_names_behind_0 K))
@[reducible] def T_names_behind_2 (K : PySem.W.Frag) : TS :=
 (tSeq (tIfS (tTest (tOp (rEqA K) (tSl (rSlA K) (tVar 1) tNoPart (tPart (tC (.int 1)))) (tLst (tCons (tVar 0) tNil))))
 (T_names_behind_1 K) tNext)
 (nbR K))
def sp_names_behind (K : PySem.W.Frag) : Sp := fun vs H Q _ => ∃ (k : Str) (a : Addr) (ws : List Str), vs = [.str k, .ref a] ∧ H a = some (.lst (strV ws)) ∧ ws.length ≤ 1000 ∧ (∀ x ∈ ws, x.length ≤ 1000) ∧ ∀ (p : Addr) (H' : Hp), Same H H' → H p = none → H' p = some (.lst (strV (nbF k ws))) → Q (.ref p) H'
theorem len_names_behind (K : PySem.W.Frag) : ∀ vs H Q E, sp_names_behind K vs H Q E → vs.length = ["keyword", "words"].length := by rintro vs H Q E ⟨k, a, ws, rfl, _⟩; rfl
def R_names_behind (K : PySem.W.Frag) : TS :=
 (tSeq (tAsg (tLst tNil) (gName 2))
 (T_names_behind_2 K))
theorem rd_names_behind (h : sp_names_behind K vs H Q E) : R_names_behind K { nx := fun _ H' => Q .non H', rt := Q } (start ["keyword", "words", "names", "word"] vs) H := by
  obtain ⟨k, a, ws, rfl, ha, hz, hx, q⟩ := h
  show R_names_behind K _ [some (.str k), some (.ref a), none, none] H
  unfold R_names_behind
  unfold nbF at q
  walk_at "step"
  refine ⟨sl64 (by simp), fun p hp => ?_⟩
  have s1 := Same.new hp (.lst [])
  have e1 : (upd H p (.lst [])) p = some (.lst []) := upd_same
  generalize upd H p (.lst []) = H1 at *
  walk_at "step"
  refine v_slL (SqL.of (s1 _ _ ha)) fun p2 hp2 => ?_
  rw [cut1]
  have s2 := Same.new hp2 (.lst (strV (ws.take 1)))
  have e2 : (upd H1 p2 (.lst (strV (ws.take 1)))) p2 = some (.lst (strV (ws.take 1))) := upd_same
  generalize upd H1 p2 (.lst (strV (ws.take 1))) = H2 at *
  walk_at "step"
  refine ⟨sl64 (by simp), fun p3 hp3 => ?_⟩
  have s3 := Same.new hp3 (.lst [.str k])
  refine v_eqM (d := .list (sDa (ws.take 1))) (e := .list (sDa [k])) (dv_list.mpr ⟨p2, _, rfl, SqL.of (s3 _ _ e2), dvs_sDa.mpr rfl⟩) (dv_list.mpr ⟨p3, _, rfl, SqL.of upd_same, dvs_sDa.mpr rfl⟩) (Nat.le_trans (Nat.min_le_right _ _) (by have : (PyData.list [PyData.str k]).depth = 1 := rfl; show (PyData.list [PyData.str k]).depth ≤ _; omega)) ?_
  rw [eqv_strL]
  generalize upd H2 p3 (.lst [.str k]) = H3 at *
  have s13 := Same.tr s2 s3
  have s03 := Same.tr s1 s13
  walk_at "step"
  by_cases hk : ws.take 1 = [k]
  · rw [decide_eq_true hk]
    refine iteT ?_
    rw [if_pos hk] at q
    walk_at "step"
    refine v_slL (SqL.of (s03 _ _ ha)) fun p4 hp4 => ?_
    rw [cut_one']
    have s4 := Same.new hp4 (.lst (strV (ws.drop 1)))
    have e4 : (upd H3 p4 (.lst (strV (ws.drop 1)))) p4 = some (.lst (strV (ws.drop 1))) := upd_same
    have np4 : p4 ≠ p := fun z => by rw [z, s13 _ _ e1] at hp4; cases hp4
    have ep4 := s4 _ _ (s13 _ _ e1)
    have s04 := Same.tr s03 s4
    generalize upd H3 p4 (.lst (strV (ws.drop 1))) = H4 at *
    have hwl : (ws.drop 1).length ≤ 1000 := by rw [List.length_drop]; omega
    have hwx : ∀ x ∈ ws.drop 1, x.length ≤ 1000 := fun x h => hx x (List.mem_of_mem_drop h)
    generalize ws.drop 1 = us at *
    refine ⟨p4, rfl, .inl ⟨⟨_, SqL.of e4⟩, for_list (xs := strV us) (fun i σ H' => H' p4 = some (.lst (strV us)) ∧ Nbh K H k a p us i σ H') ⟨e4, .mk s04 hp ep4 (fun x hx => by cases hx)⟩ (fun i σ H' _ p => SqL.of p.1) ?_ ?_⟩⟩
    · rintro i x σ H' hx' ⟨h4, s5, n0, g, h⟩
      rename_i o1
      obtain ⟨x, hxi, rfl⟩ := strV_get hx'
      have hil : i < us.length := (List.getElem?_eq_some_iff.mp hxi).1
      have et : us.take (i + 1) = us.take i ++ [x] := by rw [List.take_add_one, hxi]; rfl
      have hxl := hwx x (List.mem_of_getElem? hxi)
      walk_at "step"
      refine ⟨x, rfl, by omega, fun H6 s6 => ?_⟩
      refine ⟨_, rfl, ?_⟩
      have g6 := s6 _ _ g
      have s06 := Same.tr s5 s6
      cases e : nmX x with
      | false =>
        refine iteT ?_
        walk_at "step"
        refine nb_R (K := K) (q p H6 s06 hp ?_)
        rw [g6]
        congr 2
        have : us = us.take i ++ (x :: us.drop (i + 1)) := by
          rw [List.getElem?_eq_getElem hil] at hxi
          injection hxi with hxi
          rw [← hxi, ← List.drop_eq_getElem_cons hil, List.take_append_drop]
        have h9 := takeW (xs := us.take i) (ys := x :: us.drop (i + 1)) h (fun y hy => by cases hy; exact e)
        rw [← this] at h9
        rw [h9]
      | true =>
        refine iteF ?_
        walk_at "step"
        refine ⟨.inl ⟨rfl, _, SqL.of g6⟩, ?_⟩
        walk_at "step"
        refine v_append g6 (by rw [strV_len, List.length_take, sizeLine_eq]; omega) ?_
        refine ⟨by rw [upd_ne np4]; exact s6 _ _ h4, .mk (Same.put s06 hp _) hp ?_ fun y hy => ?_⟩
        · rw [upd_same, et]; unfold strV; rw [List.map_append]; rfl
        · rw [et] at hy
          rcases List.mem_append.mp hy with hy | hy
          · exact h y hy
          · rw [List.mem_singleton.mp hy]; exact e
    · rintro σ H' ⟨h4, s5, n0, g, h⟩
      rw [strV_len, List.take_length] at g h
      refine nb_R (K := K) (q p H' s5 hp ?_)
      rw [g]
      have h9 := takeW (ys := []) h (fun y hy => by cases hy)
      rw [List.append_nil] at h9
      rw [h9]
  · rw [decide_eq_false hk]
    refine iteF ?_
    rw [if_neg hk] at q
    walk_at "step"
    exact nb_R (K := K) (q p H3 s03 hp (s13 _ _ e1))
end My
namespace My
open PySem L2
variable {K : PySem.W.Frag} {vs : List V} {H : Hp} {Q : VK} {E : XK}
theorem mkRow {w s t : Addr} {n so h : Str} {sh ba : List Str} (e : H w = some (.tup [.str n, .str so, .str h, .ref s, .ref t])) (hs : SqT K H s (strV sh)) (ht : SqT K H t (strV ba)) : Dv K H (Row.da ⟨n, so, h, sh, ba⟩) (.ref w) :=
  dv_tuple.mpr ⟨w, _, rfl, SqT.of e, dvs_cons (dv_str.mpr rfl) (dvs_cons (dv_str.mpr rfl) (dvs_cons (dv_str.mpr rfl) (dvs_cons (dv_tuple.mpr ⟨s, _, rfl, hs, dvs_sDa.mpr rfl⟩) (dvs_cons (dv_tuple.mpr ⟨t, _, rfl, ht, dvs_sDa.mpr rfl⟩) dvs_nil))))⟩
theorem cut_fromS {ws : List Str} {i : Nat} (h : i ≤ ws.length) : cutV (strV ws) (some (i : Int)) none = strV (ws.drop i) := by
  unfold cutV
  have e1 : HT.sIx (strV ws).length 0 (some (i : Int)) = i := by
    rw [strV_len]
    show (if (i : Int) < 0 then ((i : Int) + ws.length).toNat else min (i : Int).toNat ws.length) = i
    rw [if_neg (by omega)]; omega
  have e2 : HT.sIx (strV ws).length (strV ws).length none = (strV ws).length := rfl
  rw [e1, e2, List.take_of_length_le (by rw [List.length_drop]; omega)]
  unfold strV; rw [List.map_drop]
@[reducible] def T_read_row_1 (K : PySem.W.Frag) : TS :=
 (tRet (tTup (tCons (tOp (rIxA K) (tVar 0) (tC (.int 0))) (tCons (tOp (rIxA K) (tVar 0) (tC (.int 1))) (tCons (tVar 1) (tCons (tCB (rTupleA K) (tCons (tCB (rSortedS K) (tCons (tVar 3) tNil)) tNil)) (tCons (tCB (rTupleA K) (tCons (tCB (rSortedS K) (tCons (tVar 4) tNil)) tNil)) tNil)))))))
@[reducible] def T_read_row_2 (K : PySem.W.Frag) : TS :=
 (tSeq (tIfS (tTest (tOp (rNeA K) (tOp (rAddA K) (tVar 2) (tCall (sp_words_for K) [] E0 (tCons (tVar 4) tNil))) (tCB (rLenA K) (tCons (tVar 0) tNil))))
 (tRet (tC .non)) tNext)
 (T_read_row_1 K))
@[reducible] def T_read_row_3 (K : PySem.W.Frag) : TS :=
 (tSeq (tAsg (tCall (sp_names_behind K) [] E0 (tCons (tC (.str ("bars" : Str))) (tCons (tSl (rSlA K) (tVar 0) (tPart (tVar 2)) tNoPart) tNil))) (gName 4))
 (T_read_row_2 K))
@[reducible] def T_read_row_4 (K : PySem.W.Frag) : TS :=
 (tSeq (tAsg (tOp (rAddA K) (tVar 2) (tCall (sp_words_for K) [] E0 (tCons (tVar 3) tNil))) (gName 2))
 (T_read_row_3 K))
def rrR (K : PySem.W.Frag) : TS :=
 (tSeq (tAsg (tCall (sp_names_behind K) [] E0 (tCons (tC (.str ("shuts" : Str))) (tCons (tSl (rSlA K) (tVar 0) (tPart (tVar 2)) tNoPart) tNil))) (gName 3))
 (T_read_row_4 K))
theorem rr_R {D : Ends} {a : Addr} {st : Nat} {r : Row} {sh ba ws : List Str} (G : RowG r) (p1 : sh.Perm r.shuts) (p2 : ba.Perm r.bars) (ha : H a = some (.lst (strV ws))) (hw0 : ws[0]? = some r.name) (hw1 : ws[1]? = some r.sort) (hws : ws.drop st = kwL ("shuts" : Str) sh ++ kwL ("bars" : Str) ba) (hst : st ≤ 3) (hsl : st ≤ ws.length) (hwl : ws.length ≤ 100) (hwx : ∀ x ∈ ws, x.length ≤ 100)
    (q : ∀ (t : Addr) H', Same H H' → Dv K H' r.da (.ref t) → D.rt (.ref t) H') : rrR K D [some (.ref a), some (.str r.host), some (.int st), none, none] H := by
  have ha1 : ∀ x ∈ sh, nmX x = true := fun x hx => G.a x (p1.mem_iff.mp hx)
  have hb1 : ∀ x ∈ ba, nmX x = true := fun x hx => G.b x (p2.mem_iff.mp hx)
  have hsl2 : sh.length ≤ 12 := by rw [p1.length_eq]; exact G.la
  have hbl2 : ba.length ≤ 12 := by rw [p2.length_eq]; exact G.lb
  unfold rrR
  walk_at "step"
  refine v_slL (SqL.of ha) fun p hp => ?_
  rw [cut_fromS hsl]
  have s1 := Same.new hp (.lst (strV (ws.drop st)))
  have e1 : (upd H p (.lst (strV (ws.drop st)))) p = some (.lst (strV (ws.drop st))) := upd_same
  generalize upd H p (.lst (strV (ws.drop st))) = H1 at *
  walk_at "step"
  refine ⟨("shuts" : Str), p, ws.drop st, rfl, e1, by rw [List.length_drop]; omega, fun x hx => by have := hwx x (List.mem_of_mem_drop hx); omega, fun c H2 s2 _ hc => ?_⟩
  rw [hws, nb_shuts ha1] at hc
  have s02 := Same.tr s1 s2
  walk_at "step"
  refine ⟨c, sh, rfl, SqL.of hc, ?_⟩
  walk_at "step"
  have hlw : ws.length = st + (wfN sh + wfN ba) := by
    have h := congrArg List.length hws
    rw [List.length_drop, List.length_append, kwL_len, kwL_len] at h
    omega
  have hd2 : ws.drop (st + wfN sh) = kwL ("bars" : Str) ba := by
    rw [← List.drop_drop, hws, ← kwL_len ("shuts" : Str), List.drop_left]
  refine v_slL (SqL.of (s02 _ _ ha)) fun p3 hp3 => ?_
  rw [show ((st : Int) + (wfN sh : Nat)) = ((st + wfN sh : Nat) : Int) by omega, cut_fromS (by omega), hd2]
  have s3 := Same.new hp3 (.lst (strV (kwL ("bars" : Str) ba)))
  have e3 : (upd H2 p3 (.lst (strV (kwL ("bars" : Str) ba)))) p3 = some (.lst (strV (kwL ("bars" : Str) ba))) := upd_same
  generalize upd H2 p3 (.lst (strV (kwL ("bars" : Str) ba))) = H3 at *
  have hkx : ∀ x ∈ kwL ("bars" : Str) ba, x.length ≤ 1000 := fun x hx => by
    rw [← hd2] at hx
    have := hwx x (List.mem_of_mem_drop hx); omega
  have hkl : (kwL ("bars" : Str) ba).length ≤ 1000 := by rw [← hd2, List.length_drop]; omega
  walk_at "step"
  refine ⟨("bars" : Str), p3, kwL ("bars" : Str) ba, rfl, e3, hkl, hkx, fun d H4 s4 _ hd => ?_⟩
  rw [nb_bars hb1] at hd
  have s24 := Same.tr s3 s4
  have s04 := Same.tr s02 s24
  walk_at "step"
  refine ⟨d, ba, rfl, SqL.of hd, ?_⟩
  walk_at "step"
  refine v_lenQ (.inl (SqL.of (s04 _ _ ha))) ?_
  walk_at "step"
  rw [strV_len, decide_eq_true (show ((st + wfN sh : Nat) : Int) + (wfN ba : Nat) = (ws.length : Nat) by omega)]
  refine iteF ?_
  walk_at "step"
  have hv0 : (strV ws)[0]? = some (.str r.name) := by unfold strV; rw [List.getElem?_map, hw0]; rfl
  have hv1 : (strV ws)[1]? = some (.str r.sort) := by unfold strV; rw [List.getElem?_map, hw1]; rfl
  refine v_ixL (SqL.of (s04 _ _ ha)) (v := .str r.name) (atI_nat (j := 0) hv0) ?_
  walk_at "step"
  refine v_ixL (SqL.of (s04 _ _ ha)) (v := .str r.sort) (atI_nat (j := 1) hv1) ?_
  walk_at "step"
  refine ⟨c, sh, rfl, SqL.of (s24 _ _ hc), by omega, fun l ys hp' hs' hl => ?_⟩
  have ey : ys = r.shuts := sorted_eq hs' G.sa (hp'.trans p1)
  subst ey
  have s5 := Same.new hl (.lst (strV r.shuts))
  have e5 : (upd H4 l (.lst (strV r.shuts))) l = some (.lst (strV r.shuts)) := upd_same
  generalize upd H4 l (.lst (strV r.shuts)) = H5 at *
  walk_at "step"
  refine ⟨l, _, rfl, .inl ⟨SqL.of e5, fun t1 ht1 => ?_⟩⟩
  have s6 := Same.new ht1 (.tup (strV r.shuts))
  have e6 : (upd H5 t1 (.tup (strV r.shuts))) t1 = some (.tup (strV r.shuts)) := upd_same
  generalize upd H5 t1 (.tup (strV r.shuts)) = H6 at *
  walk_at "step"
  refine ⟨d, ba, rfl, SqL.of (s6 _ _ (s5 _ _ hd)), by omega, fun l2 zs hp'' hs'' hl2 => ?_⟩
  have ez : zs = r.bars := sorted_eq hs'' G.sb (hp''.trans p2)
  subst ez
  have s7 := Same.new hl2 (.lst (strV r.bars))
  have e7 : (upd H6 l2 (.lst (strV r.bars))) l2 = some (.lst (strV r.bars)) := upd_same
  generalize upd H6 l2 (.lst (strV r.bars)) = H7 at *
  walk_at "step"
  refine ⟨l2, _, rfl, .inl ⟨SqL.of e7, fun t2 ht2 => ?_⟩⟩
  have s8 := Same.new ht2 (.tup (strV r.bars))
  have e8 : (upd H7 t2 (.tup (strV r.bars))) t2 = some (.tup (strV r.bars)) := upd_same
  generalize upd H7 t2 (.tup (strV r.bars)) = H8 at *
  walk_at "step"
  refine ⟨sl64 (by simp), fun t3 ht3 => ?_⟩
  have s9 := Same.new ht3 (.tup [.str r.name, .str r.sort, .str r.host, .ref t1, .ref t2])
  have e9 : (upd H8 t3 (.tup [.str r.name, .str r.sort, .str r.host, .ref t1, .ref t2])) t3 = some (.tup [.str r.name, .str r.sort, .str r.host, .ref t1, .ref t2]) := upd_same
  refine q t3 _ (Same.tr s04 (Same.tr s5 (Same.tr s6 (Same.tr s7 (Same.tr s8 s9))))) ?_
  exact mkRow e9 (SqT.of (s9 _ _ (s8 _ _ (s7 _ _ e6)))) (SqT.of (s9 _ _ e8))
@[reducible] def T_read_row_0 (K : PySem.W.Frag) : TS :=
 (tSeq (tIfS (tOr (tTest (tOp rLtA (tCB (rLenA K) (tCons (tVar 0) tNil)) (tC (.int 3)))) (tNot (tB (tCall (sp_is_name K) [] E0 (tCons (tOp (rIxA K) (tVar 0) (tC (.int 2))) tNil)))))
 (tRet (tC .non)) tNext)
 (tSeq (tAsg (tOp (rIxA K) (tVar 0) (tC (.int 2))) (gName 1))
 (tAsg (tC (.int 3)) (gName 2))))
@[reducible] def T_read_row_6 (K : PySem.W.Frag) : TS :=
 (tSeq (tIfS (tTest (tOp (rEqA K) (tOp (rIxA K) (tVar 0) (tC (.int 1))) (tC (.str ("frame" : Str)))))
 (T_read_row_0 K) tNext)
 (rrR K))
@[reducible] def T_read_row_7 (K : PySem.W.Frag) : TS :=
 (tSeq (tAsg (tC (.str ("" : Str))) (gName 1))
 (tSeq (tAsg (tC (.int 2)) (gName 2))
 (T_read_row_6 K)))
def sp_read_row (K : PySem.W.Frag) : Sp := fun vs H Q _ => ∃ (a : Addr) (r : Row) (sh ba : List Str), vs = [.ref a] ∧ RowG r ∧ sh.Perm r.shuts ∧ ba.Perm r.bars ∧ H a = some (.lst (strV (wordsR r sh ba))) ∧ ∀ (t : Addr) H', Same H H' → Dv K H' r.da (.ref t) → Q (.ref t) H'
theorem len_read_row (K : PySem.W.Frag) : ∀ vs H Q E, sp_read_row K vs H Q E → vs.length = ["words"].length := by rintro vs H Q E ⟨a, r, sh, ba, rfl, _⟩; rfl
def R_read_row (K : PySem.W.Frag) (c_SORTS : Addr) : TS :=
 (tSeq (tIfS (tOr (tTest (tOp rLtA (tCB (rLenA K) (tCons (tVar 0) tNil)) (tC (.int 2)))) (tOr (tNot (tB (tCall (sp_is_name K) [] E0 (tCons (tOp (rIxA K) (tVar 0) (tC (.int 0))) tNil)))) (tTest (tOp (rInB K true) (tOp (rIxA K) (tVar 0) (tC (.int 1))) (tC (.ref c_SORTS))))))
 (tRet (tC .non)) tNext)
 (T_read_row_7 K))
theorem rd_read_row {c_SORTS : Addr} (q_SORTS : ∀ H : Hp, SqT K H c_SORTS [.str ("bare" : Str), .str ("plain" : Str), .str ("anew" : Str), .str ("room" : Str), .str ("frame" : Str)]) (h : sp_read_row K vs H Q E) : R_read_row K c_SORTS { nx := fun _ H' => Q .non H', rt := Q } (start ["words", "host", "start", "shuts", "bars"] vs) H := by
  obtain ⟨a, r, sh, ba, rfl, G, p1, p2, ha, q⟩ := h
  show R_read_row K c_SORTS _ [some (.ref a), none, none, none, none] H
  unfold R_read_row
  have hsl2 : sh.length ≤ 12 := by rw [p1.length_eq]; exact G.la
  have hbl2 : ba.length ≤ 12 := by rw [p2.length_eq]; exact G.lb
  have hw0 : (wordsR r sh ba)[0]? = some r.name := rfl
  have hw1 : (wordsR r sh ba)[1]? = some r.sort := rfl
  have hk1 := kwL_len ("shuts" : Str) sh
  have hk2 := kwL_len ("bars" : Str) ba
  have hf1 : wfN sh ≤ 13 := by unfold wfN; split <;> omega
  have hf2 : wfN ba ≤ 13 := by unfold wfN; split <;> omega
  have hlen : (wordsR r sh ba).length = 2 + (hostW r).length + wfN sh + wfN ba := by
    unfold wordsR
    rw [List.length_append, List.length_append, List.length_append, hk1, hk2]
    show 2 + _ = _
    omega
  have hhl : (hostW r).length ≤ 1 := by unfold hostW; split <;> simp
  have hwx : ∀ x ∈ wordsR r sh ba, x.length ≤ 100 := by
    intro x hx
    unfold wordsR at hx
    have nl : ∀ {z : Str}, nmX z = true → z.length ≤ 100 := fun h => by have := nm_len h; omega
    rcases List.mem_append.mp hx with hx | hx
    · rcases List.mem_cons.mp hx with rfl | hx
      · exact nl G.n
      · rw [List.mem_singleton.mp hx]; have := sort_len _ G.s; omega
    · rcases List.mem_append.mp hx with hx | hx
      · unfold hostW at hx
        split at hx
        · rename_i hf; rw [List.mem_singleton.mp hx]; exact nl (G.f hf)
        · cases hx
      · rcases List.mem_append.mp hx with hx | hx
        · unfold kwL at hx
          split at hx
          · cases hx
          · rcases List.mem_cons.mp hx with rfl | hx
            · decide +kernel
            · exact nl (G.a x (p1.mem_iff.mp hx))
        · unfold kwL at hx
          split at hx
          · cases hx
          · rcases List.mem_cons.mp hx with rfl | hx
            · decide +kernel
            · exact nl (G.b x (p2.mem_iff.mp hx))
  have hv0 : (strV (wordsR r sh ba))[0]? = some (.str r.name) := rfl
  have hv1 : (strV (wordsR r sh ba))[1]? = some (.str r.sort) := rfl
  have hd : (wordsR r sh ba).drop 2 = hostW r ++ (kwL ("shuts" : Str) sh ++ kwL ("bars" : Str) ba) := rfl
  have hnl := nm_len G.n
  walk_at "step"
  refine v_lenQ (.inl (SqL.of ha)) ?_
  rw [strV_len]
  walk_at "step"
  rw [decide_eq_false (show ¬ (((wordsR r sh ba).length : Nat) : Int) < 2 by omega)]
  refine iteF ?_
  walk_at "step"
  refine v_ixL (SqL.of ha) (v := .str r.name) (atI_nat (j := 0) hv0) ?_
  refine ⟨r.name, rfl, by omega, fun H1 s1 => ?_⟩
  refine ⟨_, rfl, ?_⟩
  rw [G.n]
  refine iteF ?_
  walk_at "step"
  refine v_ixL (SqL.of (s1 _ _ ha)) (v := .str r.sort) (atI_nat (j := 1) hv1) ?_
  walk_at "step"
  refine .inl (v_notin (xs := strV sortsL) (.inr (q_SORTS H1)) rfl (flat_strV _) ?_)
  rw [inV_strV, decide_eq_true G.s]
  walk_at "step"
  refine iteF ?_
  walk_at "step"
  refine v_ixL (SqL.of (s1 _ _ ha)) (v := .str r.sort) (atI_nat (j := 1) hv1) ?_
  walk_at "step"
  by_cases hf : r.sort = ("frame" : Str)
  · rw [decide_eq_true hf]
    refine iteT ?_
    have hh : hostW r = [r.host] := by unfold hostW; rw [if_pos hf]
    have hv2 : (strV (wordsR r sh ba))[2]? = some (.str r.host) := by unfold wordsR; rw [hh]; rfl
    have hhn := nm_len (G.f hf)
    rw [hh] at hlen
    have hlen : (wordsR r sh ba).length = 2 + 1 + wfN sh + wfN ba := hlen
    walk_at "step"
    refine v_lenQ (.inl (SqL.of (s1 _ _ ha))) ?_
    rw [strV_len]
    walk_at "step"
    rw [decide_eq_false (show ¬ (((wordsR r sh ba).length : Nat) : Int) < 3 by omega)]
    refine iteF ?_
    walk_at "step"
    refine v_ixL (SqL.of (s1 _ _ ha)) (v := .str r.host) (atI_nat (j := 2) hv2) ?_
    refine ⟨r.host, rfl, by omega, fun H2 s2 => ?_⟩
    refine ⟨_, rfl, ?_⟩
    rw [G.f hf]
    refine iteF ?_
    have s02 := Same.tr s1 s2
    walk_at "step"
    refine v_ixL (SqL.of (s02 _ _ ha)) (v := .str r.host) (atI_nat (j := 2) hv2) ?_
    walk_at "step"
    refine rr_R (st := 3) G p1 p2 (s02 _ _ ha) hw0 hw1 ?_ (by omega) (by omega) (by omega) hwx fun t H' s' hd' => q t H' (Same.tr s02 s') hd'
    unfold wordsR; rw [hh]; rfl
  · rw [decide_eq_false hf]
    refine iteF ?_
    have hh : hostW r = [] := by unfold hostW; rw [if_neg hf]
    have he := G.e hf
    walk_at "step"
    have := rr_R (K := K) (D := { nx := fun _ H' => Q .non H', rt := Q }) (st := 2) G p1 p2 (s1 _ _ ha) hw0 hw1 (by rw [hd, hh]; rfl) (by omega) (by omega) (by omega) hwx fun t H' s' hd' => q t H' (Same.tr s1 s') hd'
    rw [he] at this
    exact this
end My
namespace My
open PySem L2
variable {K : PySem.W.Frag} {vs : List V} {H : Hp} {Q : VK} {E : XK}
theorem txt_join (z : Str) (xs : List Str) : PySem.Txt.join z xs = Str.join z xs := PySem.StrLaws.glued_eq_join _ _
def lineR (r : Row) (sh ba : List Str) : Str := Str.join (" " : Str) (wordsR r sh ba)
def LineOf (r : Row) (l : Str) : Prop := ∃ sh ba, sh.Perm r.shuts ∧ ba.Perm r.bars ∧ l = lineR r sh ba
def Lines : List Row → List Str → Prop
  | [], ls => ls = []
  | r :: rs, ls => ∃ l ls', ls = l :: ls' ∧ LineOf r l ∧ Lines rs ls'
theorem Lines.len : ∀ {rs : List Row} {ls : List Str}, Lines rs ls → ls.length = rs.length
  | [], _, h => by rw [show _ = [] from h]; rfl
  | r :: rs, _, ⟨l, ls, e, _, h⟩ => by rw [e, List.length_cons, List.length_cons, h.len]
theorem Lines.get : ∀ {rs : List Row} {ls : List Str} {i : Nat} {l : Str}, Lines rs ls → ls[i]? = some l → ∃ r, rs[i]? = some r ∧ LineOf r l
  | [], _, i, l, h, e => by rw [show _ = [] from h] at e; simp at e
  | r :: rs, _, 0, l, ⟨l', ls, e, h1, h2⟩, e2 => by subst e; cases e2; exact ⟨r, rfl, h1⟩
  | r :: rs, _, i + 1, l, ⟨l', ls, e, h1, h2⟩, e2 => by
    subst e
    obtain ⟨r2, h3, h4⟩ := h2.get (i := i) (by simpa using e2)
    exact ⟨r2, by simpa using h3, h4⟩
theorem nm_free {x : Str} (h : nmX x = true) : 10 ∉ x.cps.toList ∧ 32 ∉ x.cps.toList := by
  have k := (nmX_ok.mp h).low
  exact ⟨fun z => by have := k 10 z; omega, fun z => by have := k 32 z; omega⟩
theorem sort_free : ∀ x ∈ sortsL, 10 ∉ x.cps.toList ∧ 32 ∉ x.cps.toList := by decide +kernel
theorem words_free {r : Row} {sh ba : List Str} (G : RowG r) (p1 : sh.Perm r.shuts) (p2 : ba.Perm r.bars) : ∀ x ∈ wordsR r sh ba, 10 ∉ x.cps.toList ∧ 32 ∉ x.cps.toList := by
  intro x hx
  unfold wordsR at hx
  rcases List.mem_append.mp hx with hx | hx
  · rcases List.mem_cons.mp hx with rfl | hx
    · exact nm_free G.n
    · rw [List.mem_singleton.mp hx]; exact sort_free _ G.s
  · rcases List.mem_append.mp hx with hx | hx
    · unfold hostW at hx
      split at hx
      · rename_i hf; rw [List.mem_singleton.mp hx]; exact nm_free (G.f hf)
      · cases hx
    · rcases List.mem_append.mp hx with hx | hx
      · unfold kwL at hx
        split at hx
        · cases hx
        · rcases List.mem_cons.mp hx with rfl | hx
          · decide +kernel
          · exact nm_free (G.a x (p1.mem_iff.mp hx))
      · unfold kwL at hx
        split at hx
        · cases hx
        · rcases List.mem_cons.mp hx with rfl | hx
          · decide +kernel
          · exact nm_free (G.b x (p2.mem_iff.mp hx))
theorem jn_free {c d : Nat} (n : c ≠ d) : ∀ {xs : List Str}, (∀ x ∈ xs, c ∉ x.cps.toList) → c ∉ jn d xs
  | [], _ => by rw [jn]; simp
  | [x], h => by rw [jn]; exact h x List.mem_cons_self
  | x :: y :: r, h => by
    rw [jn]
    intro z
    rcases List.mem_append.mp z with z | z
    · exact h x List.mem_cons_self z
    · rcases List.mem_cons.mp z with z | z
      · exact n z
      · exact jn_free n (fun w hw => h w (List.mem_cons_of_mem _ hw)) z
theorem line_free {r : Row} {l : Str} (G : RowG r) (h : LineOf r l) : 10 ∉ l.cps.toList := by
  obtain ⟨sh, ba, p1, p2, rfl⟩ := h
  show 10 ∉ (Str.join ⟨#[32]⟩ (wordsR r sh ba)).cps.toList
  rw [join_jn]
  exact jn_free (by decide) fun x hx => (words_free G p1 p2 x hx).1
theorem line_split {r : Row} {sh ba : List Str} (G : RowG r) (p1 : sh.Perm r.shuts) (p2 : ba.Perm r.bars) : PySem.Txt.split (lineR r sh ba) (" " : Str) = wordsR r sh ba :=
  split_join (c := 32) (by unfold wordsR; simp) fun x hx => (words_free G p1 p2 x hx).2
theorem jn_len {c : Nat} {m : Nat} : ∀ {xs : List Str}, (∀ x ∈ xs, x.length ≤ m) → (jn c xs).length ≤ xs.length * (m + 1)
  | [], _ => by rw [jn]; simp
  | [x], h => by
    have := h x List.mem_cons_self
    have e : x.cps.toList.length = x.length := Array.length_toList
    rw [jn, List.length_singleton]; omega
  | x :: y :: r, h => by
    have h1 := h x List.mem_cons_self
    have e : x.cps.toList.length = x.length := Array.length_toList
    have h2 := jn_len (c := c) (xs := y :: r) fun w hw => h w (List.mem_cons_of_mem _ hw)
    rw [jn, List.length_append, List.length_cons, List.length_cons, Nat.add_mul]
    omega
theorem join_len {c m : Nat} {xs : List Str} (h : ∀ x ∈ xs, x.length ≤ m) : (Str.join ⟨#[c]⟩ xs).length ≤ xs.length * (m + 1) := by
  have := jn_len (c := c) h
  rw [← join_jn] at this
  have e : (Str.join ⟨#[c]⟩ xs).cps.toList.length = (Str.join ⟨#[c]⟩ xs).length := Array.length_toList
  omega
theorem words_len {r : Row} {sh ba : List Str} (G : RowG r) (p1 : sh.Perm r.shuts) (p2 : ba.Perm r.bars) : (wordsR r sh ba).length ≤ 30 ∧ ∀ x ∈ wordsR r sh ba, x.length ≤ 10 := by
  have hsl2 : sh.length ≤ 12 := by rw [p1.length_eq]; exact G.la
  have hbl2 : ba.length ≤ 12 := by rw [p2.length_eq]; exact G.lb
  have hk1 := kwL_len ("shuts" : Str) sh
  have hk2 := kwL_len ("bars" : Str) ba
  have hf1 : wfN sh ≤ 13 := by unfold wfN; split <;> omega
  have hf2 : wfN ba ≤ 13 := by unfold wfN; split <;> omega
  have hhl : (hostW r).length ≤ 1 := by unfold hostW; split <;> simp
  refine ⟨?_, fun x hx => ?_⟩
  · unfold wordsR
    rw [List.length_append, List.length_append, List.length_append, hk1, hk2]
    show 2 + _ ≤ _
    omega
  · have nl : ∀ {z : Str}, nmX z = true → z.length ≤ 10 := fun h => by have := nm_len h; omega
    unfold wordsR at hx
    rcases List.mem_append.mp hx with hx | hx
    · rcases List.mem_cons.mp hx with rfl | hx
      · exact nl G.n
      · rw [List.mem_singleton.mp hx]; have := sort_len _ G.s; omega
    · rcases List.mem_append.mp hx with hx | hx
      · unfold hostW at hx
        split at hx
        · rename_i hf; rw [List.mem_singleton.mp hx]; exact nl (G.f hf)
        · cases hx
      · rcases List.mem_append.mp hx with hx | hx
        · unfold kwL at hx
          split at hx
          · cases hx
          · rcases List.mem_cons.mp hx with rfl | hx
            · decide +kernel
            · exact nl (G.a x (p1.mem_iff.mp hx))
        · unfold kwL at hx
          split at hx
          · cases hx
          · rcases List.mem_cons.mp hx with rfl | hx
            · decide +kernel
            · exact nl (G.b x (p2.mem_iff.mp hx))
theorem line_len {r : Row} {l : Str} (G : RowG r) (h : LineOf r l) : l.length ≤ 330 := by
  obtain ⟨sh, ba, p1, p2, rfl⟩ := h
  obtain ⟨h1, h2⟩ := words_len G p1 p2
  have := join_len (c := 32) h2
  have h3 : (wordsR r sh ba).length * (10 + 1) ≤ 30 * 11 := Nat.mul_le_mul_right _ h1
  show (Str.join ⟨#[32]⟩ (wordsR r sh ba)).length ≤ 330
  omega
theorem line_pos {r : Row} {l : Str} (G : RowG r) (h : LineOf r l) : 1 ≤ l.length := by
  obtain ⟨sh, ba, p1, p2, rfl⟩ := h
  have e : (lineR r sh ba).cps.toList = r.name.cps.toList ++ 32 :: jn 32 (r.sort :: (hostW r ++ (kwL ("shuts" : Str) sh ++ kwL ("bars" : Str) ba))) := by
    show (Str.join ⟨#[32]⟩ (wordsR r sh ba)).cps.toList = _
    rw [join_jn]; unfold wordsR; rfl
  have e2 : (lineR r sh ba).cps.toList.length = (lineR r sh ba).length := Array.length_toList
  rw [e, List.length_append, List.length_cons] at e2
  omega
inductive Rrw (K : PySem.W.Frag) (H0 : Hp) (z : Str) (p : Addr) (rs : List Row) (i : Nat) : St → Hp → Prop
  | mk {H' : Hp} {a2 a3 a4 : Option V} {us : List V} (s : Same H0 H') (g : H' p = some (.lst us)) (d : Dvs K H' ((rs.take i).map Row.da) us) : Rrw K H0 z p rs i [some (.str z), some (.ref p), a2, a3, a4] H'
@[reducible] def T_read_rows_0 (K : PySem.W.Frag) : TS :=
 (tSeq (tIfS (tOr (tTest (tOp rIsA (tVar 4) (tC .non))) (tTest (tOp rGeA (tVar 2) (tC (.int 12)))))
 tNever tNext)
 (tDrop (tBM K "list" rAppend (tVar 1) (tCons (tVar 4) tNil))))
@[reducible] def T_read_rows_1 (K : PySem.W.Frag) : TS :=
 (tSeq (tAsg (tCall (sp_read_row K) [] E0 (tCons (tBM K "str" rSplit (tVar 3) (tCons (tC (.str (" " : Str))) tNil)) tNil)) (gName 4))
 (T_read_rows_0 K))
@[reducible] def T_read_rows_2 (K : PySem.W.Frag) : TS :=
 (tSeq (tFor (iEnumL K (tCons (tBM K "str" rSplit (tVar 0) (tCons (tC (.str ("\n" : Str))) tNil)) tNil)) (gTup K 2 (gCons (gName 2) (gCons (gName 3) gNil)))
 (T_read_rows_1 K))
 (tRet (tVar 1)))
def sp_read_rows (K : PySem.W.Frag) : Sp := fun vs H Q _ => ∃ (z : Str) (rs : List Row) (ls : List Str), vs = [.str z] ∧ rs ≠ [] ∧ rs.length ≤ 12 ∧ (∀ r ∈ rs, RowG r) ∧ Lines rs ls ∧ z = Str.join ("\n" : Str) ls ∧ ∀ (p : Addr) (us : List V) H', Same H H' → H' p = some (.lst us) → Dvs K H' (rs.map Row.da) us → Q (.ref p) H'
theorem len_read_rows (K : PySem.W.Frag) : ∀ vs H Q E, sp_read_rows K vs H Q E → vs.length = ["text"].length := by rintro vs H Q E ⟨z, rs, ls, rfl, _⟩; rfl
def R_read_rows (K : PySem.W.Frag) : TS :=
 (tSeq (tAsg (tLst tNil) (gName 1))
 (T_read_rows_2 K))
theorem rd_read_rows (h : sp_read_rows K vs H Q E) : R_read_rows K { nx := fun _ H' => Q .non H', rt := Q } (start ["text", "rows", "number", "line", "row"] vs) H := by
  obtain ⟨z, rs, ls, rfl, hne, hz, hG, hL, ez, q⟩ := h
  show R_read_rows K _ [some (.str z), none, none, none, none] H
  unfold R_read_rows
  have hll := hL.len
  have hlx : ∀ l ∈ ls, l.length ≤ 330 ∧ 10 ∉ l.cps.toList := by
    intro l hl
    obtain ⟨i, hi⟩ := List.mem_iff_getElem?.mp hl
    obtain ⟨r, hr, h⟩ := hL.get hi
    have G := hG r (List.mem_of_getElem? hr)
    exact ⟨line_len G h, line_free G h⟩
  have hsp : PySem.Txt.split z ("\n" : Str) = ls := by
    rw [ez]
    refine split_join (c := 10) (fun e => ?_) fun x hx => (hlx x hx).2
    rw [e] at hll
    exact hne (List.eq_nil_of_length_eq_zero hll.symm)
  have hzl : z.length ≤ 12 * 331 := by
    rw [ez]
    have h1 := join_len (c := 10) (m := 330) (xs := ls) fun x hx => (hlx x hx).1
    have h2 : ls.length * (330 + 1) ≤ 12 * 331 := Nat.mul_le_mul_right _ (by omega)
    show (Str.join ⟨#[10]⟩ ls).length ≤ _
    omega
  walk_at "step"
  refine ⟨sl64 (by simp), fun p hp => ?_⟩
  have s1 := Same.new hp (.lst [])
  have e1 : (upd H p (.lst [])) p = some (.lst []) := upd_same
  generalize upd H p (.lst []) = H1 at *
  walk_at "step"
  refine st_enumL ?_
  walk_at "step"
  refine ⟨rfl, ?_⟩
  walk_at "step"
  refine ⟨z, _, rfl, rfl, by decide +kernel, by omega, fun p2 hp2 => ?_⟩
  rw [hsp]
  have s2 := Same.new hp2 (.lst (strV ls))
  have e2 : (upd H1 p2 (.lst (strV ls))) p2 = some (.lst (strV ls)) := upd_same
  have np2 : p2 ≠ p := fun z => by rw [z, e1] at hp2; cases hp2
  have e12 := s2 _ _ e1
  have s02 := Same.tr s1 s2
  generalize upd H1 p2 (.lst (strV ls)) = H2 at *
  walk_at "step"
  refine enumL_for (SqL.of e2) (fun i σ H' => H' p2 = some (.lst (strV ls)) ∧ Rrw K H z p rs i σ H') ⟨e2, .mk s02 e12 dvs_nil⟩ (fun i σ H' p => SqL.of p.1) ?_ ?_
  · rintro i x σ H' t hx ⟨h2, s, g, d⟩ ht
    rename_i a2 a3 a4 us
    obtain ⟨l, hl, rfl⟩ := strV_get hx
    obtain ⟨r, hr, sh, ba, p1, p2', rfl⟩ := hL.get hl
    have G := hG r (List.mem_of_getElem? hr)
    have hi : i < rs.length := (List.getElem?_eq_some_iff.mp hr).1
    have et : rs.take (i + 1) = rs.take i ++ [r] := by rw [List.take_add_one, hr]; rfl
    have lus : us.length = i := by have := d.length; rw [List.length_map, List.length_take] at this; omega
    have s3 := Same.new ht (.tup [.int i, .str (lineR r sh ba)])
    refine ⟨t, _, rfl, SqT.of upd_same, rfl, _, _, rfl, st_name ⟨_, _, rfl, st_name ⟨rfl, ?_⟩⟩⟩
    generalize upd H' t (.tup [.int i, .str (lineR r sh ba)]) = H3 at *
    have hll := (hlx _ (List.mem_of_getElem? hl)).1
    walk_at "step"
    refine ⟨rfl, ?_⟩
    walk_at "step"
    refine ⟨_, _, rfl, rfl, by decide +kernel, by omega, fun p4 hp4 => ?_⟩
    rw [line_split G p1 p2']
    have s4 := Same.new hp4 (.lst (strV (wordsR r sh ba)))
    have e4 : (upd H3 p4 (.lst (strV (wordsR r sh ba)))) p4 = some (.lst (strV (wordsR r sh ba))) := upd_same
    generalize upd H3 p4 (.lst (strV (wordsR r sh ba))) = H4 at *
    walk_at "step"
    refine ⟨p4, r, sh, ba, rfl, G, p1, p2', e4, fun t5 H5 s5 hd5 => ?_⟩
    have s35 := Same.tr s3 (Same.tr s4 s5)
    walk_at "step"
    rw [decide_eq_false (show ¬ V.ref t5 = .non from fun z => by cases z)]
    refine iteF ?_
    walk_at "step"
    rw [decide_eq_false (show ¬ (12 : Int) ≤ (i : Int) by omega)]
    refine iteF ?_
    walk_at "step"
    refine ⟨.inl ⟨rfl, _, SqL.of (s35 _ _ g)⟩, ?_⟩
    walk_at "step"
    refine v_append (s35 _ _ g) (by rw [lus, sizeLine_eq]; omega) ?_
    have tk := tupK_lst (ys := us ++ [.ref t5]) (s35 _ _ g)
    refine ⟨by rw [upd_ne np2]; exact s35 _ _ h2, .mk (Same.put (Same.tr s s35) hp _) upd_same ?_⟩
    rw [et, List.map_append]
    exact dvs_app (Dvs.tupK tk _ _ (fix_rows _) (Dvs.same s35 _ _ d)) (dvs_cons (Dv.tupK tk _ _ (fix_row _) hd5) dvs_nil)
  · rintro σ H' ⟨h2, s, g, d⟩
    rw [strV_len, hll, List.take_length] at d
    walk_at "step"
    exact q p _ H' s g d
end My
namespace My
open PySem L2
variable {K : PySem.W.Frag} {vs : List V} {H : Hp} {Q : VK} {E : XK}
def sp_i_NoBook (K : PySem.W.Frag) : Sp := fun vs H Q _ => ∃ (e C : Addr) (i : Int), vs = [.ref e, .int i] ∧ H e = some (ErX e C none) ∧ SeI K C "row" ∧ i.natAbs ≤ 1000 ∧ ∀ dx, H dx = none → dx ≠ e → Q .non (upd (upd H e (ErX e C (some dx))) dx (.xd [("row", .int i)]))
theorem len_i_NoBook (K : PySem.W.Frag) : ∀ vs H Q E, sp_i_NoBook K vs H Q E → vs.length = ["self", "row"].length := by rintro vs H Q E ⟨e, C, i, rfl, _⟩; rfl
def R_i_NoBook (K : PySem.W.Frag) : TS :=
 (tSeq (tDrop (tBIn K (tCons (tVar 0) (tCons (tFsI ("row " : Str) (" does not fit into a book with the other rows" : Str) (tVar 1)) tNil))))
 (sXet K (tVar 0) (tVar 1) "row"))
theorem rd_i_NoBook (h : sp_i_NoBook K vs H Q E) : R_i_NoBook K { nx := fun _ H' => Q .non H', rt := Q } (start ["self", "row"] vs) H := by
  obtain ⟨e, C, i, rfl, he, S, hi, q⟩ := h
  show R_i_NoBook K _ [some (.ref e), some (.int i)] H
  unfold R_i_NoBook
  walk_at "step"
  refine st_bin ?_
  walk_at "step"
  refine st_fsI ?_
  walk_at "step"
  refine ⟨hi, ?_⟩
  walk_at "step"
  refine ⟨e, C, none, _, rfl, he, S.qi, ?_⟩
  show sXet K (tVar 0) (tVar 1) "row" { nx := fun _ H' => Q .non H', rt := Q } _ _
  refine st_xet ?_
  walk_at "step"
  exact ⟨e, C, rfl, he, S, q⟩
@[reducible] def T_read_book_0 (K : PySem.W.Frag) : TS :=
 (tSeq (tIfS (tTest (tOp rIsNotA (tVar 2) (tC .non)))
 tNever tNext)
 (tRet (tCB (rTupleA K) (tCons (tVar 1) tNil))))
def rbT (K : PySem.W.Frag) : TS :=
 (tSeq (tAsg (tCall (sp_first_misfit K) [] E0 (tCons (tVar 1) tNil)) (gName 2))
 (T_read_book_0 K))
theorem rb_T {D : Ends} {z : Str} {p : Addr} {us : List V} {rs : List Row} (hp : H p = some (.lst us)) (hd : Dvs K H (rs.map Row.da) us) (hz : rs.length ≤ 12) (hS : ∀ r ∈ rs, Sml r) (hM : MisN rs)
    (q : ∀ (t : Addr) H', Same H H' → H' t = some (.tup us) → Dvs K H' (rs.map Row.da) us → D.rt (.ref t) H') : rbT K D [some (.str z), some (.ref p), none] H := by
  unfold rbT
  walk_at "step"
  refine ⟨p, us, rs, rfl, SqL.of hp, hd, by omega, hS, fun H1 s1 _ => ?_, fun i H1 s1 m => absurd hM m.not⟩
  walk_at "step"
  refine iteF ?_
  walk_at "step"
  refine ⟨p, _, rfl, .inl ⟨SqL.of (s1 _ _ hp), fun t ht => ?_⟩⟩
  have s2 := Same.new ht (.tup us)
  exact q t _ (Same.tr s1 s2) upd_same (Dvs.same (Same.tr s1 s2) _ _ hd)
@[reducible] def T_read_book_1 (K : PySem.W.Frag) : TS :=
 (tSeq (tAsg (tIf (tTest (tOp (rEqA K) (tVar 0) (tC (.str ("" : Str))))) (tLst tNil) (tCall (sp_read_rows K) [] E0 (tCons (tVar 0) tNil))) (gName 1))
 (rbT K))
def sp_read_book (K : PySem.W.Frag) : Sp := fun vs H Q _ => ∃ (z : Str) (rs : List Row) (ls : List Str), vs = [.str z] ∧ rs.length ≤ 12 ∧ (∀ r ∈ rs, RowG r) ∧ (∀ r ∈ rs, Sml r) ∧ MisN rs ∧ Lines rs ls ∧ z = Str.join ("\n" : Str) ls ∧ ∀ (t : Addr) (us : List V) H', Same H H' → H' t = some (.tup us) → Dvs K H' (rs.map Row.da) us → Q (.ref t) H'
theorem len_read_book (K : PySem.W.Frag) : ∀ vs H Q E, sp_read_book K vs H Q E → vs.length = ["text"].length := by rintro vs H Q E ⟨z, rs, ls, rfl, _⟩; rfl
def R_read_book (K : PySem.W.Frag) : TS :=
 (tSeq (tIfS (tNot (tB (tCB (rIsi K) (tCons (tVar 0) (tCons (tC (.ty "str")) tNil)))))
 tNever tNext)
 (T_read_book_1 K))
theorem rd_read_book (h : sp_read_book K vs H Q E) : R_read_book K { nx := fun _ H' => Q .non H', rt := Q } (start ["text", "rows", "misfit"] vs) H := by
  obtain ⟨z, rs, ls, rfl, hz, hG, hS, hM, hL, ez, q⟩ := h
  show R_read_book K _ [some (.str z), none, none] H
  unfold R_read_book
  walk_at "step"
  refine v_isi (.str _) (b := true) rfl ?_
  walk_at "step"
  refine iteF ?_
  walk_at "step"
  by_cases hne : rs = []
  · subst hne
    have el : ls = [] := hL
    subst el
    have ez0 : z = ("" : Str) := ez
    subst ez0
    rw [decide_eq_true rfl]
    refine iteT ?_
    walk_at "step"
    refine ⟨sl64 (by simp), fun p hp => ?_⟩
    have s1 := Same.new hp (.lst [])
    have e1 : (upd H p (.lst [])) p = some (.lst []) := upd_same
    generalize upd H p (.lst []) = H1 at *
    walk_at "step"
    exact rb_T (rs := []) e1 dvs_nil (by decide) hS hM fun t H' s' h1 h2 => q t _ H' (Same.tr s1 s') h1 h2
  · have hzn : ¬ z = ("" : Str) := fun e => by
      have hll := hL.len
      cases ls with
      | nil => exact hne (List.eq_nil_of_length_eq_zero hll.symm)
      | cons l ls =>
        obtain ⟨r, hr, h⟩ := hL.get (i := 0) (l := l) rfl
        have hp := line_pos (hG r (List.mem_of_getElem? hr)) h
        have e2 : (Str.join ⟨#[10]⟩ (l :: ls)).cps.toList = jn 10 (l :: ls) := join_jn 10 _
        have e3 : z.cps.toList = jn 10 (l :: ls) := by rw [ez]; exact e2
        rw [e] at e3
        have e4 : l.cps.toList.length = l.length := Array.length_toList
        have e5 : ([] : List Nat) = jn 10 (l :: ls) := e3
        cases ls with
        | nil => rw [jn] at e5; rw [← e5] at e4; simp at e4; omega
        | cons m ms => rw [jn] at e5; have := congrArg List.length e5; simp at this
    rw [decide_eq_false hzn]
    refine iteF ?_
    walk_at "step"
    refine ⟨z, rs, ls, rfl, hne, hz, hG, hL, ez, fun p us H1 s1 h1 h2 => ?_⟩
    walk_at "step"
    exact rb_T h1 h2 hz hS hM fun t H' s' h1 h2 => q t _ H' (Same.tr s1 s') h1 h2
@[reducible] def Tx_read_book_0 (K : PySem.W.Frag) (k_NoBook : Addr) (E : XK) : TS :=
 (tSeq (tIfS (tTest (tOp rIsNotA (tVar 2) (tC .non)))
 (tRaiseI k_NoBook E (sp_i_NoBook K) (tCons (tVar 2) tNil)) tNext)
 (tRet (tCB (rTupleA K) (tCons (tVar 1) tNil))))
@[reducible] def Tx_read_book_1 (K : PySem.W.Frag) (k_NoBook : Addr) (E : XK) : TS :=
 (tSeq (tAsg (tCall (sp_first_misfit K) [] E0 (tCons (tVar 1) tNil)) (gName 2))
 (Tx_read_book_0 K k_NoBook E))
@[reducible] def Tx_read_book_2 (K : PySem.W.Frag) (k_NoBook : Addr) (E : XK) : TS :=
 (tSeq (tAsg (tIf (tTest (tOp (rEqA K) (tVar 0) (tC (.str ("" : Str))))) (tLst tNil) (tCall (sp_read_rows K) [] E0 (tCons (tVar 0) tNil))) (gName 1))
 (Tx_read_book_1 K k_NoBook E))
def spx_read_book (K : PySem.W.Frag) (kX : Addr) : Sp := fun vs H Q E => ∃ (z : Str) (rs : List Row) (ls : List Str), vs = [.str z] ∧ rs.length ≤ 12 ∧ (∀ r ∈ rs, RowG r) ∧ (∀ r ∈ rs, Sml r) ∧ Lines rs ls ∧ z = Str.join ("\n" : Str) ls ∧ (∀ (t : Addr) (us : List V) H', MisN rs → Same H H' → H' t = some (.tup us) → Dvs K H' (rs.map Row.da) us → Q (.ref t) H') ∧ ∀ (m : Nat) (dx : Addr) H', FstM rs m → Same H H' → H' dx = some (.xd [("row", .int m)]) → E (.ref kX) (some dx) H'
theorem lenx_read_book (K : PySem.W.Frag) (kX : Addr) : ∀ vs H Q E, spx_read_book K kX vs H Q E → vs.length = ["text"].length := by rintro vs H Q E ⟨z, rs, ls, rfl, _⟩; rfl
def Rx_read_book (K : PySem.W.Frag) (k_NoBook : Addr) (E : XK) : TS :=
 (tSeq (tIfS (tNot (tB (tCB (rIsi K) (tCons (tVar 0) (tCons (tC (.ty "str")) tNil)))))
 tNever tNext)
 (Tx_read_book_2 K k_NoBook E))
theorem read_ne {z : Str} {rs : List Row} {ls : List Str} (hG : ∀ r ∈ rs, RowG r) (hL : Lines rs ls) (ez : z = Str.join ("\n" : Str) ls) (hne : ¬ rs = []) : ¬ z = ("" : Str) := fun e => by
      have hll := hL.len
      cases ls with
      | nil => exact hne (List.eq_nil_of_length_eq_zero hll.symm)
      | cons l ls =>
        obtain ⟨r, hr, h⟩ := hL.get (i := 0) (l := l) rfl
        have hp := line_pos (hG r (List.mem_of_getElem? hr)) h
        have e2 : (Str.join ⟨#[10]⟩ (l :: ls)).cps.toList = jn 10 (l :: ls) := join_jn 10 _
        have e3 : z.cps.toList = jn 10 (l :: ls) := by rw [ez]; exact e2
        rw [e] at e3
        have e4 : l.cps.toList.length = l.length := Array.length_toList
        have e5 : ([] : List Nat) = jn 10 (l :: ls) := e3
        cases ls with
        | nil => rw [jn] at e5; rw [← e5] at e4; simp at e4; omega
        | cons m ms => rw [jn] at e5; have := congrArg List.length e5; simp at this
theorem rx_T {kX : Addr} {D : Ends} {z : Str} {p : Addr} {us : List V} {rs : List Row} (se : SeI K kX "row") (hp : H p = some (.lst us)) (hd : Dvs K H (rs.map Row.da) us) (hz : rs.length ≤ 12) (hS : ∀ r ∈ rs, Sml r)
    (q1 : ∀ (t : Addr) H', MisN rs → Same H H' → H' t = some (.tup us) → Dvs K H' (rs.map Row.da) us → D.rt (.ref t) H')
    (q2 : ∀ (m : Nat) (dx : Addr) H', FstM rs m → Same H H' → H' dx = some (.xd [("row", .int m)]) → E (.ref kX) (some dx) H') : Tx_read_book_1 K kX E D [some (.str z), some (.ref p), none] H := by
  unfold Tx_read_book_1
  walk_at "step"
  refine ⟨p, us, rs, rfl, SqL.of hp, hd, by omega, hS, fun H1 s1 m => ?_, fun i H1 s1 m => ?_⟩
  · unfold Tx_read_book_0
    walk_at "step"
    refine iteF ?_
    walk_at "step"
    refine ⟨p, _, rfl, .inl ⟨SqL.of (s1 _ _ hp), fun t ht => ?_⟩⟩
    have s2 := Same.new ht (.tup us)
    exact q1 t _ m (Same.tr s1 s2) upd_same (Dvs.same (Same.tr s1 s2) _ _ hd)
  · unfold Tx_read_book_0
    walk_at "step"
    refine iteT ?_
    refine st_raiseI ?_
    walk_at "step"
    have hm := m.lt
    refine ⟨sl64 (by simp), fun e he => ⟨e, kX, i, rfl, upd_same, se, by omega, fun dx hdx ne => ⟨rfl, some dx, ?_, q2 i dx _ m ?_ ?_⟩⟩⟩
    · rw [upd_ne (Ne.symm ne), upd_same]
    · intro c u g
      have g1 := s1 c u g
      rw [upd_ne ne] at hdx
      have n1 := ne_free g1 he
      have n2 := ne_free g1 hdx
      rw [rmv_ne n1, upd_ne n2, upd_ne n1, upd_ne n1]; exact g1
    · rw [rmv_ne ne, upd_same]
theorem rdx_read_book {kX : Addr} (se : SeI K kX "row") (h : spx_read_book K kX vs H Q E) : Rx_read_book K kX E { nx := fun _ H' => Q .non H', rt := Q } (start ["text", "rows", "misfit"] vs) H := by
  obtain ⟨z, rs, ls, rfl, hz, hG, hS, hL, ez, q1, q2⟩ := h
  show Rx_read_book K _ _ _ [some (.str z), none, none] H
  unfold Rx_read_book
  walk_at "step"
  refine v_isi (.str _) (b := true) rfl ?_
  walk_at "step"
  refine iteF ?_
  walk_at "step"
  by_cases hne : rs = []
  · subst hne
    have el : ls = [] := hL
    subst el
    have ez0 : z = ("" : Str) := ez
    subst ez0
    rw [decide_eq_true rfl]
    refine iteT ?_
    walk_at "step"
    refine ⟨sl64 (by simp), fun p hp => ?_⟩
    have s1 := Same.new hp (.lst [])
    have e1 : (upd H p (.lst [])) p = some (.lst []) := upd_same
    generalize upd H p (.lst []) = H1 at *
    refine st_name ?_
    exact rx_T (rs := []) se e1 dvs_nil (by decide) hS (fun t H' m s' h1 h2 => q1 t _ H' m (Same.tr s1 s') h1 h2) fun m dx H' hm s' h1 => q2 m dx H' hm (Same.tr s1 s') h1
  · have hzn : ¬ z = ("" : Str) := read_ne hG hL ez hne
    rw [decide_eq_false hzn]
    refine iteF ?_
    walk_at "step"
    refine ⟨z, rs, ls, rfl, hne, hz, hG, hL, ez, fun p us H1 s1 h1 h2 => ?_⟩
    refine st_name ?_
    exact rx_T se h1 h2 hz hS (fun t H' m s' h1 h2 => q1 t _ H' m (Same.tr s1 s') h1 h2) fun m dx H' hm s' h1 => q2 m dx H' hm (Same.tr s1 s') h1
end My
namespace My
open PySem L2
variable {K : PySem.W.Frag} {vs : List V} {H : Hp} {Q : VK} {E : XK}
@[reducible] def T__law_row_told_0 (K : PySem.W.Frag) : TS :=
 (tSeq (tIfS (tOr (tTest (tOp rIsA (tVar 1) (tC .non))) (tB (tCB (rIsi K) (tCons (tXat K (tVar 1) "row") (tCons (tC (.ty "bool")) tNil)))))
 (tRet (tUn (rU fun i => .int (-i)) (tC (.int 1)))) tNext)
 (tRet (tXat K (tVar 1) "row")))
@[reducible] def T__law_row_told_1 (K : PySem.W.Frag) (k_NoBook : Addr) : TS :=
 (tSeq (tTryD k_NoBook 2 (fun E => tCall (spx_read_book K k_NoBook) [] E (tCons (tVar 0) tNil)) (tAsg (tVar 2) (gName 1)))
 (T__law_row_told_0 K))
def sp__law_row_told (K : PySem.W.Frag) : Sp := fun vs H Q _ => ∃ (z : Str) (rs : List Row) (ls : List Str) (m : Nat), vs = [.str z] ∧ rs.length ≤ 12 ∧ (∀ r ∈ rs, RowG r) ∧ (∀ r ∈ rs, Sml r) ∧ Lines rs ls ∧ z = Str.join ("\n" : Str) ls ∧ FstM rs m ∧ ∀ H', Same H H' → Q (.int m) H'
theorem len__law_row_told (K : PySem.W.Frag) : ∀ vs H Q E, sp__law_row_told K vs H Q E → vs.length = ["_law_text"].length := by rintro vs H Q E ⟨z, rs, ls, m, rfl, _⟩; rfl
def R__law_row_told (K : PySem.W.Frag) (k_NoBook : Addr) : TS :=
 (tSeq (tAsg (tC .non) (gName 1))
 (T__law_row_told_1 K k_NoBook))
theorem rd__law_row_told {k_NoBook : Addr} (ei : ExI K k_NoBook "row") (h : sp__law_row_told K vs H Q E) : R__law_row_told K k_NoBook { nx := fun _ H' => Q .non H', rt := Q } (start ["_law_text", "_law_error", "e"] vs) H := by
  obtain ⟨z, rs, ls, m, rfl, hz, hG, hS, hL, ez, hm, q⟩ := h
  show R__law_row_told K _ _ [some (.str z), none, none] H
  unfold R__law_row_told
  walk_at "step"
  show tTryD k_NoBook 2 _ _ _ _ _
  unfold tTryD
  walk_at "step"
  refine ⟨z, rs, ls, rfl, hz, hG, hS, hL, ez, fun _ _ _ hM _ _ _ => absurd hM hm.not, fun m' dx H1 hm' s1 h1 => ⟨rfl, fun a ha => ?_⟩⟩
  obtain rfl := hm'.uniq hm
  have s2 := Same.tr s1 (Same.new ha (ErrD a k_NoBook (some dx)))
  have e1 : (upd H1 a (ErrD a k_NoBook (some dx))) a = some (ErrD a k_NoBook (some dx)) := upd_same
  have e2 : (upd H1 a (ErrD a k_NoBook (some dx))) dx = some (.xd [("row", .int m')]) := by rw [upd_ne (fun z => by rw [z, ha] at h1; cases h1)]; exact h1
  generalize upd H1 a (ErrD a k_NoBook (some dx)) = H2 at *
  walk_at "step"
  have en : ¬ (V.ref a = V.non) := fun z => by cases z
  rw [decide_eq_false en]
  refine iteF ?_
  walk_at "step"
  refine st_xat ?_
  walk_at "step"
  refine ⟨a, k_NoBook, dx, _, _, rfl, e1, e2, ei, rfl, ?_⟩
  walk_at "step"
  refine v_isi (.int _) (b := false) rfl ?_
  walk_at "step"
  refine st_xat ?_
  walk_at "step"
  exact ⟨a, k_NoBook, dx, _, _, rfl, e1, e2, ei, rfl, q _ s2⟩
inductive Tur (K : PySem.W.Frag) (H0 : Hp) (a p c : Addr) (n : Int) (xs : List Str) (i : Nat) : St → Hp → Prop
  | mk {H' : Hp} {o : Option V} {ys : List Str} (k : Same H0 H') (x : ∃ x : Int, H' p = some (.lst [.int x])) (g : H' c = some (.lst (strV ys))) (m : ys.Perm (xs.take i)) : Tur K H0 a p c n xs i [some (.ref a), some (.int n), some (.ref p), some (.ref c), o] H'
@[reducible] def T__law_turned_0 (K : PySem.W.Frag) : TS :=
 (tDrop (tBM K "list" rInsert (tVar 3) (tCons (tCall (sp__law_take K) [] E0 (tCons (tVar 2) (tCons (tOp (rAddA K) (tCB (rLenA K) (tCons (tVar 3) tNil)) (tC (.int 1))) tNil))) (tCons (tVar 4) tNil))))
@[reducible] def T__law_turned_1 (K : PySem.W.Frag) : TS :=
 (tSeq (tAsg (tLst tNil) (gName 3))
 (tSeq (tFor (iAny K (tVar 0)) (gName 4)
 (T__law_turned_0 K))
 (tRet (tVar 3))))
def sp__law_turned (K : PySem.W.Frag) : Sp := fun vs H Q _ => ∃ (a : Addr) (xs : List Str) (n : Int), vs = [.ref a, .int n] ∧ SqL K H a (strV xs) ∧ xs.length ≤ 100 ∧ ∀ (t : Addr) (ys : List Str) H', ys.Perm xs → Same H H' → H' t = some (.lst (strV ys)) → Q (.ref t) H'
theorem len__law_turned (K : PySem.W.Frag) : ∀ vs H Q E, sp__law_turned K vs H Q E → vs.length = ["_law_lines", "_law_cell"].length := by rintro vs H Q E ⟨a, xs, n, rfl, _⟩; rfl
def R__law_turned (K : PySem.W.Frag) : TS :=
 (tSeq (tAsg (tCall (sp__law_pot K) [] E0 (tCons (tVar 1) tNil)) (gName 2))
 (T__law_turned_1 K))
theorem rd__law_turned (h : sp__law_turned K vs H Q E) : R__law_turned K { nx := fun _ H' => Q .non H', rt := Q } (start ["_law_lines", "_law_cell", "_law_pot_here", "_law_about", "_law_line"] vs) H := by
  obtain ⟨a, xs, n, rfl, ha, hz, q⟩ := h
  show R__law_turned K _ [some (.ref a), some (.int n), none, none, none] H
  unfold R__law_turned
  walk_at "step"
  refine ⟨n, rfl, fun p y hp => ?_⟩
  have s0 := Same.new hp (.lst [.int y])
  have e0 : (upd H p (.lst [.int y])) p = some (.lst [.int y]) := upd_same
  generalize upd H p (.lst [.int y]) = H0 at *
  walk_at "step"
  refine ⟨sl64 (by simp), fun c hc => ?_⟩
  have s1 := Same.new hc (.lst [])
  have e1 : (upd H0 c (.lst [])) c = some (.lst []) := upd_same
  have ncp : c ≠ p := fun z => by rw [z, e0] at hc; cases hc
  have cH : H c = none := by
    cases e : H c with
    | none => rfl
    | some u => rw [s0 _ _ e] at hc; cases hc
  have s01 := Same.tr s0 s1
  have e0' := s1 _ _ e0
  generalize upd H0 c (.lst []) = H1 at *
  walk_at "step"
  refine any_forS (.inl ha) s01 (Tur K H a p c n xs) (.mk (ys := []) s01 ⟨y, e0'⟩ e1 (List.Perm.refl _)) (fun i σ H' p => by cases p with | mk k => exact k) ?_ ?_
  · rintro i x σ H' hx ⟨k, ⟨y1, hy1⟩, g, m⟩
    rename_i o1 ys
    obtain ⟨x, hx', rfl⟩ := strV_get hx
    have et : xs.take (i + 1) = xs.take i ++ [x] := by rw [List.take_add_one, hx']; rfl
    have lys : ys.length ≤ 100 := by rw [m.length_eq, List.length_take]; omega
    walk_at "step"
    refine ⟨.inl ⟨rfl, _, SqL.of g⟩, ?_⟩
    walk_at "step"
    refine v_lenQ (.inl (SqL.of g)) ?_
    rw [strV_len]
    walk_at "step"
    refine ⟨p, _, y1, rfl, hy1, by omega, by omega, fun n y2 hn0 hn1 => ?_⟩
    have g2 : (upd H' p (.lst [.int y2])) c = some (.lst (strV ys)) := by rw [upd_ne ncp]; exact g
    have k2 : Same H (upd H' p (.lst [.int y2])) := Same.put k hp _
    have y2' : (upd H' p (.lst [.int y2])) p = some (.lst [.int y2]) := upd_same
    generalize upd H' p (.lst [.int y2]) = H2 at *
    walk_at "step"
    refine ⟨c, strV ys, n, .str x, rfl, rfl, g2, hn0, by rw [strV_len]; omega, by rw [strV_len, sizeLine_eq]; omega, ?_⟩
    have ei : insAt (strV ys) n.toNat (V.str x) = strV (insAt ys n.toNat x) := by unfold strV; exact ins_map V.str ys n.toNat x
    rw [ei]
    walk_at "step"
    refine .mk (Same.put k2 cH _) ⟨y2, by rw [upd_ne (Ne.symm ncp)]; exact y2'⟩ upd_same ?_
    rw [et]
    refine (ins_perm _ _ _).trans ?_
    exact (List.Perm.cons x m).trans (List.perm_append_singleton x _).symm
  · rintro σ H' ⟨k, hx, g, m⟩
    rename_i o1 ys
    rw [strV_len, List.take_length] at m
    walk_at "step"
    exact q c ys _ m k g
end My
namespace My
open PySem L2
variable {K : PySem.W.Frag} {vs : List V} {H : Hp} {Q : VK} {E : XK}
def rwK (N : Nat → Str) (h : Nat → Option Nat) (k : Nat) : Row := match h k with
  | some j => ⟨N k, ("frame" : Str), N j, [], []⟩
  | none => ⟨N k, ("plain" : Str), ("" : Str), [], []⟩
theorem rwK_name {N : Nat → Str} {h : Nat → Option Nat} {k : Nat} : (rwK N h k).name = N k := by unfold rwK; split <;> rfl
theorem rwK_shuts {N : Nat → Str} {h : Nat → Option Nat} {k : Nat} : (rwK N h k).shuts = [] := by unfold rwK; split <;> rfl
theorem rwK_bars {N : Nat → Str} {h : Nat → Option Nat} {k : Nat} : (rwK N h k).bars = [] := by unfold rwK; split <;> rfl
def upK (h : Nat → Option Nat) : Nat → Option Nat → Option Nat
  | 0, x => x
  | i + 1, x => upK h i (x.bind h)
structure Wd (N : Nat → Str) (h : Nat → Option Nat) (s : List Nat) : Prop where
  nd : s.Nodup
  inj : ∀ a ∈ s, ∀ b ∈ s, N a = N b → a = b
  hv : ∀ k ∈ s, ∀ j, h k = some j → j ∈ s
section
variable {N : Nat → Str} {h : Nat → Option Nat} {s : List Nat}
theorem Wd.names (_ : Wd N h s) : (s.map (rwK N h)).map Row.name = s.map N := by
  rw [List.map_map]
  exact List.map_congr_left fun k _ => rwK_name
theorem Wd.nodup (W : Wd N h s) : ((s.map (rwK N h)).map Row.name).Nodup := by
  rw [W.names]; exact inj_map W.nd W.inj
theorem Wd.row (W : Wd N h s) {k : Nat} (hk : k ∈ s) : rowOf (s.map (rwK N h)) (some (N k)) = some (rwK N h k) := by
  have := rowOf_mem W.nodup (List.mem_map.mpr ⟨k, hk, rfl⟩)
  rw [rwK_name] at this
  exact this
theorem Wd.host (W : Wd N h s) {k : Nat} (hk : k ∈ s) : hostOf (s.map (rwK N h)) (some (N k)) = (h k).map N := by
  unfold hostOf
  rw [W.row hk]
  unfold rwK
  cases h k with
  | none => show (if ("plain" : Str) = ("frame" : Str) then some ("" : Str) else none) = none; rw [if_neg (by decide)]
  | some j => rfl
theorem Wd.sort (W : Wd N h s) {k : Nat} (hk : k ∈ s) : inO (sortOf (s.map (rwK N h)) (some (N k))) hostL = true := by
  unfold sortOf
  rw [W.row hk]
  unfold rwK
  cases h k with
  | none => show inO (some ("plain" : Str)) hostL = true; decide +kernel
  | some j => show inO (some ("frame" : Str)) hostL = true; decide +kernel
theorem frame_find : ∀ {l : List Nat} {j : Nat}, (∀ k ∈ l, ∀ i, h k = some i → N i = N j → i = j) →
    ((l.map (rwK N h)).find? fun r => decide (r.sort = ("frame" : Str)) && decide (some r.host = some (N j))) = (l.find? fun k => decide (h k = some j)).map (rwK N h)
  | [], j, _ => rfl
  | k :: l, j, hi => by
    have ih := frame_find (l := l) (j := j) fun k hk => hi k (List.mem_cons_of_mem _ hk)
    have e : (decide ((rwK N h k).sort = ("frame" : Str)) && decide (some (rwK N h k).host = some (N j))) = decide (h k = some j) := by
      cases e : h k with
      | none =>
        have e0 : rwK N h k = ⟨N k, ("plain" : Str), ("" : Str), [], []⟩ := by unfold rwK; rw [e]
        rw [e0, decide_eq_false (show ¬ (none : Option Nat) = some j from fun z => by cases z)]
        rfl
      | some i =>
        have e0 : rwK N h k = ⟨N k, ("frame" : Str), N i, [], []⟩ := by unfold rwK; rw [e]
        rw [e0]
        show (decide (("frame" : Str) = ("frame" : Str)) && decide (some (N i) = some (N j))) = _
        rw [decide_eq_true rfl, Bool.true_and]
        by_cases z : i = j
        · subst z; rw [decide_eq_true rfl, decide_eq_true rfl]
        · rw [decide_eq_false (fun q => z (hi k List.mem_cons_self i e (Option.some.inj q))), decide_eq_false (fun q => z (Option.some.inj q))]
    rw [List.map_cons, List.find?_cons, List.find?_cons, e, ih]
    cases decide (h k = some j) <;> rfl
theorem Wd.frame (W : Wd N h s) {j : Nat} (hj : j ∈ s) : frameOf (s.map (rwK N h)) (some (N j)) = (s.find? fun k => decide (h k = some j)).map N := by
  unfold frameOf
  rw [frame_find fun k hk i e => W.inj i (W.hv k hk i e) j hj, Option.map_map]
  congr 1
  funext k
  exact rwK_name
theorem upK_mem (W : Wd N h s) : ∀ {i : Nat} {x : Option Nat} {k : Nat}, (∀ j, x = some j → j ∈ s) → upK h i x = some k → k ∈ s
  | 0, x, k, hx, e => hx k e
  | i + 1, x, k, hx, e => by
    refine upK_mem W (i := i) (x := x.bind h) (fun j hj => ?_) e
    cases x with
    | none => cases hj
    | some a => exact W.hv a (hx a rfl) j hj
theorem Wd.it (W : Wd N h s) : ∀ {i : Nat} {x : Option Nat}, (∀ j, x = some j → j ∈ s) → itO (s.map (rwK N h)) i (x.map N) = (upK h i x).map N
  | 0, x, _ => by unfold itO upK; rfl
  | i + 1, x, hx => by
    cases x with
    | none =>
      rw [Option.map_none, itO_none]
      have : ∀ n, upK h n none = none := fun n => by induction n with
        | zero => rfl
        | succ n ih => exact ih
      rw [this]; rfl
    | some a =>
      have e := W.host (hx a rfl)
      have ih := Wd.it W (i := i) (x := h a) fun j hj => W.hv a (hx a rfl) j hj
      unfold upK
      show _ = (upK h i ((some a).bind h)).map N
      rw [show (some a).bind h = h a from rfl, ← ih, ← e]
      show itO _ (i + 1) (some (N a)) = _
      rw [itO]
def badK (h : Nat → Option Nat) (s : List Nat) (k : Nat) : Prop := ∃ j, h k = some j ∧ ((∃ i, i < s.length ∧ upK h i (h k) = some k) ∨ s.find? (fun a => decide (h a = some j)) ≠ some k)
theorem Wd.mapN (W : Wd N h s) {o : Option Nat} {k : Nat} (ho : ∀ j, o = some j → j ∈ s) (hk : k ∈ s) : o.map N = some (N k) ↔ o = some k := by
  cases o with
  | none => exact ⟨fun z => (by cases z), fun z => (by cases z)⟩
  | some a => exact ⟨fun z => (by rw [W.inj a (ho a rfl) k hk (Option.some.inj z)]), fun z => (by cases z; rfl)⟩
theorem Wd.fit (W : Wd N h s) {k : Nat} (hk : k ∈ s) : fitB (s.map (rwK N h)) (rwK N h k) = true ↔ ¬ badK h s k := by
  have hs : shutB (s.map (rwK N h)) (rwK N h k) = true := by rw [shut_iff, rwK_shuts]; exact ⟨fun z => z.1 rfl, fun x hx => (by cases hx), rfl⟩
  have hb : mayB (s.map (rwK N h)) (rwK N h k).bars = true := by rw [rwK_bars]; rfl
  rw [fit_iff, host_iff]
  cases e : h k with
  | none =>
    have e0 : rwK N h k = ⟨N k, ("plain" : Str), ("" : Str), [], []⟩ := by unfold rwK; rw [e]
    constructor
    · rintro _ ⟨j, z, _⟩; rw [e] at z; cases z
    · intro _
      refine ⟨fun z => ?_, hs, hb⟩
      rw [e0] at z
      exact absurd (show ("plain" : Str) = ("frame" : Str) from z) (by decide)
  | some j =>
    have hj := W.hv k hk j e
    have e0 : rwK N h k = ⟨N k, ("frame" : Str), N j, [], []⟩ := by unfold rwK; rw [e]
    have hmem : ∀ x, h k = some x → x ∈ s := W.hv k hk
    have hback : backB (s.map (rwK N h)) (N k) (s.map (rwK N h)).length (hostOf (s.map (rwK N h)) (some (N k))) = true ↔ ∃ i, i < s.length ∧ upK h i (h k) = some k := by
      rw [back_iff, W.host hk, List.length_map]
      constructor
      · rintro ⟨i, hi, z⟩
        rw [W.it hmem] at z
        exact ⟨i, hi, (W.mapN (fun x hx => upK_mem W hmem hx) hk).mp z⟩
      · rintro ⟨i, hi, z⟩
        refine ⟨i, hi, ?_⟩
        rw [W.it hmem, z]; rfl
    have hfr : frameOf (s.map (rwK N h)) (some (N j)) = some (N k) ↔ s.find? (fun a => decide (h a = some j)) = some k := by
      rw [W.frame hj]
      exact W.mapN (fun x hx => List.mem_of_find?_eq_some hx) hk
    constructor
    · rintro ⟨q, _⟩ ⟨j', z, b⟩
      rw [e] at z; cases z
      obtain ⟨_, q2, q3⟩ := q (by rw [e0])
      have n1 : (rwK N h k).name = N k := rwK_name
      rw [n1] at q2 q3
      have n2 : (rwK N h k).host = N j := by rw [e0]
      rw [n2] at q3
      rcases b with b | b
      · rw [hback.mpr b] at q2; cases q2
      · exact b (hfr.mp q3)
    · intro nb
      refine ⟨fun _ => ?_, hs, hb⟩
      have n1 : (rwK N h k).name = N k := rwK_name
      have n2 : (rwK N h k).host = N j := by rw [e0]
      rw [n1, n2]
      refine ⟨W.sort hj, ?_, ?_⟩
      · cases c : backB (s.map (rwK N h)) (N k) (s.map (rwK N h)).length (hostOf (s.map (rwK N h)) (some (N k))) with
        | false => rfl
        | true => exact absurd ⟨j, e, .inl (hback.mp c)⟩ nb
      · exact hfr.mpr (Classical.byContradiction fun z => nb ⟨j, e, .inr z⟩)
theorem Wd.okAt (W : Wd N h s) {i : Nat} {k : Nat} (hi : s[i]? = some k) : OkAt (s.map (rwK N h)) i ↔ ¬ badK h s k := by
  have hk := List.mem_of_getElem? hi
  have hr : (s.map (rwK N h))[i]? = some (rwK N h k) := by rw [List.getElem?_map, hi]; rfl
  have nd := W.nodup
  constructor
  · intro o
    have := (o _ hr).2
    rw [firstRows_id nd] at this
    exact (W.fit hk).mp this
  · intro nb r e
    rw [hr] at e; cases e
    refine ⟨?_, by rw [firstRows_id nd]; exact (W.fit hk).mpr nb⟩
    rw [rowOf_none]
    intro z
    have hlt : i < ((s.map (rwK N h)).map Row.name).length := by rw [List.length_map, List.length_map]; exact (List.getElem?_eq_some_iff.mp hi).1
    rw [List.map_take] at z
    obtain ⟨m, hm, e⟩ := List.mem_take_iff_getElem.mp z
    have hm1 : m < i := by omega
    have e2 : ((s.map (rwK N h)).map Row.name)[i] = (rwK N h k).name := by
      have : ((s.map (rwK N h)).map Row.name)[i]? = some (rwK N h k).name := by rw [List.getElem?_map, hr]; rfl
      rw [List.getElem?_eq_getElem hlt] at this
      exact Option.some.inj this
    have := (List.getElem_inj nd (h₀ := by omega) (h₁ := hlt)).mp (e.trans e2.symm)
    omega
theorem Wd.misN (W : Wd N h s) (nb : ∀ k ∈ s, ¬ badK h s k) : MisN (s.map (rwK N h)) := by
  rw [misN_ok]
  intro i
  by_cases hi : i < s.length
  · have e : s[i]? = some s[i] := List.getElem?_eq_getElem hi
    exact (W.okAt e).mpr (nb _ (List.getElem_mem hi))
  · intro r hr
    have := (List.getElem?_eq_some_iff.mp hr).1
    rw [List.length_map] at this; omega
theorem Wd.fst (W : Wd N h s) {m k : Nat} (hm : s[m]? = some k) (hb : badK h s k) (ho : ∀ i a, i < m → s[i]? = some a → ¬ badK h s a) : FstM (s.map (rwK N h)) m := by
  have hlt := (List.getElem?_eq_some_iff.mp hm).1
  refine ⟨by rw [List.length_map]; exact hlt, fun o => (W.okAt hm).mp o hb, fun j hj => ?_⟩
  have e : s[j]? = some s[j] := List.getElem?_eq_getElem (by omega)
  exact (W.okAt e).mpr (ho j _ hj e)
end
end My
namespace My
open PySem L2
variable {K : PySem.W.Frag} {vs : List V} {H : Hp} {Q : VK} {E : XK}
theorem find_first {p : Nat → Bool} : ∀ {s : List Nat} {i a : Nat}, s[i]? = some a → p a = true → (∀ i' a', i' < i → s[i']? = some a' → p a' = false) → s.find? p = some a
  | [], i, a, h, _, _ => by cases h
  | x :: s, 0, a, h, hp, _ => by cases h; rw [List.find?_cons, hp]
  | x :: s, i + 1, a, h, hp, hn => by
    have h0 := hn 0 x (by omega) rfl
    rw [List.find?_cons, h0]
    exact find_first (i := i) h hp fun i' a' hi h' => hn (i' + 1) a' (by omega) h'
theorem find_uniq {p : Nat → Bool} {s : List Nat} {k : Nat} (hk : k ∈ s) (hp : p k = true) (hu : ∀ a ∈ s, p a = true → a = k) : s.find? p = some k := by
  cases e : s.find? p with
  | none => rw [List.find?_eq_none] at e; exact absurd hp (e k hk)
  | some a => rw [hu a (List.mem_of_find?_eq_some e) (List.find?_some e)]
theorem upK_add {h : Nat → Option Nat} : ∀ (i j : Nat) (x : Option Nat), upK h (i + j) x = upK h j (upK h i x)
  | 0, j, x => by rw [Nat.zero_add]; rfl
  | i + 1, j, x => by rw [show i + 1 + j = (i + j) + 1 by omega]; exact upK_add i j (x.bind h)
theorem upK_inv {h : Nat → Option Nat} {P : Nat → Prop} (hs : ∀ a b, P a → h a = some b → P b) : ∀ {i : Nat} {x : Option Nat} {k : Nat}, (∀ a, x = some a → P a) → upK h i x = some k → P k
  | 0, x, k, hx, e => hx k e
  | i + 1, x, k, hx, e => upK_inv hs (i := i) (x := x.bind h) (fun b hb => by
      cases x with
      | none => cases hb
      | some a => exact hs a b (hx a rfl) hb) e
def h1 (c k : Nat) : Option Nat := if k < c then some (k + 1) else none
theorem h1_some {c k j : Nat} : h1 c k = some j ↔ k < c ∧ j = k + 1 := by
  unfold h1
  by_cases z : k < c
  · rw [if_pos z]; exact ⟨fun q => ⟨z, (Option.some.inj q).symm⟩, fun q => by rw [q.2]⟩
  · rw [if_neg z]; exact ⟨fun q => (by cases q), fun q => absurd q.1 z⟩
theorem chain_ok {c : Nat} {s : List Nat} (hm : ∀ k, k ∈ s ↔ k ≤ c) : ∀ k ∈ s, ¬ badK (h1 c) s k := by
  rintro k hk ⟨j, e, b⟩
  obtain ⟨e1, rfl⟩ := h1_some.mp e
  rcases b with ⟨i, _, z⟩ | b
  · have := upK_inv (P := fun y => k < y) (fun a b ha hb => by have := (h1_some.mp hb).2; omega) (fun a ha => by rw [e] at ha; cases ha; omega) z
    omega
  · refine b (find_uniq hk (decide_eq_true e) fun a _ ha => ?_)
    have := h1_some.mp (of_decide_eq_true ha)
    omega
def h2 (c b k : Nat) : Option Nat := if k + 1 < c then some (k + 1) else if k + 1 = c then some b else none
theorem h2_some {c b k j : Nat} : h2 c b k = some j ↔ (k + 1 < c ∧ j = k + 1) ∨ (k + 1 = c ∧ j = b) := by
  unfold h2
  by_cases z : k + 1 < c
  · rw [if_pos z]
    exact ⟨fun q => .inl ⟨z, (Option.some.inj q).symm⟩, fun q => by rcases q with ⟨_, q⟩ | ⟨q, _⟩; · rw [q]
                                                                    · omega⟩
  · rw [if_neg z]
    by_cases y : k + 1 = c
    · rw [if_pos y]
      exact ⟨fun q => .inr ⟨y, (Option.some.inj q).symm⟩, fun q => by rcases q with ⟨q, _⟩ | ⟨_, q⟩; · exact absurd q z
                                                                      · rw [q]⟩
    · rw [if_neg y]
      exact ⟨fun q => (by cases q), fun q => by rcases q with ⟨q, _⟩ | ⟨q, _⟩; · exact absurd q z
                                                · exact absurd q y⟩
theorem up2 {c b : Nat} : ∀ {i x : Nat}, x + i < c → upK (h2 c b) i (some x) = some (x + i)
  | 0, x, _ => rfl
  | i + 1, x, h => by
    show upK (h2 c b) i ((some x).bind (h2 c b)) = _
    have e : h2 c b x = some (x + 1) := h2_some.mpr (.inl ⟨by omega, rfl⟩)
    rw [show (some x).bind (h2 c b) = h2 c b x from rfl, e, up2 (i := i) (by omega)]
    congr 1; omega
theorem back2 {c b k : Nat} (h1 : b ≤ k) (h2' : k < c) : upK (h2 c b) (c - 1 - b) (h2 c b k) = some k := by
  by_cases z : k + 1 < c
  · rw [h2_some.mpr (.inl ⟨z, rfl⟩), show c - 1 - b = (c - 1 - (k + 1)) + (1 + (k - b)) by omega, upK_add, up2 (by omega), upK_add]
    have e : upK (h2 c b) 1 (some (k + 1 + (c - 1 - (k + 1)))) = some b := by
      show (h2 c b) (k + 1 + (c - 1 - (k + 1))) = some b
      exact h2_some.mpr (.inr ⟨by omega, rfl⟩)
    rw [e, up2 (by omega)]
    congr 1; omega
  · rw [h2_some.mpr (.inr ⟨by omega, rfl⟩), up2 (by omega)]
    congr 1; omega
theorem chain_back {c b : Nat} {s : List Nat} (hb : b < c) (nd : s.Nodup) (hm : ∀ k, k ∈ s ↔ k ≤ c) (hl : s.length = c + 1) {m k : Nat} (hmk : s[m]? = some k) (h1' : b ≤ k) (h2' : k < c)
    (ho : ∀ i a, i < m → s[i]? = some a → ¬ (b ≤ a ∧ a < c)) : badK (h2 c b) s k ∧ ∀ i a, i < m → s[i]? = some a → ¬ badK (h2 c b) s a := by
  constructor
  · have : ∃ j, h2 c b k = some j := by
      by_cases z : k + 1 < c
      · exact ⟨_, h2_some.mpr (.inl ⟨z, rfl⟩)⟩
      · exact ⟨_, h2_some.mpr (.inr ⟨by omega, rfl⟩)⟩
    obtain ⟨j, e⟩ := this
    exact ⟨j, e, .inl ⟨c - 1 - b, by omega, back2 h1' h2'⟩⟩
  · rintro i a hi hia ⟨j, e, q⟩
    have ha := ho i a hi hia
    rcases h2_some.mp e with ⟨e1, rfl⟩ | ⟨e1, rfl⟩
    · have hab : a < b := by omega
      rcases q with ⟨i', _, z⟩ | q
      · have := upK_inv (P := fun y => a < y) (fun x y hx hy => by rcases h2_some.mp hy with ⟨_, r⟩ | ⟨_, r⟩ <;> omega) (fun x hx => by rw [e] at hx; cases hx; omega) z
        omega
      · refine q (find_first hia (decide_eq_true e) fun i' a' hi' ha' => decide_eq_false fun z => ?_)
        have hn := ho i' a' (by omega) ha'
        rcases h2_some.mp z with ⟨z1, z2⟩ | ⟨z1, z2⟩
        · have ea : a' = a := by omega
          subst ea
          obtain ⟨l1, g1⟩ := List.getElem?_eq_some_iff.mp hia
          obtain ⟨l2, g2⟩ := List.getElem?_eq_some_iff.mp ha'
          have := (List.getElem_inj nd (h₀ := l1) (h₁ := l2)).mp (g1.trans g2.symm)
          omega
        · omega
    · omega
def h3 (c k : Nat) : Option Nat := if k < c then some (k + 1) else if k = 12 then some c else none
theorem h3_some {c k j : Nat} (hc : c ≤ 10) : h3 c k = some j ↔ (k < c ∧ j = k + 1) ∨ (k = 12 ∧ j = c) := by
  unfold h3
  by_cases z : k < c
  · rw [if_pos z]
    exact ⟨fun q => .inl ⟨z, (Option.some.inj q).symm⟩, fun q => by rcases q with ⟨_, q⟩ | ⟨q, _⟩; · rw [q]
                                                                    · omega⟩
  · rw [if_neg z]
    by_cases y : k = 12
    · rw [if_pos y]
      exact ⟨fun q => .inr ⟨y, (Option.some.inj q).symm⟩, fun q => by rcases q with ⟨q, _⟩ | ⟨_, q⟩; · exact absurd q z
                                                                      · rw [q]⟩
    · rw [if_neg y]
      exact ⟨fun q => (by cases q), fun q => by rcases q with ⟨q, _⟩ | ⟨q, _⟩; · exact absurd q z
                                                · exact absurd q y⟩
theorem chain_two {c : Nat} {s : List Nat} (h0 : 1 ≤ c) (hc : c ≤ 10) (nd : s.Nodup) (hm : ∀ k, k ∈ s ↔ k ≤ c ∨ k = 12) {m k k' i0 : Nat} (hmk : s[m]? = some k) (hik : s[i0]? = some k') (hlt : i0 < m) (hkk : (k = 12 ∧ k' = c - 1) ∨ (k = c - 1 ∧ k' = 12)) :
    badK (h3 c) s k ∧ ∀ i a, i < m → s[i]? = some a → ¬ badK (h3 c) s a := by
  have inj : ∀ {i i' a : Nat}, s[i]? = some a → s[i']? = some a → i = i' := fun g g' => by
    obtain ⟨l1, g1⟩ := List.getElem?_eq_some_iff.mp g
    obtain ⟨l2, g2⟩ := List.getElem?_eq_some_iff.mp g'
    exact (List.getElem_inj nd (h₀ := l1) (h₁ := l2)).mp (g1.trans g2.symm)
  have two : ∀ {a : Nat}, h3 c a = some c ↔ a = c - 1 ∨ a = 12 := fun {a} => by rw [h3_some hc]; omega
  have fk : s.find? (fun a => decide (h3 c a = some c)) = some k' := by
    refine find_first hik (decide_eq_true (two.mpr (by omega))) fun i' a' hi' ha' => decide_eq_false fun z => ?_
    have h1 : a' ≠ k' := fun z => by subst z; have := inj hik ha'; omega
    have h2 : a' ≠ k := fun z => by subst z; have := inj hmk ha'; omega
    have := two.mp z
    omega
  constructor
  · refine ⟨c, two.mpr (by omega), .inr ?_⟩
    rw [fk]
    intro z
    have := Option.some.inj z
    omega
  · rintro i a hi hia ⟨j, e, q⟩
    have hak : a ≠ k := fun z => by subst z; have := inj hia hmk; omega
    have ha := (hm a).mp (List.mem_of_getElem? hia)
    rcases q with ⟨i', _, z⟩ | q
    · rcases (h3_some hc).mp e with ⟨e1, e2⟩ | ⟨e1, e2⟩
      · have := upK_inv (P := fun y => a < y ∧ y ≤ c) (fun x y hx hy => by rcases (h3_some hc).mp hy with ⟨_, r⟩ | ⟨_, r⟩ <;> omega) (fun x hx => by rw [e] at hx; cases hx; omega) z
        omega
      · have := upK_inv (P := fun y => y ≤ c) (fun x y hx hy => by rcases (h3_some hc).mp hy with ⟨_, r⟩ | ⟨_, r⟩ <;> omega) (fun x hx => by rw [e] at hx; cases hx; omega) z
        omega
    · by_cases hj : j = c
      · subst hj
        have := two.mp e
        have ea : a = k' := by omega
        exact q (by rw [fk, ea])
      · refine q (find_uniq (List.mem_of_getElem? hia) (decide_eq_true e) fun x hx hxe => ?_)
        have r := (h3_some hc).mp (of_decide_eq_true hxe)
        have r2 := (h3_some hc).mp e
        omega
end My
namespace My
open PySem L2
variable {K : PySem.W.Frag} {vs : List V} {H : Hp} {Q : VK} {E : XK}
theorem sum_le {m : Nat} : ∀ {xs : List Str}, (∀ x ∈ xs, x.length ≤ m) → (xs.map (·.length)).sum ≤ xs.length * m
  | [], _ => by simp
  | x :: xs, h => by
    have h1 := h x List.mem_cons_self
    have h2 := sum_le (xs := xs) fun y hy => h y (List.mem_cons_of_mem _ hy)
    rw [List.map_cons, List.sum_cons, List.length_cons, Nat.add_mul]; omega
theorem strV_cat (xs ys : List Str) : strV xs ++ strV ys = strV (xs ++ ys) := by unfold strV; rw [List.map_append]
def lineS (r : Row) : Str := lineR r r.shuts r.bars
theorem lineS_of (r : Row) : LineOf r (lineS r) := ⟨r.shuts, r.bars, List.Perm.refl _, List.Perm.refl _, rfl⟩
theorem lines_S : ∀ rs : List Row, Lines rs (rs.map lineS)
  | [] => rfl
  | r :: rs => ⟨lineS r, _, rfl, lineS_of r, lines_S rs⟩
theorem lines_room {rs : List Row} {ls : List Str} (hG : ∀ r ∈ rs, RowG r) (hz : rs.length ≤ 12) (h : Lines rs ls) : (ls.map (·.length)).sum + ls.length * ("\n" : Str).length ≤ 16777216 := by
  have hx : ∀ l ∈ ls, l.length ≤ 330 := fun l hl => by
    obtain ⟨i, hi⟩ := List.mem_iff_getElem?.mp hl
    obtain ⟨r, hr, g⟩ := h.get hi
    exact line_len (hG r (List.mem_of_getElem? hr)) g
  have h1 := sum_le hx
  have h2 := h.len
  have h3 : ls.length * 330 ≤ 12 * 330 := Nat.mul_le_mul_right _ (by omega)
  show _ + _ * 1 ≤ _
  omega
section
variable {N : Nat → Str} {h : Nat → Option Nat} {s : List Nat}
theorem line_frame {k j : Nat} (e : h k = some j) : lineS (rwK N h k) = N k ++ (" frame " : Str) ++ N j := by
  have e0 : rwK N h k = ⟨N k, ("frame" : Str), N j, [], []⟩ := by unfold rwK; rw [e]
  rw [e0]
  have e1 : lineS ⟨N k, ("frame" : Str), N j, [], []⟩ = Str.join (" " : Str) [N k, ("frame" : Str), N j] := by
    unfold lineS lineR wordsR hostW
    rw [if_pos rfl]; rfl
  rw [e1]
  apply str_ext
  show (N k ++ (" " : Str) ++ (("frame" : Str) ++ (" " : Str) ++ N j)).cps.toList = (N k ++ (" frame " : Str) ++ N j).cps.toList
  show ((N k).cps ++ (" " : Str).cps ++ ((("frame" : Str).cps ++ (" " : Str).cps) ++ (N j).cps)).toList = ((N k).cps ++ (" frame " : Str).cps ++ (N j).cps).toList
  have e2 : (" frame " : Str).cps = (" " : Str).cps ++ (("frame" : Str).cps ++ (" " : Str).cps) := by decide +kernel
  rw [e2]
  simp
theorem line_plain {k : Nat} (e : h k = none) : lineS (rwK N h k) = N k ++ (" plain" : Str) := by
  have e0 : rwK N h k = ⟨N k, ("plain" : Str), ("" : Str), [], []⟩ := by unfold rwK; rw [e]
  rw [e0]
  have e1 : lineS ⟨N k, ("plain" : Str), ("" : Str), [], []⟩ = Str.join (" " : Str) [N k, ("plain" : Str)] := by
    unfold lineS lineR wordsR hostW
    rw [if_neg (show ¬ (("plain" : Str) = ("frame" : Str)) by decide)]; rfl
  rw [e1]
  apply str_ext
  show ((N k).cps ++ (" " : Str).cps ++ ("plain" : Str).cps).toList = ((N k).cps ++ (" plain" : Str).cps).toList
  have e2 : (" plain" : Str).cps = (" " : Str).cps ++ ("plain" : Str).cps := by decide +kernel
  rw [e2]
  simp
theorem Wd.good (W : Wd N h s) (hn : ∀ k ∈ s, NameOk (N k)) : ∀ r ∈ s.map (rwK N h), RowG r := by
  intro r hr
  obtain ⟨k, hk, rfl⟩ := List.mem_map.mp hr
  have nk := nmX_ok.mpr (hn k hk)
  cases e : h k with
  | none =>
    have e0 : rwK N h k = ⟨N k, ("plain" : Str), ("" : Str), [], []⟩ := by unfold rwK; rw [e]
    rw [e0]
    exact ⟨nk, by show ("plain" : Str) ∈ sortsL; decide +kernel, fun z => absurd (show ("plain" : Str) = ("frame" : Str) from z) (by decide), fun _ => rfl, fun x hx => (by cases hx), fun x hx => (by cases hx), rfl, rfl, Nat.zero_le _, Nat.zero_le _⟩
  | some j =>
    have e0 : rwK N h k = ⟨N k, ("frame" : Str), N j, [], []⟩ := by unfold rwK; rw [e]
    rw [e0]
    exact ⟨nk, by show ("frame" : Str) ∈ sortsL; decide +kernel, fun _ => nmX_ok.mpr (hn j (W.hv k hk j e)), fun z => absurd rfl z, fun x hx => (by cases hx), fun x hx => (by cases hx), rfl, rfl, Nat.zero_le _, Nat.zero_le _⟩
theorem Wd.small (W : Wd N h s) (hn : ∀ k ∈ s, NameOk (N k)) : ∀ r ∈ s.map (rwK N h), Sml r := by
  intro r hr
  obtain ⟨k, hk, rfl⟩ := List.mem_map.mp hr
  have nk := (hn k hk).eight
  refine ⟨by rw [rwK_name]; omega, ?_, by rw [rwK_shuts]; exact ⟨Nat.zero_le _, fun x hx => (by cases hx)⟩, by rw [rwK_bars]; exact ⟨Nat.zero_le _, fun x hx => (by cases hx)⟩⟩
  unfold rwK
  cases e : h k with
  | none => show ("" : Str).length ≤ 100; decide +kernel
  | some j => have := (hn j (W.hv k hk j e)).eight; show (N j).length ≤ 100; omega
end
theorem perm_map {α β : Type} {f : α → β} : ∀ {l : List α} {ys : List β}, ys.Perm (l.map f) → ∃ s : List α, s.Perm l ∧ ys = s.map f
  | [], ys, p => ⟨[], List.Perm.refl _, by simpa using p⟩
  | x :: l, ys, p => by
    have hm : f x ∈ ys := p.mem_iff.mpr (by simp)
    obtain ⟨a, b, rfl⟩ := List.append_of_mem hm
    have p2 : (a ++ b).Perm (l.map f) := by
      have : (f x :: (a ++ b)).Perm (f x :: l.map f) := (List.perm_middle.symm).trans p
      exact (List.perm_cons _).mp this
    obtain ⟨s, ps, e⟩ := perm_map p2
    obtain ⟨s1, s2, rfl, e1, e2⟩ := List.append_eq_map_iff.mp e
    exact ⟨s1 ++ x :: s2, List.perm_middle.trans (List.Perm.cons _ ps), by rw [List.map_append, List.map_cons, e1, e2]⟩
end My
namespace My
open PySem L2
variable {K : PySem.W.Frag} {vs : List V} {H : Hp} {Q : VK} {E : XK}
def lnT (names : List Str) (k j : Nat) : Str := gd names k ++ (" frame " : Str) ++ gd names j
def lnP (names : List Str) (k : Nat) : Str := gd names k ++ (" plain" : Str)
structure Nms (H : Hp) (nm : Addr) (names : List Str) : Prop where
  n : H nm = some (.lst (strV names))
  l : names.length = 13
  nd : names.Nodup
  ok : ∀ x ∈ names, NameOk x
theorem Nms.same {H H' : Hp} {nm : Addr} {names : List Str} (h : Nms H nm names) (s : Same H H') : Nms H' nm names := ⟨s _ _ h.n, h.l, h.nd, h.ok⟩
theorem Nms.len {nm : Addr} {names : List Str} (h : Nms H nm names) (k : Nat) : (gd names k).length ≤ 8 := by
  by_cases z : k < names.length
  · exact (h.ok _ (gd_mem z)).eight
  · rw [gd_out (by omega)]; decide +kernel
theorem Nms.inj {nm : Addr} {names : List Str} (h : Nms H nm names) {a b : Nat} (ha : a < 13) (hb : b < 13) (e : gd names a = gd names b) : a = b := by
  have e1 := gd_get (l := names) (i := a) (by rw [h.l]; exact ha)
  have e2 := gd_get (l := names) (i := b) (by rw [h.l]; exact hb)
  obtain ⟨l1, g1⟩ := List.getElem?_eq_some_iff.mp e1
  obtain ⟨l2, g2⟩ := List.getElem?_eq_some_iff.mp e2
  exact (List.getElem_inj h.nd (h₀ := l1) (h₁ := l2)).mp (by rw [g1, g2, e])
theorem Nms.at {nm : Addr} {names : List Str} (h : Nms H nm names) {k : Nat} (hk : k < 13) {i : Int} (hi : i = k) {R : VK} (q : R (.str (gd names k)) H) : rIxA K (.ref nm) (.int i) H R := by
  subst hi
  exact v_ixL (SqL.of h.n) (at_str (by rw [h.l]; exact hk)) q
theorem ln_comp {nm : Addr} {names : List Str} {c : Nat} {R : VK} {σ : St} (h1 : σ[1]? = some (some (.int c))) (h2 : σ[2]? = some (some (.ref nm))) (M : Nms H nm names) (hc : c ≤ 11)
    (q : ∀ p, H p = none → R (.ref p) (upd H p (.lst (strV ((List.range c).map fun k => lnT names k (k + 1)))))) :
    tComp [some 2, none] (iRng1 (tCons (tVar 1) tNil)) (gName 1) tTT (tOp (rAddA K) (tOp (rAddA K) (tOp (rIxA K) (tVar 0) (tVar 1)) (tC (.str (" frame " : Str)))) (tOp (rIxA K) (tVar 0) (tOp (rAddA K) (tVar 1) (tC (.int 1))))) σ H R := by
  have eg : grab [some 2, none] σ = [some (.ref nm), none] := by unfold grab; simp [h2]
  refine st_comp (st_rng1 (st_cons (st_var h1 (st_nil ?_))))
  rw [eg]
  refine rng1_comp (n := (c : Int)) (by omega) (by omega) (fun i ys H' => H' = H ∧ ys = strV ((List.range i).map fun k => lnT names k (k + 1))) ⟨rfl, rfl⟩ ?_ ?_ ?_
  · rintro i ys H' hi ⟨_, rfl⟩
    rw [strV_len, List.length_map, List.length_range]
    exact sl64 (by omega)
  · rintro i ys H' hi ⟨rfl, rfl⟩
    have l1 := M.len i
    have l2 := M.len (i + 1)
    walk_at "step"
    refine M.at (k := i) (by omega) rfl ?_
    walk_at "step"
    refine v_addS (sl64 (by show _ + 7 ≤ _; omega)) ?_
    walk_at "step"
    refine M.at (k := i + 1) (by omega) (by omega) ?_
    refine v_addS (sl64 (by rw [strLen_append]; show _ + 7 + _ ≤ _; omega)) ?_
    refine ⟨rfl, ?_⟩
    rw [List.range_succ, List.map_append, ← strV_cat]
    rfl
  · rintro ys H' ⟨rfl, rfl⟩ p hp
    exact q p hp
end My
namespace My
open PySem L2
variable {K : PySem.W.Frag} {vs : List V} {H : Hp} {Q : VK} {E : XK}
theorem atI_back {α : Type} {xs : List α} {j : Nat} {v : α} {i : Int} (hi : i = -((j : Int) + 1)) (hj : j < xs.length) (e : xs[xs.length - 1 - j]? = some v) : atI xs i = some v := by
  unfold atI ixN
  rw [if_neg (by omega), if_pos (by omega)]
  show xs[_]? = some v
  rw [show (i + (xs.length : Int)).toNat = xs.length - 1 - j by omega]
  exact e
theorem lineS_name {r r' : Row} (G : RowG r) (G' : RowG r') (e : lineS r = lineS r') : r.name = r'.name := by
  have e1 := line_split G (List.Perm.refl r.shuts) (List.Perm.refl r.bars)
  have e2 := line_split G' (List.Perm.refl r'.shuts) (List.Perm.refl r'.bars)
  unfold lineS at e
  rw [e, e2] at e1
  unfold wordsR at e1
  have := congrArg (fun l : List Str => l.head?) e1
  exact (Option.some.inj this).symm
section
variable {N : Nat → Str} {h : Nat → Option Nat} {s : List Nat}
theorem Wd.idx (W : Wd N h s) (hn : ∀ k ∈ s, NameOk (N k)) {k : Nat} (hk : k ∈ s) : ∃ j : Nat, s[j]? = some k ∧ (s.map fun k => lineS (rwK N h k))[j]? = some (lineS (rwK N h k)) ∧ ∀ m : Nat, m < j → (s.map fun k => lineS (rwK N h k))[m]? ≠ some (lineS (rwK N h k)) := by
  obtain ⟨j, hj⟩ := List.mem_iff_getElem?.mp hk
  refine ⟨j, hj, by rw [List.getElem?_map, hj]; rfl, fun m hm z => ?_⟩
  rw [List.getElem?_map] at z
  obtain ⟨a, ha, e⟩ := Option.map_eq_some_iff.mp z
  have G := W.good hn
  have ha' := List.mem_of_getElem? ha
  have := lineS_name (G _ (List.mem_map.mpr ⟨a, ha', rfl⟩)) (G _ (List.mem_map.mpr ⟨k, hk, rfl⟩)) e
  rw [rwK_name, rwK_name] at this
  have := W.inj a ha' k hk this
  subst this
  obtain ⟨l1, g1⟩ := List.getElem?_eq_some_iff.mp hj
  obtain ⟨l2, g2⟩ := List.getElem?_eq_some_iff.mp ha
  have := (List.getElem_inj W.nd (h₀ := l1) (h₁ := l2)).mp (g1.trans g2.symm)
  omega
theorem lines_K (N : Nat → Str) (h : Nat → Option Nat) (s : List Nat) : (s.map (rwK N h)).map lineS = s.map fun k => lineS (rwK N h k) := by rw [List.map_map]; rfl
end
theorem wd_of {nm : Addr} {names : List Str} {h : Nat → Option Nat} {s l : List Nat} (M : Nms H nm names) (p : s.Perm l) (nd : l.Nodup) (hl : ∀ k ∈ l, k < 13) (hv : ∀ k ∈ l, ∀ j, h k = some j → j ∈ l) : Wd (gd names) h s :=
  ⟨p.nodup_iff.mpr nd, fun a ha b hb e => M.inj (hl a (p.mem_iff.mp ha)) (hl b (p.mem_iff.mp hb)) e, fun k hk j e => p.mem_iff.mpr (hv k (p.mem_iff.mp hk) j e)⟩
theorem nm_ok {nm : Addr} {names : List Str} {s l : List Nat} (M : Nms H nm names) (p : s.Perm l) (hl : ∀ k ∈ l, k < 13) : ∀ k ∈ s, NameOk (gd names k) := fun k hk => M.ok _ (gd_mem (by rw [M.l]; exact hl k (p.mem_iff.mp hk)))
theorem lw_turn {R : VK} {σ : St} {nm p : Addr} {names L : List Str} {c : Nat} {n : Int} (h1 : σ[1]? = some (some (.int c))) (h2 : σ[2]? = some (some (.ref nm))) (h3 : σ[3]? = some (some (.int n))) (h4 : σ[4]? = some (some (.ref p))) (M : Nms H nm names) (hc : c < 13) (hp : H p = some (.lst (strV L))) (hl : L.length ≤ 50)
    (q : ∀ (t : Addr) (ys : List Str) H', ys.Perm (L ++ [lnP names c]) → Same H H' → H' t = some (.lst (strV ys)) → R (.ref t) H') :
    tCall (sp__law_turned K) [] E0 (tCons (tOp (rAddA K) (tVar 4) (tLst (tCons (tOp (rAddA K) (tOp (rIxA K) (tVar 2) (tVar 1)) (tC (.str (" plain" : Str)))) tNil))) (tCons (tVar 3) tNil)) σ H R := by
  have lc := M.len c
  refine st_call (st_cons (st_op (st_var h4 (st_lst (st_cons (st_op (st_op (st_var h2 (st_var h1 (M.at (k := c) hc rfl (st_C ?_)))))))))))
  refine v_addS (sl64 (by show _ + 6 ≤ _; omega)) (st_nil ⟨sl64 (by simp), fun p2 hp2 => ?_⟩)
  have s2 := Same.new hp2 (.lst [.str (gd names c ++ (" plain" : Str))])
  have e2 : (upd H p2 (.lst [.str (gd names c ++ (" plain" : Str))])) p2 = _ := upd_same
  generalize upd H p2 (.lst [.str (gd names c ++ (" plain" : Str))]) = H2 at *
  refine v_cat (s2 _ _ hp) e2 (sl64 (by rw [strV_len]; show _ + 1 ≤ _; omega)) fun p3 hp3 => ?_
  have ec : strV L ++ [V.str (gd names c ++ (" plain" : Str))] = strV (L ++ [lnP names c]) := strV_cat L [lnP names c]
  rw [ec]
  have s3 := Same.new hp3 (.lst (strV (L ++ [lnP names c])))
  have e3 : (upd H2 p3 (.lst (strV (L ++ [lnP names c])))) p3 = _ := upd_same
  generalize upd H2 p3 (.lst (strV (L ++ [lnP names c]))) = H3 at *
  refine st_cons (st_var h3 (st_nil ?_))
  refine ⟨p3, _, n, rfl, SqL.of e3, by rw [List.length_append]; show _ + 1 ≤ _; omega, fun t ys H' hy s' ht => q t ys H' hy (Same.tr (Same.tr s2 s3) s') ht⟩
theorem lw_told {R : VK} {σ : St} {t : Addr} {N : Nat → Str} {h : Nat → Option Nat} {s : List Nat} {m : Nat} (h5 : σ[5]? = some (some (.ref t))) (ht : H t = some (.lst (strV (s.map fun k => lineS (rwK N h k))))) (W : Wd N h s) (hn : ∀ k ∈ s, NameOk (N k)) (hl : s.length ≤ 12) (hm : FstM (s.map (rwK N h)) m)
    (q : ∀ H', Same H H' → R (.int m) H') :
    tCall (sp__law_row_told K) [] E0 (tCons (tBM K "str" (rJoin K) (tC (.str ("\n" : Str))) (tCons (tVar 5) tNil)) tNil) σ H R := by
  have hll : (s.map (rwK N h)).length ≤ 12 := by rw [List.length_map]; exact hl
  refine st_call (st_cons (st_bm (st_C ?_)))
  refine ⟨rfl, ?_⟩
  refine st_cons (st_var h5 (st_nil ?_))
  refine ⟨_, t, s.map fun k => lineS (rwK N h k), rfl, rfl, .inl (SqL.of ht), ?_, ?_⟩
  · rw [← lines_K]; exact lines_room (W.good hn) hll (lines_S _)
  rw [txt_join]
  refine st_nil ?_
  refine ⟨_, s.map (rwK N h), s.map fun k => lineS (rwK N h k), m, rfl, hll, W.good hn, W.small hn, ?_, rfl, hm, q⟩
  rw [← lines_K]; exact lines_S _
@[reducible] def T_law_5 (K : PySem.W.Frag) : TS :=
 (tRet (tOp (rEqA K) (tCall (sp__law_row_told K) [] E0 (tCons (tBM K "str" (rJoin K) (tC (.str ("\n" : Str))) (tCons (tVar 5) tNil)) tNil)) (tCB (r_max K) (tCons (tBM K "list" rIndexL (tVar 5) (tCons (tOp (rIxA K) (tVar 4) (tUn (rU fun i => .int (-i)) (tC (.int 1)))) tNil)) (tCons (tBM K "list" rIndexL (tVar 5) (tCons (tOp (rIxA K) (tVar 4) (tUn (rU fun i => .int (-i)) (tC (.int 2)))) tNil)) tNil)))))
@[reducible] def T_law_6 (K : PySem.W.Frag) : TS :=
 (tSeq (tAsg (tCall (sp__law_turned K) [] E0 (tCons (tOp (rAddA K) (tVar 4) (tLst (tCons (tOp (rAddA K) (tOp (rIxA K) (tVar 2) (tVar 1)) (tC (.str (" plain" : Str)))) tNil))) (tCons (tVar 3) tNil))) (gName 5))
 (T_law_5 K))
def lwH (K : PySem.W.Frag) : TS :=
 (tSeq (tAsg (tOp (rAddA K) (tComp [some 2, none] (iRng1 (tCons (tVar 1) tNil)) (gName 1) tTT (tOp (rAddA K) (tOp (rAddA K) (tOp (rIxA K) (tVar 0) (tVar 1)) (tC (.str (" frame " : Str)))) (tOp (rIxA K) (tVar 0) (tOp (rAddA K) (tVar 1) (tC (.int 1)))))) (tLst (tCons (tOp (rAddA K) (tOp (rAddA K) (tOp (rIxA K) (tVar 2) (tC (.int 12))) (tC (.str (" frame " : Str)))) (tOp (rIxA K) (tVar 2) (tVar 1))) tNil))) (gName 4))
 (T_law_6 K))
theorem lw_H {D : Ends} {sc nm : Addr} {names : List Str} {c : Nat} {n : Int} {o4 o5 o6 o7 o8 o9 o10 o11 : Option V} (M : Nms H nm names) (h0 : 1 ≤ c) (hc : c ≤ 10) (q : ∀ H', D.rt (.bl true) H') :
    lwH K D [some (.ref sc), some (.int c), some (.ref nm), some (.int n), o4, o5, o6, o7, o8, o9, o10, o11] H := by
  unfold lwH
  refine st_seq (st_asg (st_op (ln_comp rfl rfl M (by omega) fun p hp => ?_)))
  have s1 := Same.new hp (.lst (strV ((List.range c).map fun k => lnT names k (k + 1))))
  have e1 : (upd H p (.lst (strV ((List.range c).map fun k => lnT names k (k + 1))))) p = _ := upd_same
  generalize upd H p (.lst (strV ((List.range c).map fun k => lnT names k (k + 1)))) = H1 at *
  have M1 := M.same s1
  have l12 := M.len 12
  have lc := M.len c
  walk_at "step"
  refine M1.at (k := 12) (by omega) rfl ?_
  walk_at "step"
  refine v_addS (sl64 (by show _ + 7 ≤ _; omega)) ?_
  walk_at "step"
  refine M1.at (k := c) (by omega) rfl ?_
  refine v_addS (sl64 (by rw [strLen_append]; show _ + 7 + _ ≤ _; omega)) ?_
  walk_at "step"
  refine ⟨sl64 (by simp), fun p2 hp2 => ?_⟩
  have e2 : (upd H1 p2 (.lst [.str (gd names 12 ++ (" frame " : Str) ++ gd names c)])) p2 = _ := upd_same
  have s2 := Same.new hp2 (.lst [.str (gd names 12 ++ (" frame " : Str) ++ gd names c)])
  generalize upd H1 p2 (.lst [.str (gd names 12 ++ (" frame " : Str) ++ gd names c)]) = H2 at *
  refine v_cat (s2 _ _ e1) e2 (sl64 (by rw [strV_len, List.length_map, List.length_range]; show _ + 1 ≤ _; omega)) fun p3 hp3 => ?_
  have ec : strV ((List.range c).map fun k => lnT names k (k + 1)) ++ [V.str (gd names 12 ++ (" frame " : Str) ++ gd names c)] = strV (((List.range c).map fun k => lnT names k (k + 1)) ++ [lnT names 12 c]) := strV_cat _ [lnT names 12 c]
  rw [ec]
  generalize hL : ((List.range c).map fun k => lnT names k (k + 1)) ++ [lnT names 12 c] = L
  have s3 := Same.new hp3 (.lst (strV L))
  have e3 : (upd H2 p3 (.lst (strV L))) p3 = _ := upd_same
  generalize upd H2 p3 (.lst (strV L)) = H3 at *
  have s03 := Same.tr (Same.tr s1 s2) s3
  have hLl : L.length = c + 1 := by rw [← hL]; simp
  refine st_name ?_
  show T_law_6 K D _ H3
  unfold T_law_6
  refine st_seq (st_asg (lw_turn (L := L) rfl rfl rfl rfl (M.same s03) (by omega) e3 (by omega) fun t ys H4 hy s4 ht => ?_))
  have eL : L ++ [lnP names c] = ((List.range c ++ [12]) ++ [c]).map fun k => lineS (rwK (gd names) (h3 c) k) := by
    rw [← hL, List.map_append, List.map_append]
    refine congr (congrArg _ (congr (congrArg _ (List.map_congr_left fun k hk => ?_)) ?_)) ?_
    · exact (line_frame ((h3_some hc).mpr (.inl ⟨List.mem_range.mp hk, rfl⟩))).symm
    · show [lnT names 12 c] = [lineS _]
      rw [line_frame ((h3_some hc).mpr (.inr ⟨rfl, rfl⟩))]; rfl
    · show [lnP names c] = [lineS _]
      rw [line_plain (by unfold h3; rw [if_neg (by omega), if_neg (by omega)])]; rfl
  rw [eL] at hy
  obtain ⟨s, ps, rfl⟩ := perm_map hy
  have hmem : ∀ k, k ∈ (List.range c ++ [12]) ++ [c] ↔ k ≤ c ∨ k = 12 := fun k => by simp; omega
  have nd : ((List.range c ++ [12]) ++ [c]).Nodup := by
    rw [List.nodup_append, List.nodup_append]
    refine ⟨⟨List.nodup_range, by simp, fun a ha b hb => ?_⟩, by simp, fun a ha b hb => ?_⟩
    · have := List.mem_range.mp ha; have := List.mem_singleton.mp hb; omega
    · have := List.mem_singleton.mp hb
      rcases List.mem_append.mp ha with h | h
      · have := List.mem_range.mp h; omega
      · have := List.mem_singleton.mp h; omega
  have h13 : ∀ k ∈ (List.range c ++ [12]) ++ [c], k < 13 := fun k hk => by have := (hmem k).mp hk; omega
  have W : Wd (gd names) (h3 c) s := wd_of M ps nd h13 fun k hk j e => (hmem j).mpr (by rcases (h3_some hc).mp e with h | h <;> omega)
  have hn := nm_ok M ps h13
  have hms : ∀ k, k ∈ s ↔ k ≤ c ∨ k = 12 := fun k => by rw [ps.mem_iff, hmem]
  have hsl : s.length = c + 2 := by rw [ps.length_eq]; simp
  obtain ⟨j1, a1, b1, c1⟩ := W.idx hn (k := 12) ((hms 12).mpr (by omega))
  obtain ⟨j2, a2, b2, c2⟩ := W.idx hn (k := c - 1) ((hms (c - 1)).mpr (by omega))
  have hj : j1 ≠ j2 := fun z => by subst z; rw [a1] at a2; have := Option.some.inj a2; omega
  have hF : FstM (s.map (rwK (gd names) (h3 c))) (if j2 > j1 then j2 else j1) := by
    by_cases z : j2 > j1
    · rw [if_pos z]
      obtain ⟨x, y⟩ := chain_two h0 hc W.nd hms a2 a1 z (.inr ⟨rfl, rfl⟩)
      exact W.fst a2 x y
    · rw [if_neg z]
      obtain ⟨x, y⟩ := chain_two h0 hc W.nd hms a1 a2 (by omega) (.inl ⟨rfl, rfl⟩)
      exact W.fst a1 x y
  refine st_name ?_
  show T_law_5 K D _ H4
  unfold T_law_5
  refine st_ret (st_op (lw_told rfl ht W hn (by omega) hF fun H5 s5 => ?_))
  walk_at "step"
  have ht5 := s5 _ _ ht
  have e35 := s5 _ _ (s4 _ _ e3)
  have x1 : lineS (rwK (gd names) (h3 c) 12) = lnT names 12 c := line_frame ((h3_some hc).mpr (.inr ⟨rfl, rfl⟩))
  have x2 : lineS (rwK (gd names) (h3 c) (c - 1)) = lnT names (c - 1) c := line_frame ((h3_some hc).mpr (.inl ⟨by omega, by omega⟩))
  rw [x1] at b1 c1
  rw [x2] at b2 c2
  have y1 : L[c]? = some (lnT names 12 c) := by rw [← hL, List.getElem?_append_right (by simp)]; simp
  have y2 : L[c - 1]? = some (lnT names (c - 1) c) := by
    rw [← hL, List.getElem?_append_left (by simp; omega), List.getElem?_map, List.getElem?_range (by omega)]
    show some (lnT names (c - 1) (c - 1 + 1)) = _
    rw [show c - 1 + 1 = c by omega]
  have z1 : (strV L)[(strV L).length - 1 - 0]? = some (.str (lnT names 12 c)) := by
    unfold strV; rw [List.length_map, List.getElem?_map, hLl, show c + 1 - 1 - 0 = c by omega, y1]; rfl
  have z2 : (strV L)[(strV L).length - 1 - 1]? = some (.str (lnT names (c - 1) c)) := by
    unfold strV; rw [List.length_map, List.getElem?_map, hLl, show c + 1 - 1 - 1 = c - 1 by omega, y2]; rfl
  have zl : (strV L).length = c + 1 := by rw [strV_len, hLl]
  refine ⟨.inl ⟨rfl, _, SqL.of ht5⟩, ?_⟩
  walk_at "step"
  refine ⟨1, rfl, ?_⟩
  refine v_ixL (SqL.of e35) (v := .str (lnT names 12 c)) (atI_back (j := 0) rfl (by omega) z1) ?_
  walk_at "step"
  refine ⟨t, _, _, j1, rfl, rfl, ht5, b1, c1, ?_⟩
  walk_at "step"
  refine ⟨.inl ⟨rfl, _, SqL.of ht5⟩, ?_⟩
  walk_at "step"
  refine ⟨2, rfl, ?_⟩
  refine v_ixL (SqL.of e35) (v := .str (lnT names (c - 1) c)) (atI_back (j := 1) rfl (by omega) z2) ?_
  walk_at "step"
  refine ⟨t, _, _, j2, rfl, rfl, ht5, b2, c2, ?_⟩
  walk_at "step"
  have ed : ((if j2 > j1 then j2 else j1 : Nat) : Int) = if (j2 : Int) > j1 then (j2 : Int) else j1 := by split <;> split <;> omega
  rw [decide_eq_true ed]
  exact q _
def lwG (K : PySem.W.Frag) : TS :=
 (tSeq (tIfS (tTest (tOp (rEqA K) (tVar 1) (tC (.int 11))))
 (tRet (tC (.bl true))) tNext)
 (lwH K))
theorem lw_G {D : Ends} {sc nm : Addr} {names : List Str} {c : Nat} {n : Int} {o4 o5 o6 o7 o8 o9 o10 o11 : Option V} (M : Nms H nm names) (h0 : 1 ≤ c) (hc : c ≤ 11) (q : ∀ H', D.rt (.bl true) H') :
    lwG K D [some (.ref sc), some (.int c), some (.ref nm), some (.int n), o4, o5, o6, o7, o8, o9, o10, o11] H := by
  unfold lwG
  walk_at "step"
  by_cases z : (c : Int) = 11
  · rw [decide_eq_true z]
    walk_at "step"
    exact q _
  · rw [decide_eq_false z]
    walk_at "step"
    exact lw_H M h0 (by omega) q
end My
namespace My
open PySem L2
variable {K : PySem.W.Frag} {vs : List V} {H : Hp} {Q : VK} {E : XK}
theorem least (P : Nat → Prop) : ∀ n, P n → ∃ m, P m ∧ ∀ k, P k → m ≤ k := by
  intro n
  induction n using Nat.strongRecOn with
  | _ n ih =>
    intro hn
    by_cases h : ∃ k, P k ∧ k < n
    · obtain ⟨k, hk, hlt⟩ := h
      exact ih k hlt hk
    · exact ⟨n, hn, fun k hk => Nat.le_of_not_lt fun z => h ⟨k, hk, z⟩⟩
theorem cut_from {vs : List V} {i : Nat} (h : i ≤ vs.length) : cutV vs (some (i : Int)) none = vs.drop i := by
  unfold cutV
  have e1 : HT.sIx vs.length 0 (some (i : Int)) = i := by
    show (if (i : Int) < 0 then ((i : Int) + vs.length).toNat else min (i : Int).toNat vs.length) = i
    rw [if_neg (by omega)]; omega
  have e2 : HT.sIx vs.length vs.length none = vs.length := rfl
  rw [e1, e2]
  exact List.take_of_length_le (by rw [List.length_drop]; omega)
section
variable {N : Nat → Str} {h : Nat → Option Nat} {s : List Nat}
theorem idx_at : ∀ {s : List Nat} {k : Nat}, k ∈ s → s[s.idxOf k]? = some k
  | [], k, h => by cases h
  | x :: s, k, h => by
    rw [List.idxOf_cons]
    by_cases e : x = k
    · subst e; simp
    · rw [show (x == k) = false from beq_false_of_ne e]
      have h' : k ∈ s := by
        rcases List.mem_cons.mp h with z | z
        · exact absurd z.symm e
        · exact z
      show (x :: s)[s.idxOf k + 1]? = some k
      rw [List.getElem?_cons_succ]
      exact idx_at h'
theorem Wd.at (W : Wd N h s) (hn : ∀ k ∈ s, NameOk (N k)) {k : Nat} (hk : k ∈ s) : (s.map fun k => lineS (rwK N h k))[s.idxOf k]? = some (lineS (rwK N h k)) ∧ ∀ m : Nat, m < s.idxOf k → (s.map fun k => lineS (rwK N h k))[m]? ≠ some (lineS (rwK N h k)) := by
  obtain ⟨j, a, b, c⟩ := W.idx hn hk
  have e : s.idxOf k = j := by
    obtain ⟨l1, g1⟩ := List.getElem?_eq_some_iff.mp a
    obtain ⟨l2, g2⟩ := List.getElem?_eq_some_iff.mp (idx_at hk)
    exact ((List.getElem_inj W.nd (h₀ := l1) (h₁ := l2)).mp (g1.trans g2.symm)).symm
  rw [e]; exact ⟨b, c⟩
end
def lwF2 (K : PySem.W.Frag) : TS :=
 (tSeq (tIfS (tTest (tOp (rNeA K) (tCall (sp__law_row_told K) [] E0 (tCons (tBM K "str" (rJoin K) (tC (.str ("\n" : Str))) (tCons (tVar 5) tNil)) tNil)) (tCB (r_minL K) (tCons (tVar 11) tNil))))
 (tRet (tC (.bl false))) tNext)
 (lwG K))
theorem lw_F2 {D : Ends} {sc nm t sp p : Addr} {names : List Str} {c bb : Nat} {n : Int} {o6 o7 o8 o9 o10 : Option V} {s : List Nat} {js : List Int} (M : Nms H nm names) (h0 : 1 ≤ c) (hc : c ≤ 11) (hb : bb < c) (ps : s.Perm (List.range (c + 1))) (W : Wd (gd names) (h2 c bb) s)
    (ht : H t = some (.lst (strV (s.map fun k => lineS (rwK (gd names) (h2 c bb) k))))) (hs : H sp = some (.lst (js.map V.int)))
    (hA : ∀ k, bb ≤ k → k < c → (s.idxOf k : Int) ∈ js) (hB : ∀ j ∈ js, ∃ k, bb ≤ k ∧ k < c ∧ (s.idxOf k : Int) ≤ j) (q : ∀ H', D.rt (.bl true) H') :
    lwF2 K D [some (.ref sc), some (.int c), some (.ref nm), some (.int n), some (.ref p), some (.ref t), o6, o7, o8, o9, o10, some (.ref sp)] H := by
  have h13 : ∀ k ∈ List.range (c + 1), k < 13 := fun k hk => by have := List.mem_range.mp hk; omega
  have hn := nm_ok M ps h13
  have hms : ∀ k, k ∈ s ↔ k ≤ c := fun k => by rw [ps.mem_iff, List.mem_range]; omega
  have hsl : s.length = c + 1 := by rw [ps.length_eq, List.length_range]
  obtain ⟨m, ⟨k0, k1, k2, rfl⟩, hm⟩ := least (fun m => ∃ k, bb ≤ k ∧ k < c ∧ s.idxOf k = m) (s.idxOf bb) ⟨bb, by omega, hb, rfl⟩
  have hF : FstM (s.map (rwK (gd names) (h2 c bb))) (s.idxOf k0) := by
    have a0 := idx_at ((hms k0).mpr (by omega))
    obtain ⟨x, y⟩ := chain_back hb W.nd hms hsl a0 k1 k2 fun i a hi hia z => by
      have := hm _ ⟨a, z.1, z.2, rfl⟩
      have ea : s.idxOf a = i := by
        obtain ⟨l1, g1⟩ := List.getElem?_eq_some_iff.mp hia
        obtain ⟨l2, g2⟩ := List.getElem?_eq_some_iff.mp (idx_at (List.mem_of_getElem? hia))
        exact ((List.getElem_inj W.nd (h₀ := l1) (h₁ := l2)).mp (g1.trans g2.symm)).symm
      omega
    exact W.fst a0 x y
  unfold lwF2
  refine st_seq (st_if (st_test (st_op (lw_told rfl ht W hn (by omega) hF fun H5 s5 => ?_))))
  walk_at "step"
  refine v_minL (SqL.of (s5 _ _ hs)) (fun z => by have := hA bb (by omega) hb; rw [z] at this; cases this) fun j hj hmin => ?_
  have ej : (s.idxOf k0 : Int) = j := by
    have u1 := hmin _ (hA k0 k1 k2)
    obtain ⟨k, v1, v2, v3⟩ := hB j hj
    have := hm _ ⟨k, v1, v2, rfl⟩
    omega
  walk_at "step"
  rw [decide_eq_true ej]
  refine iteF ?_
  walk_at "step"
  exact lw_G (M.same s5) h0 hc q
@[reducible] def T_law_4 (K : PySem.W.Frag) : TS :=
 (tDrop (tBM K "list" rAppend (tVar 11) (tCons (tCB (r_max K) (tCons (tBM K "list" rIndexL (tVar 5) (tCons (tOp (rIxA K) (tVar 4) (tOp (rI0 fun i j => .int (i - j)) (tVar 10) (tC (.int 1)))) tNil)) (tCons (tBM K "list" rIndexL (tVar 5) (tCons (tOp (rIxA K) (tVar 4) (tUn (rU fun i => .int (-i)) (tC (.int 1)))) tNil)) tNil))) tNil)))
@[reducible] def T_law_10 (K : PySem.W.Frag) : TS :=
 (tSeq (tAsg (tComp [some 5, none] (iAny K (tSl (rSlA K) (tVar 4) (tPart (tVar 10)) tNoPart)) (gName 1) tTT (tBM K "list" rIndexL (tVar 0) (tCons (tVar 1) tNil))) (gName 11))
 (tSeq (tIfS (tTest (tOp rGtA (tVar 10) (tC (.int 0))))
 (T_law_4 K) tNext)
 (lwF2 K)))
def lwF (K : PySem.W.Frag) : TS :=
 (tSeq (tAsg (tCall (sp__law_turned K) [] E0 (tCons (tOp (rAddA K) (tVar 4) (tLst (tCons (tOp (rAddA K) (tOp (rIxA K) (tVar 2) (tVar 1)) (tC (.str (" plain" : Str)))) tNil))) (tCons (tVar 3) tNil))) (gName 5))
 (T_law_10 K))
def hvT (c b k : Nat) : Nat := if k + 1 < c then k + 1 else b
theorem hvT_some {c b k : Nat} (hk : k < c) : h2 c b k = some (hvT c b k) := by
  unfold hvT
  by_cases z : k + 1 < c
  · rw [if_pos z]; exact h2_some.mpr (.inl ⟨z, rfl⟩)
  · rw [if_neg z]; exact h2_some.mpr (.inr ⟨by omega, rfl⟩)
theorem lw_F {D : Ends} {sc nm p : Addr} {names : List Str} {c bb : Nat} {n : Int} {o5 o6 o7 o8 o9 o11 : Option V} (M : Nms H nm names) (h0 : 1 ≤ c) (hc : c ≤ 11) (hb : bb < c)
    (hp : H p = some (.lst (strV ((List.range c).map fun k => lnT names k (hvT c bb k))))) (q : ∀ H', D.rt (.bl true) H') :
    lwF K D [some (.ref sc), some (.int c), some (.ref nm), some (.int n), some (.ref p), o5, o6, o7, o8, o9, some (.int bb), o11] H := by
  unfold lwF
  generalize hL : ((List.range c).map fun k => lnT names k (hvT c bb k)) = L at *
  have hLl : L.length = c := by rw [← hL]; simp
  refine st_seq (st_asg (lw_turn (L := L) rfl rfl rfl rfl M (by omega) hp (by omega) fun t ys H4 hy s4 ht => ?_))
  have eF : ∀ k, k < c → lineS (rwK (gd names) (h2 c bb) k) = lnT names k (hvT c bb k) := fun k hk => line_frame (hvT_some hk)
  have eL : L ++ [lnP names c] = (List.range (c + 1)).map fun k => lineS (rwK (gd names) (h2 c bb) k) := by
    rw [List.range_succ, List.map_append, ← hL]
    refine congr (congrArg _ (List.map_congr_left fun k hk => (eF k (List.mem_range.mp hk)).symm)) ?_
    show [lnP names c] = [lineS _]
    rw [line_plain (by unfold h2; rw [if_neg (by omega), if_neg (by omega)])]; rfl
  rw [eL] at hy
  obtain ⟨s, ps, rfl⟩ := perm_map hy
  have h13 : ∀ k ∈ List.range (c + 1), k < 13 := fun k hk => by have := List.mem_range.mp hk; omega
  have W : Wd (gd names) (h2 c bb) s := wd_of M ps List.nodup_range h13 fun k hk j e => List.mem_range.mpr (by rcases h2_some.mp e with h | h <;> omega)
  have hn := nm_ok M ps h13
  have hms : ∀ k, k ∈ s ↔ k ≤ c := fun k => by rw [ps.mem_iff, List.mem_range]; omega
  have hat : ∀ k, k < c → L[k]? = some (lineS (rwK (gd names) (h2 c bb) k)) := fun k hk => by rw [← hL, List.getElem?_map, List.getElem?_range hk, eF k hk]; rfl
  have hp4 := s4 _ _ hp
  refine st_name ?_
  walk_at "step"
  refine v_slL (SqL.of hp4) fun p5 hp5 => ?_
  rw [cut_from (by rw [strV_len]; omega)]
  have s5 := Same.new hp5 (.lst ((strV L).drop bb))
  have e5 : (upd H4 p5 (.lst ((strV L).drop bb))) p5 = _ := upd_same
  generalize upd H4 p5 (.lst ((strV L).drop bb)) = H5 at *
  have ht5 := s5 _ _ ht
  have hdl : ((strV L).drop bb).length = c - bb := by rw [List.length_drop, strV_len, hLl]
  walk_at "step"
  refine any_compS (.inl (SqL.of e5)) Same.refl' (fun i ys H' => H' = H5 ∧ ys = (List.range i).map fun i => V.int ((s.idxOf (bb + i) : Nat) : Int)) ⟨rfl, rfl⟩ ?_ (fun i ys H' p => by rw [p.1]; exact Same.refl') ?_ ?_
  · rintro i ys H' hi ⟨_, rfl⟩
    rw [List.length_map, List.length_range]
    exact sl64 (by omega)
  · rintro i x ys H' hx ⟨rfl, rfl⟩
    have hi : i < c - bb := by rw [← hdl]; exact (List.getElem?_eq_some_iff.mp hx).1
    have ex : x = .str (lineS (rwK (gd names) (h2 c bb) (bb + i))) := by
      rw [List.getElem?_drop] at hx
      unfold strV at hx
      rw [List.getElem?_map, hat (bb + i) (by omega)] at hx
      exact (Option.some.inj hx).symm
    subst ex
    obtain ⟨x1, x2⟩ := W.at hn ((hms (bb + i)).mpr (by omega))
    walk_at "step"
    refine ⟨.inl ⟨rfl, _, SqL.of ht5⟩, ?_⟩
    walk_at "step"
    refine ⟨t, _, _, s.idxOf (bb + i), rfl, rfl, ht5, x1, x2, ?_⟩
    refine ⟨rfl, ?_⟩
    rw [List.range_succ, List.map_append]; rfl
  · rintro ys H' ⟨rfl, rfl⟩ p6 hp6
    rw [hdl]
    have ejs : ((List.range (c - bb)).map fun i => V.int ((s.idxOf (bb + i) : Nat) : Int)) = ((List.range (c - bb)).map fun i => ((s.idxOf (bb + i) : Nat) : Int)).map V.int := by rw [List.map_map]; rfl
    rw [ejs]
    generalize hjs : ((List.range (c - bb)).map fun i => ((s.idxOf (bb + i) : Nat) : Int)) = js
    have hA : ∀ k, bb ≤ k → k < c → (s.idxOf k : Int) ∈ js := fun k h1 h2 => by
      rw [← hjs]
      exact List.mem_map.mpr ⟨k - bb, List.mem_range.mpr (by omega), by rw [show bb + (k - bb) = k by omega]⟩
    have hB : ∀ j ∈ js, ∃ k, bb ≤ k ∧ k < c ∧ (s.idxOf k : Int) ≤ j := fun j hj => by
      rw [← hjs] at hj
      obtain ⟨i, hi, rfl⟩ := List.mem_map.mp hj
      exact ⟨bb + i, by omega, by have := List.mem_range.mp hi; omega, Int.le_refl _⟩
    have hjl : js.length = c - bb := by rw [← hjs]; simp
    have s6 := Same.new hp6 (.lst (js.map V.int))
    have e6 : (upd H' p6 (.lst (js.map V.int))) p6 = _ := upd_same
    generalize upd H' p6 (.lst (js.map V.int)) = H6 at *
    have ht6 := s6 _ _ ht5
    have hp46 := s6 _ _ (s5 _ _ hp4)
    have M6 := M.same (Same.tr s4 (Same.tr s5 s6))
    walk_at "step"
    by_cases hb0 : (0 : Int) < (bb : Int)
    · rw [decide_eq_true hb0]
      refine iteT ?_
      walk_at "step"
      refine ⟨.inl ⟨rfl, _, SqL.of e6⟩, ?_⟩
      walk_at "step"
      refine ⟨.inl ⟨rfl, _, SqL.of ht6⟩, ?_⟩
      walk_at "step"
      have z1 : (strV L)[bb - 1]? = some (.str (lineS (rwK (gd names) (h2 c bb) (bb - 1)))) := by
        unfold strV; rw [List.getElem?_map, hat (bb - 1) (by omega)]; rfl
      have z2 : (strV L)[(strV L).length - 1 - 0]? = some (.str (lineS (rwK (gd names) (h2 c bb) (c - 1)))) := by
        unfold strV; rw [List.length_map, List.getElem?_map, hLl, Nat.sub_zero, hat (c - 1) (by omega)]; rfl
      have zl : (strV L).length = c := by rw [strV_len, hLl]
      obtain ⟨x1, x2⟩ := W.at hn ((hms (bb - 1)).mpr (by omega))
      obtain ⟨y1, y2⟩ := W.at hn ((hms (c - 1)).mpr (by omega))
      refine v_ixL (SqL.of hp46) (v := .str (lineS (rwK (gd names) (h2 c bb) (bb - 1)))) (by rw [show ((bb : Int) - 1) = ((bb - 1 : Nat) : Int) by omega]; exact atI_nat z1) ?_
      walk_at "step"
      refine ⟨t, _, _, s.idxOf (bb - 1), rfl, rfl, ht6, x1, x2, ?_⟩
      walk_at "step"
      refine ⟨.inl ⟨rfl, _, SqL.of ht6⟩, ?_⟩
      walk_at "step"
      refine ⟨1, rfl, ?_⟩
      refine v_ixL (SqL.of hp46) (v := .str (lineS (rwK (gd names) (h2 c bb) (c - 1)))) (atI_back (j := 0) rfl (by omega) z2) ?_
      walk_at "step"
      refine ⟨t, _, _, s.idxOf (c - 1), rfl, rfl, ht6, y1, y2, ?_⟩
      walk_at "step"
      refine v_append e6 (by rw [List.length_map, hjl, sizeLine_eq]; omega) ?_
      have es : js.map V.int ++ [V.int (if (s.idxOf (c - 1) : Int) > s.idxOf (bb - 1) then (s.idxOf (c - 1) : Int) else s.idxOf (bb - 1))] = (js ++ [if (s.idxOf (c - 1) : Int) > s.idxOf (bb - 1) then (s.idxOf (c - 1) : Int) else s.idxOf (bb - 1)]).map V.int := by rw [List.map_append]; rfl
      rw [es]
      have np6 : ∀ {b : Addr} {u : HO}, H' b = some u → b ≠ p6 := fun g => ne_free g hp6
      refine lw_F2 (js := js ++ [if (s.idxOf (c - 1) : Int) > s.idxOf (bb - 1) then (s.idxOf (c - 1) : Int) else s.idxOf (bb - 1)]) ⟨by rw [upd_ne (np6 (s5 _ _ (s4 _ _ M.n)))]; exact M6.n, M.l, M.nd, M.ok⟩ h0 hc hb ps W (by rw [upd_ne (np6 ht5)]; exact ht6) upd_same (fun k h1 h2 => List.mem_append_left _ (hA k h1 h2)) (fun j hj => ?_) q
      rcases List.mem_append.mp hj with hj | hj
      · exact hB j hj
      · refine ⟨c - 1, by omega, by omega, ?_⟩
        rw [List.mem_singleton.mp hj]
        split <;> omega
    · rw [decide_eq_false hb0]
      refine iteF ?_
      walk_at "step"
      exact lw_F2 M6 h0 hc hb ps W ht6 e6 hA hB q
end My
namespace My
open PySem L2
variable {K : PySem.W.Frag} {vs : List V} {H : Hp} {Q : VK} {E : XK}
@[reducible] def T_law_12 (K : PySem.W.Frag) : TS :=
 (tSeq (tAsg (tOp (rAddA K) (tSl (rSlA K) (tVar 4) tNoPart (tPart (tUn (rU fun i => .int (-i)) (tC (.int 1))))) (tLst (tCons (tOp (rAddA K) (tOp (rAddA K) (tOp (rIxA K) (tVar 2) (tOp (rI0 fun i j => .int (i - j)) (tVar 1) (tC (.int 1)))) (tC (.str (" frame " : Str)))) (tOp (rIxA K) (tVar 2) (tVar 10))) tNil))) (gName 4))
 (lwF K))
def lwE (K : PySem.W.Frag) : TS :=
 (tSeq (tAsg (tOp (rI (fun _ j => 0 < j) fun i j => .int (i % j)) (tCall (sp__law_cell_at K) [] E0 (tCons (tVar 0) (tCons (tC (.int 4)) tNil))) (tVar 1)) (gName 10))
 (T_law_12 K))
theorem cut_last {vs : List V} (h : 1 ≤ vs.length) : cutV vs none (some (-1)) = vs.take (vs.length - 1) := by
  unfold cutV
  have e1 : HT.sIx vs.length 0 none = 0 := rfl
  have e2 : HT.sIx vs.length vs.length (some (-1)) = vs.length - 1 := by
    show (if (-1 : Int) < 0 then ((-1 : Int) + vs.length).toNat else min (-1 : Int).toNat vs.length) = _
    rw [if_pos (by decide)]; omega
  rw [e1, e2]; simp
theorem lw_E {D : Ends} {sc nm p : Addr} {ns : List Int} {names : List Str} {c : Nat} {n : Int} {o5 o6 o7 o8 o9 o10 o11 : Option V} (hsc : SqL K H sc (ns.map V.int)) (M : Nms H nm names) (h0 : 1 ≤ c) (hc : c ≤ 11)
    (hp : H p = some (.lst (strV ((List.range c).map fun k => lnT names k (k + 1))))) (q : ∀ H', D.rt (.bl true) H') :
    lwE K D [some (.ref sc), some (.int c), some (.ref nm), some (.int n), some (.ref p), o5, o6, o7, o8, o9, o10, o11] H := by
  unfold lwE
  have hc0 : (0 : Int) < c := by omega
  walk_at "step"
  refine ⟨sc, ns, 4, rfl, hsc, by decide, fun x => ?_⟩
  walk_at "step"
  have m0 := Int.emod_nonneg x (show (c : Int) ≠ 0 by omega)
  have m1 := Int.emod_lt_of_pos x hc0
  obtain ⟨bb, hbb⟩ : ∃ bb : Nat, x % (c : Int) = bb := ⟨(x % (c : Int)).toNat, by omega⟩
  rw [hbb] at m1 ⊢
  have hb : bb < c := by omega
  have hpl : (strV ((List.range c).map fun k => lnT names k (k + 1))).length = c := by rw [strV_len]; simp
  have l1 := M.len (c - 1)
  have l2 := M.len bb
  refine ⟨1, rfl, -1, rfl, ?_⟩
  refine v_slL (SqL.of hp) fun p2 hp2 => ?_
  rw [cut_last (by omega), hpl]
  have et : (strV ((List.range c).map fun k => lnT names k (k + 1))).take (c - 1) = strV ((List.range (c - 1)).map fun k => lnT names k (k + 1)) := by
    unfold strV
    rw [← List.map_take, ← List.map_take, List.take_range, Nat.min_eq_left (by omega)]
  rw [et]
  have s2 := Same.new hp2 (.lst (strV ((List.range (c - 1)).map fun k => lnT names k (k + 1))))
  have e2 : (upd H p2 (.lst (strV ((List.range (c - 1)).map fun k => lnT names k (k + 1))))) p2 = _ := upd_same
  generalize upd H p2 (.lst (strV ((List.range (c - 1)).map fun k => lnT names k (k + 1)))) = H2 at *
  have M2 := M.same s2
  walk_at "step"
  refine M2.at (k := c - 1) (by omega) (by omega) ?_
  walk_at "step"
  refine v_addS (sl64 (by show _ + 7 ≤ _; omega)) ?_
  walk_at "step"
  refine M2.at (k := bb) (by omega) rfl ?_
  refine v_addS (sl64 (by rw [strLen_append]; show _ + 7 + _ ≤ _; omega)) ?_
  walk_at "step"
  refine ⟨sl64 (by simp), fun p3 hp3 => ?_⟩
  have s3 := Same.new hp3 (.lst [.str (gd names (c - 1) ++ (" frame " : Str) ++ gd names bb)])
  have e3 : (upd H2 p3 (.lst [.str (gd names (c - 1) ++ (" frame " : Str) ++ gd names bb)])) p3 = _ := upd_same
  generalize upd H2 p3 (.lst [.str (gd names (c - 1) ++ (" frame " : Str) ++ gd names bb)]) = H3 at *
  refine v_cat (s3 _ _ e2) e3 (sl64 (by rw [strV_len]; simp; omega)) fun p4 hp4 => ?_
  have ec : strV ((List.range (c - 1)).map fun k => lnT names k (k + 1)) ++ [V.str (gd names (c - 1) ++ (" frame " : Str) ++ gd names bb)] = strV ((List.range c).map fun k => lnT names k (hvT c bb k)) := by
    rw [show c = (c - 1) + 1 by omega, List.range_succ, List.map_append, ← strV_cat, show c - 1 + 1 - 1 = c - 1 by omega]
    refine congr (congrArg _ (congrArg _ (List.map_congr_left fun k hk => ?_))) ?_
    · have := List.mem_range.mp hk
      unfold hvT; rw [if_pos (by omega)]
    · show _ = strV [lnT names (c - 1) (hvT (c - 1 + 1) bb (c - 1))]
      unfold hvT; rw [if_neg (by omega)]; rfl
  rw [ec]
  have s4 := Same.new hp4 (.lst (strV ((List.range c).map fun k => lnT names k (hvT c bb k))))
  walk_at "step"
  exact lw_F (M2.same (Same.tr s3 s4)) h0 hc hb upd_same q
end My
namespace My
open PySem L2
variable {K : PySem.W.Frag} {vs : List V} {H : Hp} {Q : VK} {E : XK}
theorem idxS : ∀ {l : List Str} {x : Str}, x ∈ l → l[l.idxOf x]? = some x
  | [], k, h => by cases h
  | x :: s, k, h => by
    rw [List.idxOf_cons]
    by_cases e : x = k
    · subst e; simp
    · rw [show (x == k) = false from beq_false_of_ne e]
      have h' : k ∈ s := by
        rcases List.mem_cons.mp h with z | z
        · exact absurd z.symm e
        · exact z
      show (x :: s)[s.idxOf k + 1]? = some k
      rw [List.getElem?_cons_succ]
      exact idxS h'
theorem Nms.rk {nm : Addr} {names : List Str} (M : Nms H nm names) {a : Nat} (ha : a < 13) : names.idxOf (gd names a) = a := by
  have hm := gd_mem (l := names) (i := a) (by rw [M.l]; exact ha)
  have e := idxS hm
  have hlt := (List.getElem?_eq_some_iff.mp e).1
  rw [M.l] at hlt
  have e2 := gd_get (l := names) (i := names.idxOf (gd names a)) (by rw [M.l]; exact hlt)
  rw [e] at e2
  exact M.inj hlt ha (Option.some.inj e2).symm
section
variable {nm : Addr} {names : List Str} {c : Nat} {s : List Nat}
theorem ch_frame (W : Wd (gd names) (h1 c) s) (hms : ∀ k, k ∈ s ↔ k ≤ c) {k : Nat} (hk : k ≤ c) : frameOf (s.map (rwK (gd names) (h1 c))) (some (gd names k)) = if k = 0 then none else some (gd names (k - 1)) := by
  rw [W.frame ((hms k).mpr hk)]
  by_cases z : k = 0
  · rw [if_pos z]
    have : s.find? (fun a => decide (h1 c a = some k)) = none := by
      rw [List.find?_eq_none]
      intro a _ q
      have := (h1_some.mp (of_decide_eq_true q)).2
      omega
    rw [this]; rfl
  · rw [if_neg z, find_uniq (k := k - 1) ((hms (k - 1)).mpr (by omega)) (decide_eq_true (h1_some.mpr ⟨by omega, by omega⟩)) fun a _ q => ?_]
    · rfl
    · have := (h1_some.mp (of_decide_eq_true q)).2; omega
theorem ch_falls (M : Nms H nm names) (hc : c ≤ 11) (W : Wd (gd names) (h1 c) s) (hms : ∀ k, k ∈ s ↔ k ≤ c) : Falls (s.map (rwK (gd names) (h1 c))) (fun x => names.idxOf x) := by
  intro x y e
  obtain ⟨r, hr, h1', h2', h3'⟩ := frameOf_some e
  obtain ⟨a, ha, rfl⟩ := List.mem_map.mp hr
  have hac := (hms a).mp ha
  rw [rwK_name] at h3'
  cases ea : h1 c a with
  | none =>
    have e0 : rwK (gd names) (h1 c) a = ⟨gd names a, ("plain" : Str), ("" : Str), [], []⟩ := by unfold rwK; rw [ea]
    rw [e0] at h1'
    exact absurd (show ("plain" : Str) = ("frame" : Str) from h1') (by decide)
  | some j =>
    have e0 : rwK (gd names) (h1 c) a = ⟨gd names a, ("frame" : Str), gd names j, [], []⟩ := by unfold rwK; rw [ea]
    rw [e0] at h2'
    have h2' : gd names j = x := h2'
    have := h1_some.mp ea
    show names.idxOf y < names.idxOf x
    rw [← h2', ← h3', M.rk (by omega), M.rk (by omega)]; omega
theorem ch_ups (M : Nms H nm names) (hc : c ≤ 11) (W : Wd (gd names) (h1 c) s) (hms : ∀ k, k ∈ s ↔ k ≤ c) {j : Nat} (hj : j ≤ c) : ∀ {k : Nat}, k ≤ c → (gd names j ∈ ups (s.map (rwK (gd names) (h1 c))) (names.idxOf (gd names k)) (some (gd names k)) ↔ j < k)
  | 0, hk => by
    rw [ups_nil (by rw [ch_frame W hms hk, if_pos rfl])]
    exact ⟨fun z => (by cases z), fun z => absurd z (by omega)⟩
  | k + 1, hk => by
    have e := ups_cons (ch_falls M hc W hms) (x := gd names (k + 1)) (y := gd names k) (by rw [ch_frame W hms hk, if_neg (by omega)]; rfl)
    have ih := ch_ups M hc W hms hj (k := k) (by omega)
    show gd names j ∈ ups _ ((fun x => names.idxOf x) (gd names (k + 1))) _ ↔ _
    rw [e, List.mem_cons, ih]
    constructor
    · rintro (z | z)
      · have := M.inj (by omega) (by omega) z; omega
      · omega
    · intro z
      by_cases q : j = k
      · exact .inl (by rw [q])
      · exact .inr (by omega)
end
@[reducible] def T_law_0 (K : PySem.W.Frag) : TS :=
 (tIfS (tOr (tNot (tB (tCB (rIsi K) (tCons (tVar 9) (tCons (tC (.ty "bool")) tNil))))) (tTest (tOp (rNeA K) (tVar 9) (tOp rLtA (tVar 8) (tVar 7)))))
 (tRet (tC (.bl false))) tNext)
def lwJ (K : PySem.W.Frag) : TS :=
 (tSeq (tAsg (tCall (sp_belongs K) [] E0 (tCons (tVar 6) (tCons (tOp (rIxA K) (tVar 2) (tVar 7)) (tCons (tOp (rIxA K) (tVar 2) (tVar 8)) tNil)))) (gName 9))
 (T_law_0 K))
theorem lw_J {D : Ends} {sc nm p t bk : Addr} {names : List Str} {c k j : Nat} {n : Int} {o9 o10 o11 : Option V} {s : List Nat} (M : Nms H nm names) (hc : c ≤ 11) (W : Wd (gd names) (h1 c) s) (hms : ∀ k, k ∈ s ↔ k ≤ c) (hB : Rws K H (.ref bk) (s.map (rwK (gd names) (h1 c)))) (hk : k ≤ c) (hj : j ≤ c)
    (q : ∀ o9 : Option V, D.nx [some (.ref sc), some (.int c), some (.ref nm), some (.int n), some (.ref p), some (.ref t), some (.ref bk), some (.int k), some (.int j), o9, o10, o11] H) :
    lwJ K D [some (.ref sc), some (.int c), some (.ref nm), some (.int n), some (.ref p), some (.ref t), some (.ref bk), some (.int k), some (.int j), o9, o10, o11] H := by
  unfold lwJ
  walk_at "step"
  refine M.at (k := k) (by omega) rfl ?_
  walk_at "step"
  refine M.at (k := j) (by omega) rfl ?_
  walk_at "step"
  refine ⟨.ref bk, gd names k, gd names j, _, fun x => names.idxOf x, rfl, hB, ch_falls M hc W hms, ?_⟩
  have e : decide (gd names j ∈ ups (s.map (rwK (gd names) (h1 c))) ((fun x => names.idxOf x) (gd names k)) (some (gd names k))) = decide (j < k) := by
    rw [decide_eq_decide]; exact ch_ups M hc W hms hj hk
  rw [e]
  walk_at "step"
  refine v_isi (.bl _) (b := true) rfl ?_
  walk_at "step"
  refine iteF ?_
  walk_at "step"
  have e2 : decide ((j : Int) < (k : Int)) = decide (j < k) := by rw [decide_eq_decide]; omega
  rw [e2]
  refine v_ne (by cases decide (j < k) <;> rfl) ?_
  rw [decide_eq_true rfl]
  refine ⟨_, rfl, iteF ?_⟩
  walk_at "step"
  exact q _
def lwB2 (K : PySem.W.Frag) : TS :=
 (tSeq (tIfS (tTest (tOp (rNeA K) (tCall (sp_frame_of K) [] E0 (tCons (tVar 6) (tCons (tOp (rIxA K) (tVar 2) (tVar 7)) tNil))) (tOp (rIxA K) (tOp (rAddA K) (tLst (tCons (tC .non) tNil)) (tVar 2)) (tVar 7))))
 (tRet (tC (.bl false))) tNext)
 (tFor (iRng1 (tCons (tOp (rAddA K) (tVar 1) (tC (.int 1))) tNil)) (gName 8)
 (lwJ K)))
theorem lw_B2 {D : Ends} {sc nm p t bk : Addr} {names : List Str} {c k : Nat} {n : Int} {o8 o9 o10 o11 : Option V} {s : List Nat} (M : Nms H nm names) (hc : c ≤ 11) (W : Wd (gd names) (h1 c) s) (hms : ∀ k, k ∈ s ↔ k ≤ c) (hB : ∀ H', Same H H' → Rws K H' (.ref bk) (s.map (rwK (gd names) (h1 c)))) (hk : k ≤ c)
    (q : ∀ (o8 o9 : Option V) H', Same H H' → D.nx [some (.ref sc), some (.int c), some (.ref nm), some (.int n), some (.ref p), some (.ref t), some (.ref bk), some (.int k), o8, o9, o10, o11] H') :
    lwB2 K D [some (.ref sc), some (.int c), some (.ref nm), some (.int n), some (.ref p), some (.ref t), some (.ref bk), some (.int k), o8, o9, o10, o11] H := by
  unfold lwB2
  walk_at "step"
  refine M.at (k := k) (by omega) rfl ?_
  walk_at "step"
  refine ⟨.ref bk, some (gd names k), _, rfl, hB H Same.refl', ?_⟩
  rw [ch_frame W hms hk]
  walk_at "step"
  refine ⟨sl64 (by simp), fun p1 hp1 => ?_⟩
  have s1 := Same.new hp1 (.lst [.non])
  have e1 : (upd H p1 (.lst [.non])) p1 = some (.lst [.non]) := upd_same
  generalize upd H p1 (.lst [.non]) = H1 at *
  have M1 := M.same s1
  walk_at "step"
  refine v_cat e1 M1.n (sl64 (by rw [strV_len, M.l]; decide)) fun p2 hp2 => ?_
  have s2 := Same.new hp2 (.lst ([.non] ++ strV names))
  have e2 : (upd H1 p2 (.lst ([.non] ++ strV names))) p2 = _ := upd_same
  generalize upd H1 p2 (.lst ([.non] ++ strV names)) = H2 at *
  have s02 := Same.tr s1 s2
  walk_at "step"
  have ev : ([V.non] ++ strV names)[k]? = some (oV (if k = 0 then none else some (gd names (k - 1)))) := by
    cases k with
    | zero => rfl
    | succ k =>
      rw [if_neg (by omega)]
      show (strV names)[k]? = some (.str (gd names k))
      unfold strV
      rw [List.getElem?_map, gd_get (by rw [M.l]; omega)]; rfl
  refine v_ixL (SqL.of e2) (atI_nat ev) ?_
  refine v_ne (by cases k <;> rfl) ?_
  rw [decide_eq_true rfl]
  walk_at "step"
  refine iteF ?_
  walk_at "step"
  refine rng1_for (n := (c : Int) + 1) (by omega) (by omega) (fun i σ H' => Same H2 H' ∧ ∃ o8 o9 : Option V, σ = [some (.ref sc), some (.int c), some (.ref nm), some (.int n), some (.ref p), some (.ref t), some (.ref bk), some (.int k), o8, o9, o10, o11]) ⟨Same.refl', _, _, rfl⟩ ?_ ?_
  · rintro i σ H' hi ⟨s3, o8, o9, rfl⟩
    refine st_name ?_
    exact lw_J (M.same (Same.tr s02 s3)) hc W hms (hB _ (Same.tr s02 s3)) hk (by omega) fun o9 => ⟨s3, _, _, rfl⟩
  · rintro σ H' ⟨s3, o8, o9, rfl⟩
    exact q _ _ _ (Same.tr s02 s3)
def lwB (K : PySem.W.Frag) : TS :=
 (tSeq (tIfS (tTest (tOp (rNeA K) (tCall (sp_host_of K) [] E0 (tCons (tVar 6) (tCons (tOp (rIxA K) (tVar 2) (tVar 7)) tNil))) (tOp (rIxA K) (tOp (rAddA K) (tVar 2) (tLst (tCons (tC .non) tNil))) (tOp (rIxA K) (tLst (tCons (tOp (rAddA K) (tVar 7) (tC (.int 1))) (tCons (tC (.int 13)) tNil))) (tCB rIntA (tCons (tOp (rEqA K) (tVar 7) (tVar 1)) tNil))))))
 (tRet (tC (.bl false))) tNext)
 (lwB2 K))
theorem lw_B {D : Ends} {sc nm p t bk : Addr} {names : List Str} {c k : Nat} {n : Int} {o8 o9 o10 o11 : Option V} {s : List Nat} (M : Nms H nm names) (hc : c ≤ 11) (W : Wd (gd names) (h1 c) s) (hms : ∀ k, k ∈ s ↔ k ≤ c) (hB : ∀ H', Same H H' → Rws K H' (.ref bk) (s.map (rwK (gd names) (h1 c)))) (hk : k ≤ c)
    (q : ∀ (o8 o9 : Option V) H', Same H H' → D.nx [some (.ref sc), some (.int c), some (.ref nm), some (.int n), some (.ref p), some (.ref t), some (.ref bk), some (.int k), o8, o9, o10, o11] H') :
    lwB K D [some (.ref sc), some (.int c), some (.ref nm), some (.int n), some (.ref p), some (.ref t), some (.ref bk), some (.int k), o8, o9, o10, o11] H := by
  unfold lwB
  walk_at "step"
  refine M.at (k := k) (by omega) rfl ?_
  walk_at "step"
  refine ⟨.ref bk, some (gd names k), _, rfl, hB H Same.refl', ?_⟩
  rw [W.host ((hms k).mpr hk)]
  walk_at "step"
  refine ⟨sl64 (by simp), fun p1 hp1 => ?_⟩
  have s1 := Same.new hp1 (.lst [.non])
  have e1 : (upd H p1 (.lst [.non])) p1 = some (.lst [.non]) := upd_same
  generalize upd H p1 (.lst [.non]) = H1 at *
  have M1 := M.same s1
  refine v_cat M1.n e1 (sl64 (by rw [strV_len, M.l]; decide)) fun p2 hp2 => ?_
  have s2 := Same.new hp2 (.lst (strV names ++ [.non]))
  have e2 : (upd H1 p2 (.lst (strV names ++ [.non]))) p2 = _ := upd_same
  generalize upd H1 p2 (.lst (strV names ++ [.non])) = H2 at *
  walk_at "step"
  refine ⟨sl64 (by simp), fun p3 hp3 => ?_⟩
  have s3 := Same.new hp3 (.lst [.int ((k : Int) + 1), .int 13])
  have e3 : (upd H2 p3 (.lst [.int ((k : Int) + 1), .int 13])) p3 = _ := upd_same
  generalize upd H2 p3 (.lst [.int ((k : Int) + 1), .int 13]) = H3 at *
  have e23 := s3 _ _ e2
  have s03 := Same.tr (Same.tr s1 s2) s3
  have fin : ∀ (D' : Ends), (∀ (o8 o9 : Option V) H', Same H H' → D'.nx [some (.ref sc), some (.int c), some (.ref nm), some (.int n), some (.ref p), some (.ref t), some (.ref bk), some (.int k), o8, o9, o10, o11] H') → lwB2 K D' [some (.ref sc), some (.int c), some (.ref nm), some (.int n), some (.ref p), some (.ref t), some (.ref bk), some (.int k), o8, o9, o10, o11] H3 := fun D' qd =>
    lw_B2 (M.same s03) hc W hms (fun H' s' => hB H' (Same.tr s03 s')) hk fun o8 o9 H' s' => qd _ _ _ (Same.tr s03 s')
  walk_at "step"
  refine .inr ⟨_, rfl, ?_⟩
  by_cases z : (k : Int) = c
  · rw [decide_eq_true z]
    refine v_ixL (SqL.of e3) (v := .int 13) (atI_nat (j := 1) rfl) ?_
    refine v_ixL (SqL.of e23) (v := .non) (atI_nat (j := 13) (by rw [List.getElem?_append_right (by rw [strV_len, M.l]; decide), strV_len, M.l]; rfl)) ?_
    have en : h1 c k = none := by unfold h1; rw [if_neg (by omega)]
    rw [en]
    refine v_ne rfl ?_
    have ed : decide (oV (Option.map (gd names) none) = V.non) = true := decide_eq_true rfl
    rw [ed]
    refine ⟨_, rfl, iteF ?_⟩
    walk_at "step"
    exact fin _ q
  · rw [decide_eq_false z]
    refine v_ixL (SqL.of e3) (v := .int ((k : Int) + 1)) (atI_nat (j := 0) rfl) ?_
    refine v_ixL (SqL.of e23) (v := .str (gd names (k + 1))) (by rw [show ((k : Int) + 1) = ((k + 1 : Nat) : Int) by omega]; exact atI_nat (by rw [List.getElem?_append_left (by rw [strV_len, M.l]; omega)]; unfold strV; rw [List.getElem?_map, gd_get (by rw [M.l]; omega)]; rfl)) ?_
    have en : h1 c k = some (k + 1) := h1_some.mpr ⟨by omega, rfl⟩
    rw [en]
    refine v_ne rfl ?_
    have ed : decide (oV (Option.map (gd names) (some (k + 1))) = V.str (gd names (k + 1))) = true := decide_eq_true rfl
    rw [ed]
    refine ⟨_, rfl, iteF ?_⟩
    walk_at "step"
    exact fin _ q
end My
namespace My
open PySem L2
variable {K : PySem.W.Frag} {vs : List V} {H : Hp} {Q : VK} {E : XK}
def lwD (K : PySem.W.Frag) : TS :=
 (tSeq (tFor (iRng1 (tCons (tOp (rAddA K) (tVar 1) (tC (.int 1))) tNil)) (gName 7)
 (lwB K))
 (lwE K))
theorem lw_D {D : Ends} {sc nm p t bk : Addr} {ns : List Int} {names : List Str} {c : Nat} {n : Int} {o7 o8 o9 o10 o11 : Option V} {s : List Nat} (hsc : SqL K H sc (ns.map V.int)) (M : Nms H nm names) (h0 : 1 ≤ c) (hc : c ≤ 11) (W : Wd (gd names) (h1 c) s) (hms : ∀ k, k ∈ s ↔ k ≤ c)
    (hB : ∀ H', Same H H' → Rws K H' (.ref bk) (s.map (rwK (gd names) (h1 c)))) (hp : H p = some (.lst (strV ((List.range c).map fun k => lnT names k (k + 1))))) (q : ∀ H', D.rt (.bl true) H') :
    lwD K D [some (.ref sc), some (.int c), some (.ref nm), some (.int n), some (.ref p), some (.ref t), some (.ref bk), o7, o8, o9, o10, o11] H := by
  unfold lwD
  walk_at "step"
  refine rng1_for (n := (c : Int) + 1) (by omega) (by omega) (fun i σ H' => Same H H' ∧ ∃ o7 o8 o9 : Option V, σ = [some (.ref sc), some (.int c), some (.ref nm), some (.int n), some (.ref p), some (.ref t), some (.ref bk), o7, o8, o9, o10, o11]) ⟨Same.refl', _, _, _, rfl⟩ ?_ ?_
  · rintro i σ H' hi ⟨s3, o7, o8, o9, rfl⟩
    refine st_name ?_
    exact lw_B (M.same s3) hc W hms (fun H'' s' => hB H'' (Same.tr s3 s')) (by omega) fun o8 o9 H'' s' => ⟨Same.tr s3 s', _, _, _, rfl⟩
  · rintro σ H' ⟨s3, o7, o8, o9, rfl⟩
    exact lw_E (s3.sqL hsc) (M.same s3) h0 hc (s3 _ _ hp) q
@[reducible] def T_law_15 (K : PySem.W.Frag) : TS :=
 (tSeq (tIfS (tTest (tOp (rNeA K) (tCB (rLenA K) (tCons (tVar 6) tNil)) (tOp (rAddA K) (tVar 1) (tC (.int 1)))))
 (tRet (tC (.bl false))) tNext)
 (lwD K))
@[reducible] def T_law_16 (K : PySem.W.Frag) : TS :=
 (tSeq (tAsg (tCall (sp_read_book K) [] E0 (tCons (tBM K "str" (rJoin K) (tC (.str ("\n" : Str))) (tCons (tVar 5) tNil)) tNil)) (gName 6))
 (T_law_15 K))
@[reducible] def T_law_17 (K : PySem.W.Frag) : TS :=
 (tSeq (tAsg (tCall (sp__law_turned K) [] E0 (tCons (tOp (rAddA K) (tVar 4) (tLst (tCons (tOp (rAddA K) (tOp (rIxA K) (tVar 2) (tVar 1)) (tC (.str (" plain" : Str)))) tNil))) (tCons (tVar 3) tNil))) (gName 5))
 (T_law_16 K))
def lwC (K : PySem.W.Frag) : TS :=
 (tSeq (tAsg (tComp [some 2, none] (iRng1 (tCons (tVar 1) tNil)) (gName 1) tTT (tOp (rAddA K) (tOp (rAddA K) (tOp (rIxA K) (tVar 0) (tVar 1)) (tC (.str (" frame " : Str)))) (tOp (rIxA K) (tVar 0) (tOp (rAddA K) (tVar 1) (tC (.int 1)))))) (gName 4))
 (T_law_17 K))
theorem lw_C {D : Ends} {sc nm : Addr} {ns : List Int} {names : List Str} {c : Nat} {n : Int} {o4 o5 o6 o7 o8 o9 o10 o11 : Option V} (hsc : SqL K H sc (ns.map V.int)) (M : Nms H nm names) (h0 : 1 ≤ c) (hc : c ≤ 11) (q : ∀ H', D.rt (.bl true) H') :
    lwC K D [some (.ref sc), some (.int c), some (.ref nm), some (.int n), o4, o5, o6, o7, o8, o9, o10, o11] H := by
  unfold lwC
  refine st_seq (st_asg (ln_comp rfl rfl M hc fun p hp => ?_))
  generalize hL : ((List.range c).map fun k => lnT names k (k + 1)) = L at *
  have hLl : L.length = c := by rw [← hL]; simp
  have s1 := Same.new hp (.lst (strV L))
  have e1 : (upd H p (.lst (strV L))) p = _ := upd_same
  generalize upd H p (.lst (strV L)) = H1 at *
  refine st_name ?_
  refine st_seq (st_asg (lw_turn (L := L) rfl rfl rfl rfl (M.same s1) (by omega) e1 (by omega) fun t ys H4 hy s4 ht => ?_))
  have eL : L ++ [lnP names c] = (List.range (c + 1)).map fun k => lineS (rwK (gd names) (h1 c) k) := by
    rw [List.range_succ, List.map_append, ← hL]
    refine congr (congrArg _ (List.map_congr_left fun k hk => (line_frame (h1_some.mpr ⟨List.mem_range.mp hk, rfl⟩)).symm)) ?_
    show [lnP names c] = [lineS _]
    rw [line_plain (by unfold h1; rw [if_neg (by omega)])]; rfl
  rw [eL] at hy
  obtain ⟨s, ps, rfl⟩ := perm_map hy
  have h13 : ∀ k ∈ List.range (c + 1), k < 13 := fun k hk => by have := List.mem_range.mp hk; omega
  have W : Wd (gd names) (h1 c) s := wd_of M ps List.nodup_range h13 fun k hk j e => List.mem_range.mpr (by have := h1_some.mp e; omega)
  have hn := nm_ok M ps h13
  have hms : ∀ k, k ∈ s ↔ k ≤ c := fun k => by rw [ps.mem_iff, List.mem_range]; omega
  have hsl : s.length = c + 1 := by rw [ps.length_eq, List.length_range]
  have hll : (s.map (rwK (gd names) (h1 c))).length ≤ 12 := by rw [List.length_map]; omega
  have s14 := Same.tr s1 s4
  refine st_name ?_
  refine st_seq (st_asg (st_call (st_cons (st_bm (st_C ?_)))))
  refine ⟨rfl, ?_⟩
  refine st_cons (st_var rfl (st_nil ?_))
  refine ⟨_, t, s.map fun k => lineS (rwK (gd names) (h1 c) k), rfl, rfl, .inl (SqL.of ht), ?_, ?_⟩
  · rw [← lines_K]; exact lines_room (W.good hn) hll (lines_S _)
  rw [txt_join]
  refine st_nil ?_
  refine ⟨_, s.map (rwK (gd names) (h1 c)), s.map fun k => lineS (rwK (gd names) (h1 c) k), rfl, hll, W.good hn, W.small hn, W.misN (chain_ok hms), by rw [← lines_K]; exact lines_S _, rfl, fun bk us H5 s5 hbk hd => ?_⟩
  have hul : us.length = c + 1 := by have := hd.length; rw [List.length_map, List.length_map, hsl] at this; exact this
  have s15 := Same.tr s14 s5
  refine st_name ?_
  walk_at "step"
  refine v_lenQ (.inr (SqT.of hbk)) ?_
  rw [hul]
  walk_at "step"
  have ed : (((c + 1 : Nat) : Int)) = (c : Int) + 1 := by omega
  rw [decide_eq_true ed]
  refine iteF ?_
  walk_at "step"
  exact lw_D (s15.sqL hsc) (M.same s15) h0 hc W hms (fun H' s' => ⟨bk, us, rfl, .inr (s'.sqT (SqT.of hbk)), Dvs.same s' _ _ hd⟩) (by rw [hL]; exact s5 _ _ (s4 _ _ e1)) q
@[reducible] def T_law_19 (K : PySem.W.Frag) : TS :=
 (tSeq (tAsg (tCall (sp__law_cell_at K) [] E0 (tCons (tVar 0) (tCons (tC (.int 3)) tNil))) (gName 3))
 (lwC K))
@[reducible] def T_law_20 (K : PySem.W.Frag) : TS :=
 (tSeq (tAsg (tCall (sp__law_names K) [] E0 (tCons (tCall (sp__law_cell_at K) [] E0 (tCons (tVar 0) (tCons (tC (.int 0)) tNil))) (tCons (tCall (sp__law_cell_at K) [] E0 (tCons (tVar 0) (tCons (tC (.int 1)) tNil))) (tCons (tC (.int 13)) tNil)))) (gName 2))
 (T_law_19 K))
def sp_law (K : PySem.W.Frag) : Sp := fun vs H Q _ => ∃ (a : Addr) (ns : List Int), vs = [.ref a] ∧ SqL K H a (ns.map V.int) ∧ ns.length ≤ 63 ∧ ∀ H', Q (.bl true) H'
theorem len_law (K : PySem.W.Frag) : ∀ vs H Q E, sp_law K vs H Q E → vs.length = ["_law_script"].length := by rintro vs H Q E ⟨a, ns, rfl, _⟩; rfl
def R_law (K : PySem.W.Frag) : TS :=
 (tSeq (tAsg (tOp (rAddA K) (tC (.int 1)) (tOp (rI (fun _ j => 0 < j) fun i j => .int (i % j)) (tCall (sp__law_cell_at K) [] E0 (tCons (tVar 0) (tCons (tC (.int 2)) tNil))) (tC (.int 11)))) (gName 1))
 (T_law_20 K))
theorem rd_law (h : sp_law K vs H Q E) : R_law K { nx := fun _ H' => Q .non H', rt := Q } (start ["_law_script", "_law_count", "_law_names_here", "_law_number", "_law_lines", "_law_rows", "_law_book", "_law_k", "_law_j", "_law_found", "_law_back", "_law_spots"] vs) H := by
  obtain ⟨sc, ns, rfl, hsc, _, q⟩ := h
  show R_law K _ [some (.ref sc), none, none, none, none, none, none, none, none, none, none, none] H
  unfold R_law
  walk_at "step"
  refine ⟨sc, ns, 2, rfl, hsc, by decide, fun c2 => ?_⟩
  walk_at "step"
  have m0 := Int.emod_nonneg c2 (show (11 : Int) ≠ 0 by decide)
  have m1 := Int.emod_lt_of_pos c2 (show (0 : Int) < 11 by decide)
  obtain ⟨c, hc'⟩ : ∃ c : Nat, 1 + c2 % 11 = (c : Int) := ⟨(1 + c2 % 11).toNat, by omega⟩
  have h0 : 1 ≤ c := by omega
  have hc : c ≤ 11 := by omega
  rw [hc']
  refine ⟨sc, ns, 0, rfl, hsc, by decide, fun c0 => ?_⟩
  walk_at "step"
  refine ⟨sc, ns, 1, rfl, hsc, by decide, fun c1 => ?_⟩
  walk_at "step"
  refine ⟨c0, c1, 13, rfl, by decide, by decide, fun nm names H1 s1 _ hnm hl nd hk => ?_⟩
  have M : Nms H1 nm names := ⟨hnm, by omega, nd, hk⟩
  walk_at "step"
  refine ⟨sc, ns, 3, rfl, s1.sqL hsc, by decide, fun n => ?_⟩
  walk_at "step"
  exact lw_C (s1.sqL hsc) M h0 hc q
end My
namespace My
open PySem L2 PyProof.Rows
set_option maxHeartbeats 0
def top (i : Nat) : Stmt := PySem.Challenge.pw_tagmend_k07_frames_within_frames.main.body.getD i (.Pass ⟨0, 0, 0, 0⟩)
def clsAt (s : Stmt) (j : Nat) : Stmt := match s with
  | .ClassDef _ _ _ b _ _ _ _ _ _ _ => b.getD j (.Pass ⟨0, 0, 0, 0⟩)
  | _ => .Pass ⟨0, 0, 0, 0⟩
abbrev s_is_name : Stmt := top 12
abbrev s_has_letters_of_name : Stmt := top 13
abbrev s_is_rising : Stmt := top 14
abbrev s_row_of : Stmt := top 15
abbrev s_sort_of : Stmt := top 16
abbrev s_host_of : Stmt := top 17
abbrev s_frame_of : Stmt := top 18
abbrev s_belongs : Stmt := top 19
abbrev s_first_misfit : Stmt := top 20
abbrev s_first_rows : Stmt := top 21
abbrev s_fits : Stmt := top 22
abbrev s_host_fits : Stmt := top 23
abbrev s_comes_back : Stmt := top 24
abbrev s_shuts_fit : Stmt := top 25
abbrev s_bars_fit : Stmt := top 26
abbrev s_may_be_named : Stmt := top 27
abbrev s_read_book : Stmt := top 33
abbrev s_read_rows : Stmt := top 34
abbrev s_read_row : Stmt := top 35
abbrev s_names_behind : Stmt := top 36
abbrev s_words_for : Stmt := top 37
abbrev s__law_cell_at : Stmt := top 39
abbrev s__law_pot : Stmt := top 40
abbrev s__law_take : Stmt := top 41
abbrev s__law_names : Stmt := top 42
abbrev s__law_turned : Stmt := top 43
abbrev s__law_row_told : Stmt := top 44
abbrev s_law : Stmt := top 45
abbrev s_i_NoBook : Stmt := clsAt (top 31) 0
set_option genInjectivity false in
set_option genSizeOf false in
structure Adr where
  a_is_name : Addr
  d_is_name : FuncData
  a_has_letters_of_name : Addr
  d_has_letters_of_name : FuncData
  a_is_rising : Addr
  d_is_rising : FuncData
  a_row_of : Addr
  d_row_of : FuncData
  a_sort_of : Addr
  d_sort_of : FuncData
  a_host_of : Addr
  d_host_of : FuncData
  a_frame_of : Addr
  d_frame_of : FuncData
  a_belongs : Addr
  d_belongs : FuncData
  a_first_misfit : Addr
  d_first_misfit : FuncData
  a_first_rows : Addr
  d_first_rows : FuncData
  a_fits : Addr
  d_fits : FuncData
  a_host_fits : Addr
  d_host_fits : FuncData
  a_comes_back : Addr
  d_comes_back : FuncData
  a_shuts_fit : Addr
  d_shuts_fit : FuncData
  a_bars_fit : Addr
  d_bars_fit : FuncData
  a_may_be_named : Addr
  d_may_be_named : FuncData
  a_read_book : Addr
  d_read_book : FuncData
  a_read_rows : Addr
  d_read_rows : FuncData
  a_read_row : Addr
  d_read_row : FuncData
  a_names_behind : Addr
  d_names_behind : FuncData
  a_words_for : Addr
  d_words_for : FuncData
  a__law_cell_at : Addr
  d__law_cell_at : FuncData
  a__law_pot : Addr
  d__law_pot : FuncData
  a__law_take : Addr
  d__law_take : FuncData
  a__law_names : Addr
  d__law_names : FuncData
  a__law_turned : Addr
  d__law_turned : FuncData
  a__law_row_told : Addr
  d__law_row_told : FuncData
  a_law : Addr
  d_law : FuncData
  a_i_NoBook : Addr
  d_i_NoBook : FuncData
  c_SORTS : Addr
  c_HOST_SORTS : Addr
  c_SHUT_OR_BARRED_SORTS : Addr
  c_KEYWORDS : Addr
  v_LONGEST_NAME : Value
  v_MOST_ROWS : Value
  v_NAME : Value
  v_SORT : Value
  v_HOST : Value
  v_SHUTS : Value
  v_BARS : Value
  k_NoBook : Addr
  k_TagError : Addr
structure Txt (K : PySem.W.Frag) (mg : Str → Option Value) (t : Adr) : Prop where
  F_is_name : Fun K "is_name" "is_name" s_is_name t.a_is_name t.d_is_name
  b_is_name : Binds K t.d_is_name ["word"] []
  m_is_name : mg "is_name" = some (.ref t.a_is_name)
  F_has_letters_of_name : Fun K "has_letters_of_name" "has_letters_of_name" s_has_letters_of_name t.a_has_letters_of_name t.d_has_letters_of_name
  b_has_letters_of_name : Binds K t.d_has_letters_of_name ["word"] []
  m_has_letters_of_name : mg "has_letters_of_name" = some (.ref t.a_has_letters_of_name)
  F_is_rising : Fun K "is_rising" "is_rising" s_is_rising t.a_is_rising t.d_is_rising
  b_is_rising : Binds K t.d_is_rising ["names"] []
  m_is_rising : mg "is_rising" = some (.ref t.a_is_rising)
  F_row_of : Fun K "row_of" "row_of" s_row_of t.a_row_of t.d_row_of
  b_row_of : Binds K t.d_row_of ["rows", "name"] []
  m_row_of : mg "row_of" = some (.ref t.a_row_of)
  F_sort_of : Fun K "sort_of" "sort_of" s_sort_of t.a_sort_of t.d_sort_of
  b_sort_of : Binds K t.d_sort_of ["book", "name"] []
  m_sort_of : mg "sort_of" = some (.ref t.a_sort_of)
  F_host_of : Fun K "host_of" "host_of" s_host_of t.a_host_of t.d_host_of
  b_host_of : Binds K t.d_host_of ["book", "name"] []
  m_host_of : mg "host_of" = some (.ref t.a_host_of)
  F_frame_of : Fun K "frame_of" "frame_of" s_frame_of t.a_frame_of t.d_frame_of
  b_frame_of : Binds K t.d_frame_of ["book", "name"] []
  m_frame_of : mg "frame_of" = some (.ref t.a_frame_of)
  F_belongs : Fun K "belongs" "belongs" s_belongs t.a_belongs t.d_belongs
  b_belongs : Binds K t.d_belongs ["book", "name", "frame"] []
  m_belongs : mg "belongs" = some (.ref t.a_belongs)
  F_first_misfit : Fun K "first_misfit" "first_misfit" s_first_misfit t.a_first_misfit t.d_first_misfit
  b_first_misfit : Binds K t.d_first_misfit ["rows"] []
  m_first_misfit : mg "first_misfit" = some (.ref t.a_first_misfit)
  F_first_rows : Fun K "first_rows" "first_rows" s_first_rows t.a_first_rows t.d_first_rows
  b_first_rows : Binds K t.d_first_rows ["rows"] []
  m_first_rows : mg "first_rows" = some (.ref t.a_first_rows)
  F_fits : Fun K "fits" "fits" s_fits t.a_fits t.d_fits
  b_fits : Binds K t.d_fits ["rows", "row"] []
  m_fits : mg "fits" = some (.ref t.a_fits)
  F_host_fits : Fun K "host_fits" "host_fits" s_host_fits t.a_host_fits t.d_host_fits
  b_host_fits : Binds K t.d_host_fits ["rows", "row"] []
  m_host_fits : mg "host_fits" = some (.ref t.a_host_fits)
  F_comes_back : Fun K "comes_back" "comes_back" s_comes_back t.a_comes_back t.d_comes_back
  b_comes_back : Binds K t.d_comes_back ["rows", "name"] []
  m_comes_back : mg "comes_back" = some (.ref t.a_comes_back)
  F_shuts_fit : Fun K "shuts_fit" "shuts_fit" s_shuts_fit t.a_shuts_fit t.d_shuts_fit
  b_shuts_fit : Binds K t.d_shuts_fit ["rows", "row"] []
  m_shuts_fit : mg "shuts_fit" = some (.ref t.a_shuts_fit)
  F_bars_fit : Fun K "bars_fit" "bars_fit" s_bars_fit t.a_bars_fit t.d_bars_fit
  b_bars_fit : Binds K t.d_bars_fit ["rows", "row"] []
  m_bars_fit : mg "bars_fit" = some (.ref t.a_bars_fit)
  F_may_be_named : Fun K "may_be_named" "may_be_named" s_may_be_named t.a_may_be_named t.d_may_be_named
  b_may_be_named : Binds K t.d_may_be_named ["rows", "names"] []
  m_may_be_named : mg "may_be_named" = some (.ref t.a_may_be_named)
  F_read_book : Fun K "read_book" "read_book" s_read_book t.a_read_book t.d_read_book
  b_read_book : Binds K t.d_read_book ["text"] []
  m_read_book : mg "read_book" = some (.ref t.a_read_book)
  F_read_rows : Fun K "read_rows" "read_rows" s_read_rows t.a_read_rows t.d_read_rows
  b_read_rows : Binds K t.d_read_rows ["text"] []
  m_read_rows : mg "read_rows" = some (.ref t.a_read_rows)
  F_read_row : Fun K "read_row" "read_row" s_read_row t.a_read_row t.d_read_row
  b_read_row : Binds K t.d_read_row ["words"] []
  m_read_row : mg "read_row" = some (.ref t.a_read_row)
  F_names_behind : Fun K "names_behind" "names_behind" s_names_behind t.a_names_behind t.d_names_behind
  b_names_behind : Binds K t.d_names_behind ["keyword", "words"] []
  m_names_behind : mg "names_behind" = some (.ref t.a_names_behind)
  F_words_for : Fun K "words_for" "words_for" s_words_for t.a_words_for t.d_words_for
  b_words_for : Binds K t.d_words_for ["names"] []
  m_words_for : mg "words_for" = some (.ref t.a_words_for)
  F__law_cell_at : Fun K "_law_cell_at" "_law_cell_at" s__law_cell_at t.a__law_cell_at t.d__law_cell_at
  b__law_cell_at : Binds K t.d__law_cell_at ["_law_script", "_law_k"] []
  m__law_cell_at : mg "_law_cell_at" = some (.ref t.a__law_cell_at)
  F__law_pot : Fun K "_law_pot" "_law_pot" s__law_pot t.a__law_pot t.d__law_pot
  b__law_pot : Binds K t.d__law_pot ["_law_cell"] []
  m__law_pot : mg "_law_pot" = some (.ref t.a__law_pot)
  F__law_take : Fun K "_law_take" "_law_take" s__law_take t.a__law_take t.d__law_take
  b__law_take : Binds K t.d__law_take ["_law_pot_here", "_law_most"] []
  m__law_take : mg "_law_take" = some (.ref t.a__law_take)
  F__law_names : Fun K "_law_names" "_law_names" s__law_names t.a__law_names t.d__law_names
  b__law_names : Binds K t.d__law_names ["_law_cell", "_law_where", "_law_lots"] []
  m__law_names : mg "_law_names" = some (.ref t.a__law_names)
  F__law_turned : Fun K "_law_turned" "_law_turned" s__law_turned t.a__law_turned t.d__law_turned
  b__law_turned : Binds K t.d__law_turned ["_law_lines", "_law_cell"] []
  m__law_turned : mg "_law_turned" = some (.ref t.a__law_turned)
  F__law_row_told : Fun K "_law_row_told" "_law_row_told" s__law_row_told t.a__law_row_told t.d__law_row_told
  b__law_row_told : Binds K t.d__law_row_told ["_law_text"] []
  m__law_row_told : mg "_law_row_told" = some (.ref t.a__law_row_told)
  F_law : Fun K "law" "law" s_law t.a_law t.d_law
  b_law : Binds K t.d_law ["_law_script"] []
  m_law : mg "law" = some (.ref t.a_law)
  F_i_NoBook : Fun K "__init__" "NoBook.__init__" s_i_NoBook t.a_i_NoBook t.d_i_NoBook
  b_i_NoBook : Binds K t.d_i_NoBook ["self", "row"] []
  m_i_NoBook : InI K mg "NoBook" t.k_NoBook t.a_i_NoBook
  g_SORTS : mg "SORTS" = some (.ref t.c_SORTS)
  q_SORTS : ∀ H : Hp, SqT K H t.c_SORTS [.str ("bare" : Str), .str ("plain" : Str), .str ("anew" : Str), .str ("room" : Str), .str ("frame" : Str)]
  g_HOST_SORTS : mg "HOST_SORTS" = some (.ref t.c_HOST_SORTS)
  q_HOST_SORTS : ∀ H : Hp, SqT K H t.c_HOST_SORTS [.str ("plain" : Str), .str ("frame" : Str)]
  g_SHUT_OR_BARRED_SORTS : mg "SHUT_OR_BARRED_SORTS" = some (.ref t.c_SHUT_OR_BARRED_SORTS)
  q_SHUT_OR_BARRED_SORTS : ∀ H : Hp, SqT K H t.c_SHUT_OR_BARRED_SORTS [.str ("plain" : Str), .str ("anew" : Str)]
  g_KEYWORDS : mg "KEYWORDS" = some (.ref t.c_KEYWORDS)
  q_KEYWORDS : ∀ H : Hp, SqT K H t.c_KEYWORDS [.str ("shuts" : Str), .str ("bars" : Str)]
  g_LONGEST_NAME : mg "LONGEST_NAME" = some t.v_LONGEST_NAME ∧ RelV (.int 8) t.v_LONGEST_NAME
  g_MOST_ROWS : mg "MOST_ROWS" = some t.v_MOST_ROWS ∧ RelV (.int 12) t.v_MOST_ROWS
  g_NAME : mg "NAME" = some t.v_NAME ∧ RelV (.int 0) t.v_NAME
  g_SORT : mg "SORT" = some t.v_SORT ∧ RelV (.int 1) t.v_SORT
  g_HOST : mg "HOST" = some t.v_HOST ∧ RelV (.int 2) t.v_HOST
  g_SHUTS : mg "SHUTS" = some t.v_SHUTS ∧ RelV (.int 3) t.v_SHUTS
  g_BARS : mg "BARS" = some t.v_BARS ∧ RelV (.int 4) t.v_BARS
  z_all : mg "all" = none
  z_bool : mg "bool" = none
  z_enumerate : mg "enumerate" = none
  z_int : mg "int" = none
  z_isinstance : mg "isinstance" = none
  z_len : mg "len" = none
  z_max : mg "max" = none
  z_min : mg "min" = none
  z_range : mg "range" = none
  z_sorted : mg "sorted" = none
  z_str : mg "str" = none
  z_tuple : mg "tuple" = none
  z_zip : mg "zip" = none
  n_NoBook : mg "NoBook" = some (.ref t.k_NoBook)
  n_TagError : mg "TagError" = some (.ref t.k_TagError)
  y_NoBook_NoBook : PySem.W.exmOne K (.ref t.k_NoBook) (.ref t.k_NoBook) = some true
  se_NoBook : SeI K t.k_NoBook "row"
  ei_NoBook : ExI K t.k_NoBook "row"
  ba_TagError : BaI K mg "TagError" t.k_TagError
section
variable {P : Program} {w : World} {K : PySem.W.Frag} {mg : Str → Option Value} {base : Heap} {t : Adr}
theorem sc_is_name : FnScope ["word"] ["word"] (defScope s_is_name) := ⟨rfl, rfl, rfl, by decide +kernel, rfl, by decide +kernel, by decide +kernel⟩
theorem sc_has_letters_of_name : FnScope ["word"] ["word"] (defScope s_has_letters_of_name) := ⟨rfl, rfl, rfl, by decide +kernel, rfl, by decide +kernel, by decide +kernel⟩
theorem sc_is_rising : FnScope ["names"] ["names"] (defScope s_is_rising) := ⟨rfl, rfl, rfl, by decide +kernel, rfl, by decide +kernel, by decide +kernel⟩
theorem sc_row_of : FnScope ["rows", "name", "row"] ["rows", "name"] (defScope s_row_of) := ⟨rfl, rfl, rfl, by decide +kernel, rfl, by decide +kernel, by decide +kernel⟩
theorem sc_sort_of : FnScope ["book", "name", "row"] ["book", "name"] (defScope s_sort_of) := ⟨rfl, rfl, rfl, by decide +kernel, rfl, by decide +kernel, by decide +kernel⟩
theorem sc_host_of : FnScope ["book", "name", "row"] ["book", "name"] (defScope s_host_of) := ⟨rfl, rfl, rfl, by decide +kernel, rfl, by decide +kernel, by decide +kernel⟩
theorem sc_frame_of : FnScope ["book", "name", "row"] ["book", "name"] (defScope s_frame_of) := ⟨rfl, rfl, rfl, by decide +kernel, rfl, by decide +kernel, by decide +kernel⟩
theorem sc_belongs : FnScope ["book", "name", "frame", "above"] ["book", "name", "frame"] (defScope s_belongs) := ⟨rfl, rfl, rfl, by decide +kernel, rfl, by decide +kernel, by decide +kernel⟩
theorem sc_first_misfit : FnScope ["rows", "counted", "number", "row", "told_before"] ["rows"] (defScope s_first_misfit) := ⟨rfl, rfl, rfl, by decide +kernel, rfl, by decide +kernel, by decide +kernel⟩
theorem sc_first_rows : FnScope ["rows", "counted", "row"] ["rows"] (defScope s_first_rows) := ⟨rfl, rfl, rfl, by decide +kernel, rfl, by decide +kernel, by decide +kernel⟩
theorem sc_fits : FnScope ["rows", "row"] ["rows", "row"] (defScope s_fits) := ⟨rfl, rfl, rfl, by decide +kernel, rfl, by decide +kernel, by decide +kernel⟩
theorem sc_host_fits : FnScope ["rows", "row"] ["rows", "row"] (defScope s_host_fits) := ⟨rfl, rfl, rfl, by decide +kernel, rfl, by decide +kernel, by decide +kernel⟩
theorem sc_comes_back : FnScope ["rows", "name", "host", "step"] ["rows", "name"] (defScope s_comes_back) := ⟨rfl, rfl, rfl, by decide +kernel, rfl, by decide +kernel, by decide +kernel⟩
theorem sc_shuts_fit : FnScope ["rows", "row", "hosts"] ["rows", "row"] (defScope s_shuts_fit) := ⟨rfl, rfl, rfl, by decide +kernel, rfl, by decide +kernel, by decide +kernel⟩
theorem sc_bars_fit : FnScope ["rows", "row"] ["rows", "row"] (defScope s_bars_fit) := ⟨rfl, rfl, rfl, by decide +kernel, rfl, by decide +kernel, by decide +kernel⟩
theorem sc_may_be_named : FnScope ["rows", "names"] ["rows", "names"] (defScope s_may_be_named) := ⟨rfl, rfl, rfl, by decide +kernel, rfl, by decide +kernel, by decide +kernel⟩
theorem sc_read_book : FnScope ["text", "rows", "misfit"] ["text"] (defScope s_read_book) := ⟨rfl, rfl, rfl, by decide +kernel, rfl, by decide +kernel, by decide +kernel⟩
theorem sc_read_rows : FnScope ["text", "rows", "number", "line", "row"] ["text"] (defScope s_read_rows) := ⟨rfl, rfl, rfl, by decide +kernel, rfl, by decide +kernel, by decide +kernel⟩
theorem sc_read_row : FnScope ["words", "host", "start", "shuts", "bars"] ["words"] (defScope s_read_row) := ⟨rfl, rfl, rfl, by decide +kernel, rfl, by decide +kernel, by decide +kernel⟩
theorem sc_names_behind : FnScope ["keyword", "words", "names", "word"] ["keyword", "words"] (defScope s_names_behind) := ⟨rfl, rfl, rfl, by decide +kernel, rfl, by decide +kernel, by decide +kernel⟩
theorem sc_words_for : FnScope ["names"] ["names"] (defScope s_words_for) := ⟨rfl, rfl, rfl, by decide +kernel, rfl, by decide +kernel, by decide +kernel⟩
theorem sc__law_cell_at : FnScope ["_law_script", "_law_k"] ["_law_script", "_law_k"] (defScope s__law_cell_at) := ⟨rfl, rfl, rfl, by decide +kernel, rfl, by decide +kernel, by decide +kernel⟩
theorem sc__law_pot : FnScope ["_law_cell", "_law_number", "_law_j", "_law_more"] ["_law_cell"] (defScope s__law_pot) := ⟨rfl, rfl, rfl, by decide +kernel, rfl, by decide +kernel, by decide +kernel⟩
theorem sc__law_take : FnScope ["_law_pot_here", "_law_most", "_law_number"] ["_law_pot_here", "_law_most"] (defScope s__law_take) := ⟨rfl, rfl, rfl, by decide +kernel, rfl, by decide +kernel, by decide +kernel⟩
theorem sc__law_names : FnScope ["_law_cell", "_law_where", "_law_lots", "_law_letters", "_law_pot_here", "_law_first", "_law_base", "_law_there", "_law_at_first", "_law_names_here", "_law_k", "_law_name"] ["_law_cell", "_law_where", "_law_lots"] (defScope s__law_names) := ⟨rfl, rfl, rfl, by decide +kernel, rfl, by decide +kernel, by decide +kernel⟩
theorem sc__law_turned : FnScope ["_law_lines", "_law_cell", "_law_pot_here", "_law_about", "_law_line"] ["_law_lines", "_law_cell"] (defScope s__law_turned) := ⟨rfl, rfl, rfl, by decide +kernel, rfl, by decide +kernel, by decide +kernel⟩
theorem sc__law_row_told : FnScope ["_law_text", "_law_error", "e"] ["_law_text"] (defScope s__law_row_told) := ⟨rfl, rfl, rfl, by decide +kernel, rfl, by decide +kernel, by decide +kernel⟩
theorem sc_law : FnScope ["_law_script", "_law_count", "_law_names_here", "_law_number", "_law_lines", "_law_rows", "_law_book", "_law_k", "_law_j", "_law_found", "_law_back", "_law_spots"] ["_law_script"] (defScope s_law) := ⟨rfl, rfl, rfl, by decide +kernel, rfl, by decide +kernel, by decide +kernel⟩
theorem sc_i_NoBook : FnScope ["self", "row"] ["self", "row"] (defScope s_i_NoBook) := ⟨rfl, rfl, rfl, by decide +kernel, rfl, by decide +kernel, by decide +kernel⟩
theorem ok_has_letters_of_name (T : Txt K mg t) : FnOk P w K mg base CX0 1 t.a_has_letters_of_name t.d_has_letters_of_name ["word"] (sp_has_letters_of_name K) := by
  refine T.F_has_letters_of_name.ok sc_has_letters_of_name (len_has_letters_of_name K) (fun cdv A outer s H vs Q E hr h => ⟨R_has_letters_of_name K, ?_, rd_has_letters_of_name h⟩)
  have S := sc_has_letters_of_name
  refine pss_one ?_
  refine ps_ret ?_
  exact (pe_and (pe_chain op_leA op_leA pe_int (pe_callB call_lenA rfl T.z_len boot_len (pa_cons (pv 0) pa_nil)) (pe_glob rfl T.g_LONGEST_NAME.1 T.g_LONGEST_NAME.2)) (pe_one (pe_callB (call_allA rfl) rfl T.z_all boot_all (pa_cons (pe_comp rfl (comp_scope (osc := defScope s_has_letters_of_name) (ON := ["word"]) (N := ["sign"]) (fr := [none]) (by decide +kernel) rfl rfl) (pi_strs (pv 0)) (fun _ _ _ _ _ _ => (pg_name (i := 0) (show List.Nodup (["sign"] : List Str) by decide +kernel) rfl (Or.inl rfl))) tg_name (fun _ _ _ _ _ _ => pts_nil) (fun _ _ _ _ _ _ => (pe_chain op_leA op_leA pe_str (pv 0) pe_str))) pa_nil))))
theorem ok_is_rising (T : Txt K mg t) : FnOk P w K mg base CX0 1 t.a_is_rising t.d_is_rising ["names"] (sp_is_rising K) := by
  refine T.F_is_rising.ok sc_is_rising (len_is_rising K) (fun cdv A outer s H vs Q E hr h => ⟨R_is_rising K, ?_, rd_is_rising h⟩)
  have S := sc_is_rising
  refine pss_one ?_
  refine ps_ret ?_
  exact (pe_callB (call_allA rfl) rfl T.z_all boot_all (pa_cons (pe_comp rfl (comp_scope (osc := defScope s_is_rising) (ON := ["names"]) (N := ["left", "right"]) (fr := [none, none]) (by decide +kernel) rfl rfl) (pi_zip rfl T.z_zip (pa_cons (pv 0) (pa_cons (pe_slice sl_anyB (pv 0) (po_some pe_int) po_none) pa_nil))) (fun _ _ _ _ _ _ => (pg_tup rfl (pgs_cons (pg_name (i := 0) (show List.Nodup (["left", "right"] : List Str) by decide +kernel) rfl (Or.inl rfl)) (pgs_cons (pg_name (i := 1) (show List.Nodup (["left", "right"] : List Str) by decide +kernel) rfl (Or.inl rfl)) pgs_nil)))) (tg_tup (tg_cons rfl (tg_cons rfl tg_nil))) (fun _ _ _ _ _ _ => pts_nil) (fun _ _ _ _ _ _ => (pe_cmpR op_ltA (pv 0) (pv 1) (nomark _)))) pa_nil))
theorem ok_row_of (T : Txt K mg t) : FnOk P w K mg base CX0 1 t.a_row_of t.d_row_of ["rows", "name"] (sp_row_of K) := by
  refine T.F_row_of.ok sc_row_of (len_row_of K) (fun cdv A outer s H vs Q E hr h => ⟨R_row_of K, ?_, rd_row_of h⟩)
  have S := sc_row_of
  refine pss_cons ?_ ?_
  · refine ps_for PassesOwn.never rfl ?_ ?_ ?_
    · exact (pi_any (pv 0))
    · exact (pg_name (i := 2) S.nd rfl (Or.inl rfl))
    · refine pss_one ?_
      refine ps_if ?_ ?_ ?_
      · exact (pt_cmpR (op_eqA (u190 hr)) (pe_ix (ix_any' (hu_of hr)) (pv 2) (pe_glob rfl T.g_NAME.1 T.g_NAME.2) (fun _ _ => rfl)) (pv 1) (nomark _))
      · refine pss_one ?_
        exact (ps_ret (pv 2))
      · exact pss_nil
  refine pss_one ?_
  exact (ps_ret pe_non)
theorem ok_frame_of (T : Txt K mg t) : FnOk P w K mg base CX0 1 t.a_frame_of t.d_frame_of ["book", "name"] (sp_frame_of K) := by
  refine T.F_frame_of.ok sc_frame_of (len_frame_of K) (fun cdv A outer s H vs Q E hr h => ⟨R_frame_of K, ?_, rd_frame_of h⟩)
  have S := sc_frame_of
  refine pss_cons ?_ ?_
  · refine ps_for PassesOwn.never rfl ?_ ?_ ?_
    · exact (pi_any (pv 0))
    · exact (pg_name (i := 2) S.nd rfl (Or.inl rfl))
    · refine pss_one ?_
      refine ps_if ?_ ?_ ?_
      · exact (PW.pt (pw_and (pt_cmpR (op_eqA (u190 hr)) (pe_ix (ix_any' (hu_of hr)) (pv 2) (pe_glob rfl T.g_SORT.1 T.g_SORT.2) (fun _ _ => rfl)) pe_str (nomark _)) (pw_and1 (pt_cmpR (op_eqA (u190 hr)) (pe_ix (ix_any' (hu_of hr)) (pv 2) (pe_glob rfl T.g_HOST.1 T.g_HOST.2) (fun _ _ => rfl)) (pv 1) (nomark _)))))
      · refine pss_one ?_
        exact (ps_ret (pe_ix (ix_any' (hu_of hr)) (pv 2) (pe_glob rfl T.g_NAME.1 T.g_NAME.2) (fun _ _ => rfl)))
      · exact pss_nil
  refine pss_one ?_
  exact (ps_ret pe_non)
theorem ok_words_for (T : Txt K mg t) : FnOk P w K mg base CX0 1 t.a_words_for t.d_words_for ["names"] (sp_words_for K) := by
  refine T.F_words_for.ok sc_words_for (len_words_for K) (fun cdv A outer s H vs Q E hr h => ⟨R_words_for K, ?_, rd_words_for h⟩)
  have S := sc_words_for
  refine pss_one ?_
  exact (ps_ret (pe_ifExp (pt_cmpR (op_eqA (u190 hr)) (pe_callB call_lenA rfl T.z_len boot_len (pa_cons (pv 0) pa_nil)) pe_int (nomark _)) pe_int (pe_op op_addA pe_int (pe_callB call_lenA rfl T.z_len boot_len (pa_cons (pv 0) pa_nil)))))
theorem ok__law_cell_at (T : Txt K mg t) : FnOk P w K mg base CX0 1 t.a__law_cell_at t.d__law_cell_at ["_law_script", "_law_k"] (sp__law_cell_at K) := by
  refine T.F__law_cell_at.ok sc__law_cell_at (len__law_cell_at K) (fun cdv A outer s H vs Q E hr h => ⟨R__law_cell_at K, ?_, rd__law_cell_at h⟩)
  have S := sc__law_cell_at
  refine pss_cons ?_ ?_
  · refine ps_if ?_ ?_ ?_
    · exact (pt_cmpR op_ltA (pv 1) (pe_callB call_lenA rfl T.z_len boot_len (pa_cons (pv 0) pa_nil)) (nomark _))
    · refine pss_one ?_
      exact (ps_ret (pe_ix (ix_any' (hu_of hr)) (pv 0) (pv 1) (fun _ _ => rfl)))
    · exact pss_nil
  refine pss_one ?_
  exact (ps_ret pe_int)
theorem ok__law_pot (T : Txt K mg t) : FnOk P w K mg base CX0 1 t.a__law_pot t.d__law_pot ["_law_cell"] (sp__law_pot K) := by
  refine T.F__law_pot.ok sc__law_pot (len__law_pot K) (fun cdv A outer s H vs Q E hr h => ⟨R__law_pot K, ?_, rd__law_pot h⟩)
  have S := sc__law_pot
  refine pss_cons ?_ ?_
  · refine ps_if ?_ ?_ ?_
    · exact (pt_cmpR (op_eqA (u190 hr)) (pe_op op_mod (pv 0) pe_int) pe_int (nomark _))
    · refine pss_one ?_
      exact (ps_ret (pe_lst (pa_cons (pe_op op_fdiv (pv 0) pe_int) pa_nil)))
    · exact pss_nil
  refine pss_cons ?_ ?_
  · refine ps_set (i := 1) S.nd rfl (Or.inl rfl) ?_ rfl ?_
    · exact pe_int
    · walk_at "or"
  refine pss_cons ?_ ?_
  · refine ps_for PassesOwn.never rfl ?_ ?_ ?_
    · exact (pi_range1 rfl T.z_range (pa_cons pe_int pa_nil))
    · exact (pg_name (i := 2) S.nd rfl (Or.inl rfl))
    · refine pss_cons ?_ ?_
      · refine ps_set (i := 3) S.nd rfl (Or.inl rfl) ?_ rfl ?_
        · exact (pe_op op_mod (pe_op op_mulA (pe_op op_addA (pe_op op_addA (pe_op op_mod (pe_op op_fdiv (pv 0) pe_int) pe_int) (pe_op op_mulA pe_int (pv 2))) pe_int) pe_int) pe_int)
        · walk_at "or"
      refine pss_cons ?_ ?_
      · refine ps_set (i := 3) S.nd rfl (Or.inl rfl) ?_ rfl ?_
        · exact (pe_op op_mod (pe_op op_addA (pe_op op_addA (pe_op op_mulA (pv 3) (pv 3)) (pe_op op_mulA pe_int (pv 2))) pe_int) pe_int)
        · walk_at "or"
      refine pss_one ?_
      refine ps_set (i := 1) S.nd rfl (Or.inl rfl) ?_ rfl ?_
      · exact (pe_op op_addA (pe_op op_mulA (pv 1) pe_int) (pv 3))
      · walk_at "or"
  refine pss_one ?_
  exact (ps_ret (pe_lst (pa_cons (pv 1) pa_nil)))
theorem ok__law_take (T : Txt K mg t) : FnOk P w K mg base CX0 1 t.a__law_take t.d__law_take ["_law_pot_here", "_law_most"] (sp__law_take K) := by
  refine T.F__law_take.ok sc__law_take (len__law_take K) (fun cdv A outer s H vs Q E hr h => ⟨R__law_take K, ?_, rd__law_take h⟩)
  have S := sc__law_take
  refine pss_cons ?_ ?_
  · refine ps_set (i := 2) S.nd rfl (Or.inl rfl) ?_ rfl ?_
    · exact (pe_op op_mod (pe_ix (ix_any' (hu_of hr)) (pv 0) pe_int (fun _ _ => rfl)) (pv 1))
    · walk_at "or"
  refine pss_cons ?_ ?_
  · exact (ps_asg (pe_op op_fdiv (pe_ix (ix_any' (hu_of hr)) (pv 0) pe_int (fun _ _ => rfl)) (pv 1)) (pg_sub (pv 0) pe_int (set_any' (hu_of hr))))
  refine pss_one ?_
  exact (ps_ret (pv 2))
theorem ok_i_NoBook (T : Txt K mg t) : FnOk P w K mg base CX0 1 t.a_i_NoBook t.d_i_NoBook ["self", "row"] (sp_i_NoBook K) := by
  refine T.F_i_NoBook.ok sc_i_NoBook (len_i_NoBook K) (fun cdv A outer s H vs Q E hr h => ⟨R_i_NoBook K, ?_, rd_i_NoBook h⟩)
  have S := sc_i_NoBook
  refine pss_cons ?_ ?_
  · exact (ps_expr (pe_bin T.ba_TagError rfl (pa_cons (pv 0) (pa_cons (pe_fsI (pv 1)) pa_nil))))
  refine pss_one ?_
  exact (ps_xet (pv 0) (pv 1) rfl)
theorem ok_is_name (T : Txt K mg t) : FnOk P w K mg base CX0 2 t.a_is_name t.d_is_name ["word"] (sp_is_name K) := by
  refine T.F_is_name.ok sc_is_name (len_is_name K) (fun cdv A outer s H vs Q E hr h => ⟨R_is_name K t.c_KEYWORDS, ?_, rd_is_name T.q_KEYWORDS h⟩)
  have S := sc_is_name
  refine pss_one ?_
  exact (ps_ret (pe_and (pe_call (ok_has_letters_of_name T) (hr.mono (by walk_at "le")) rfl T.m_has_letters_of_name T.F_has_letters_of_name.kp T.b_has_letters_of_name .nil pass0 (pa_cons (pv 0) pa_nil)) (pe_one (pe_cmpR (op_notinB (hu_of hr)) (pv 0) (pe_glob rfl T.g_KEYWORDS rfl) (by with_unfolding_all rfl)))))
theorem ok_sort_of (T : Txt K mg t) : FnOk P w K mg base CX0 2 t.a_sort_of t.d_sort_of ["book", "name"] (sp_sort_of K) := by
  refine T.F_sort_of.ok sc_sort_of (len_sort_of K) (fun cdv A outer s H vs Q E hr h => ⟨R_sort_of K, ?_, rd_sort_of h⟩)
  have S := sc_sort_of
  refine pss_cons ?_ ?_
  · refine ps_set (i := 2) S.nd rfl (Or.inl rfl) ?_ rfl ?_
    · exact (pe_call (ok_row_of T) (hr.mono (by walk_at "le")) rfl T.m_row_of T.F_row_of.kp T.b_row_of .nil pass0 (pa_cons (pv 0) (pa_cons (pv 1) pa_nil)))
    · walk_at "or"
  refine pss_one ?_
  exact (ps_ret (pe_ifExp (pt_cmpR op_isA (pv 2) pe_non (nomark _)) pe_non (pe_ix (ix_any' (hu_of hr)) (pv 2) (pe_glob rfl T.g_SORT.1 T.g_SORT.2) (fun _ _ => rfl))))
theorem ok_host_of (T : Txt K mg t) : FnOk P w K mg base CX0 2 t.a_host_of t.d_host_of ["book", "name"] (sp_host_of K) := by
  refine T.F_host_of.ok sc_host_of (len_host_of K) (fun cdv A outer s H vs Q E hr h => ⟨R_host_of K, ?_, rd_host_of h⟩)
  have S := sc_host_of
  refine pss_cons ?_ ?_
  · refine ps_set (i := 2) S.nd rfl (Or.inl rfl) ?_ rfl ?_
    · exact (pe_call (ok_row_of T) (hr.mono (by walk_at "le")) rfl T.m_row_of T.F_row_of.kp T.b_row_of .nil pass0 (pa_cons (pv 0) (pa_cons (pv 1) pa_nil)))
    · walk_at "or"
  refine pss_cons ?_ ?_
  · refine ps_if ?_ ?_ ?_
    · exact (PW.pt (pw_or (pt_cmpR op_isA (pv 2) pe_non (nomark _)) (pw_or1 (pt_cmpR (op_neA (u190 hr)) (pe_ix (ix_any' (hu_of hr)) (pv 2) (pe_glob rfl T.g_SORT.1 T.g_SORT.2) (fun _ _ => rfl)) pe_str (nomark _)))))
    · refine pss_one ?_
      exact (ps_ret pe_non)
    · exact pss_nil
  refine pss_one ?_
  exact (ps_ret (pe_ix (ix_any' (hu_of hr)) (pv 2) (pe_glob rfl T.g_HOST.1 T.g_HOST.2) (fun _ _ => rfl)))
theorem ok_belongs (T : Txt K mg t) : FnOk P w K mg base CX0 2 t.a_belongs t.d_belongs ["book", "name", "frame"] (sp_belongs K) := by
  refine T.F_belongs.ok sc_belongs (len_belongs K) (fun cdv A outer s H vs Q E hr h => ⟨R_belongs K, ?_, rd_belongs h⟩)
  have S := sc_belongs
  refine pss_cons ?_ ?_
  · refine ps_set (i := 3) S.nd rfl (Or.inl rfl) ?_ rfl ?_
    · exact (pe_call (ok_frame_of T) (hr.mono (by walk_at "le")) rfl T.m_frame_of T.F_frame_of.kp T.b_frame_of .nil pass0 (pa_cons (pv 0) (pa_cons (pv 1) pa_nil)))
    · walk_at "or"
  refine pss_cons ?_ ?_
  · refine ps_while PassesOwn.never ?_ ?_
    · exact (pt_cmpR op_isnotA (pv 3) pe_non (nomark _))
    · refine pss_cons ?_ ?_
      · refine ps_if ?_ ?_ ?_
        · exact (pt_cmpR (op_eqA (u190 hr)) (pv 3) (pv 2) (nomark _))
        · refine pss_one ?_
          exact (ps_ret pe_bl)
        · exact pss_nil
      refine pss_one ?_
      refine ps_set (i := 3) S.nd rfl (Or.inl rfl) ?_ rfl ?_
      · exact (pe_call (ok_frame_of T) (hr.mono (by walk_at "le")) rfl T.m_frame_of T.F_frame_of.kp T.b_frame_of .nil pass0 (pa_cons (pv 0) (pa_cons (pv 3) pa_nil)))
      · walk_at "or"
  refine pss_one ?_
  exact (ps_ret pe_bl)
theorem ok_first_rows (T : Txt K mg t) : FnOk P w K mg base CX0 2 t.a_first_rows t.d_first_rows ["rows"] (sp_first_rows K) := by
  refine T.F_first_rows.ok sc_first_rows (len_first_rows K) (fun cdv A outer s H vs Q E hr h => ⟨R_first_rows K, ?_, rd_first_rows h⟩)
  have S := sc_first_rows
  refine pss_cons ?_ ?_
  · refine ps_set (i := 1) S.nd rfl (Or.inl rfl) ?_ rfl ?_
    · exact (pe_lst pa_nil)
    · walk_at "or"
  refine pss_cons ?_ ?_
  · refine ps_for PassesOwn.never rfl ?_ ?_ ?_
    · exact (pi_any (pv 0))
    · exact (pg_name (i := 2) S.nd rfl (Or.inl rfl))
    · refine pss_one ?_
      refine ps_if ?_ ?_ ?_
      · exact (pt_cmpR op_isA (pe_call (ok_row_of T) (hr.mono (by walk_at "le")) rfl T.m_row_of T.F_row_of.kp T.b_row_of .nil pass0 (pa_cons (pv 1) (pa_cons (pe_ix (ix_any' (hu_of hr)) (pv 2) (pe_glob rfl T.g_NAME.1 T.g_NAME.2) (fun _ _ => rfl)) pa_nil))) pe_non (nomark _))
      · refine pss_one ?_
        exact (ps_expr (pe_bm PySem.F.plainAttrs_list PySem.F.slot_list_append PySem.F.type_list_append mt_append (pv 1) (pa_cons (pv 2) pa_nil)))
      · exact pss_nil
  refine pss_one ?_
  exact (ps_ret (pv 1))
theorem ok__law_names (T : Txt K mg t) : FnOk P w K mg base CX0 2 t.a__law_names t.d__law_names ["_law_cell", "_law_where", "_law_lots"] (sp__law_names K) := by
  refine T.F__law_names.ok sc__law_names (len__law_names K) (fun cdv A outer s H vs Q E hr h => ⟨R__law_names K, ?_, rd__law_names h⟩)
  have S := sc__law_names
  refine pss_cons ?_ ?_
  · refine ps_set (i := 3) S.nd rfl (Or.inr rfl) ?_ rfl ?_
    · exact pe_str
    · walk_at "or"
  refine pss_cons ?_ ?_
  · refine ps_set (i := 4) S.nd rfl (Or.inr rfl) ?_ rfl ?_
    · exact (pe_call (ok__law_pot T) (hr.mono (by walk_at "le")) rfl T.m__law_pot T.F__law_pot.kp T.b__law_pot .nil pass0 (pa_cons (pv 0) pa_nil))
    · walk_at "or"
  refine pss_cons ?_ ?_
  · refine ps_if ?_ ?_ ?_
    · exact (pt_cmpR (op_eqA (u190 hr)) (pe_call (ok__law_take T) (hr.mono (by walk_at "le")) rfl T.m__law_take T.F__law_take.kp T.b__law_take .nil pass0 (pa_cons (pv 4) (pa_cons pe_int pa_nil))) pe_int (nomark _))
    · refine pss_cons ?_ ?_
      · refine ps_set (i := 5) S.nd rfl (Or.inr rfl) ?_ rfl ?_
        · exact (pe_call (ok__law_take T) (hr.mono (by walk_at "le")) rfl T.m__law_take T.F__law_take.kp T.b__law_take .nil pass0 (pa_cons (pv 4) (pa_cons pe_int pa_nil)))
        · walk_at "or"
      refine pss_one ?_
      refine ps_ret ?_
      exact (pe_comp rfl (comp_scope (osc := defScope s__law_names) (ON := ["_law_cell", "_law_where", "_law_lots", "_law_letters", "_law_pot_here", "_law_first", "_law_base", "_law_there", "_law_at_first", "_law_names_here", "_law_k", "_law_name"]) (N := ["_law_letters", "_law_first", "_law_k"]) (fr := [some 3, some 5, none]) (by decide +kernel) rfl rfl) (pi_range1 rfl T.z_range (pa_cons (pv 2) pa_nil)) (fun _ _ _ _ _ _ => (pg_name (i := 2) (show List.Nodup (["_law_letters", "_law_first", "_law_k"] : List Str) by decide +kernel) rfl (Or.inl rfl))) tg_name (fun _ _ _ _ _ _ => pts_nil) (fun _ _ _ _ _ _ => (pe_op op_mulA (pe_ix (ix_any' (hu_of hr)) (pv 0) (pe_op op_mod (pe_op op_addA (pv 1) (pe_op op_fdiv (pv 2) pe_int)) pe_int) (fun _ _ => rfl)) (pe_op op_addA pe_int (pe_op op_mod (pv 2) pe_int)))))
    · exact pss_nil
  refine pss_cons ?_ ?_
  · exact (ps_setC (i := 6) S.nd rfl rfl rfl (comp_scope (osc := defScope s__law_names) (ON := ["_law_cell", "_law_where", "_law_lots", "_law_letters", "_law_pot_here", "_law_first", "_law_base", "_law_there", "_law_at_first", "_law_names_here", "_law_k", "_law_name"]) (N := ["_law_letters", "_law_pot_here", "_law_k"]) (fr := [some 3, some 4, none]) (by decide +kernel) rfl rfl) (pi_range1 rfl T.z_range (pa_cons (pe_op op_addA pe_int (pe_call (ok__law_take T) (hr.mono (by walk_at "le")) rfl T.m__law_take T.F__law_take.kp T.b__law_take .nil pass0 (pa_cons (pv 4) (pa_cons pe_int pa_nil)))) pa_nil)) (fun _ _ _ _ _ _ => (pg_name (i := 2) (show List.Nodup (["_law_letters", "_law_pot_here", "_law_k"] : List Str) by decide +kernel) rfl (Or.inl rfl))) tg_name (fun _ _ _ _ _ _ => pts_nil) (fun _ _ _ _ _ _ => (pe_ix (ix_any' (hu_of hr)) (pv 0) (pe_call (ok__law_take T) (hr.mono (by walk_at "le")) rfl T.m__law_take T.F__law_take.kp T.b__law_take .nil pass0 (pa_cons (pv 1) (pa_cons pe_int pa_nil))) (fun _ _ => rfl))))
  refine pss_cons ?_ ?_
  · refine ps_set (i := 7) S.nd rfl (Or.inl rfl) ?_ rfl ?_
    · exact (pe_op op_mod (pv 1) (pe_callB call_lenA rfl T.z_len boot_len (pa_cons (pv 6) pa_nil)))
    · walk_at "or"
  refine pss_cons ?_ ?_
  · refine ps_set (i := 8) S.nd rfl (Or.inl rfl) ?_ rfl ?_
    · exact (pe_bm PySem.F.plainAttrs_str PySem.F.slot_str_index PySem.F.type_str_index mt_index_str (pv 3) (pa_cons (pe_ix (ix_any' (hu_of hr)) (pv 6) (pv 7) (fun _ _ => rfl)) pa_nil))
    · walk_at "or"
  refine pss_cons ?_ ?_
  · refine ps_set (i := 9) S.nd rfl (Or.inl rfl) ?_ rfl ?_
    · exact (pe_lst pa_nil)
    · walk_at "or"
  refine pss_cons ?_ ?_
  · refine ps_for PassesOwn.never rfl ?_ ?_ ?_
    · exact (pi_range1 rfl T.z_range (pa_cons (pv 2) pa_nil))
    · exact (pg_name (i := 10) S.nd rfl (Or.inl rfl))
    · refine pss_cons ?_ ?_
      · exact (ps_asg (pe_ix (ix_any' (hu_of hr)) (pv 3) (pe_op op_mod (pe_op op_addA (pv 8) (pv 10)) pe_int) (fun _ _ => rfl)) (pg_sub (pv 6) (pv 7) (set_any' (hu_of hr))))
      refine pss_cons ?_ ?_
      · refine ps_set (i := 11) S.nd rfl (Or.inl rfl) ?_ rfl ?_
        · exact (pe_bm PySem.F.plainAttrs_str PySem.F.slot_str_join PySem.F.type_str_join mt_join pe_str (pa_cons (pv 6) pa_nil))
        · walk_at "or"
      refine pss_one ?_
      exact (ps_expr (pe_bm PySem.F.plainAttrs_list PySem.F.slot_list_append PySem.F.type_list_append mt_append (pv 9) (pa_cons (pe_ix (ix_any' (hu_of hr)) (pe_lst (pa_cons (pv 11) (pa_cons (pe_op op_addA (pv 11) pe_str) pa_nil))) (pe_callTy call_intA rfl T.z_int boot_int (pa_cons (pe_cmpR (op_inB (hu_of hr)) (pv 11) (pe_lst (pa_cons pe_str (pa_cons pe_str pa_nil))) (by with_unfolding_all rfl)) pa_nil)) (fun _ _ => rfl)) pa_nil)))
  refine pss_one ?_
  exact (ps_ret (pv 9))
theorem ok__law_turned (T : Txt K mg t) : FnOk P w K mg base CX0 2 t.a__law_turned t.d__law_turned ["_law_lines", "_law_cell"] (sp__law_turned K) := by
  refine T.F__law_turned.ok sc__law_turned (len__law_turned K) (fun cdv A outer s H vs Q E hr h => ⟨R__law_turned K, ?_, rd__law_turned h⟩)
  have S := sc__law_turned
  refine pss_cons ?_ ?_
  · refine ps_set (i := 2) S.nd rfl (Or.inl rfl) ?_ rfl ?_
    · exact (pe_call (ok__law_pot T) (hr.mono (by walk_at "le")) rfl T.m__law_pot T.F__law_pot.kp T.b__law_pot .nil pass0 (pa_cons (pv 1) pa_nil))
    · walk_at "or"
  refine pss_cons ?_ ?_
  · refine ps_set (i := 3) S.nd rfl (Or.inl rfl) ?_ rfl ?_
    · exact (pe_lst pa_nil)
    · walk_at "or"
  refine pss_cons ?_ ?_
  · refine ps_for PassesOwn.never rfl ?_ ?_ ?_
    · exact (pi_any (pv 0))
    · exact (pg_name (i := 4) S.nd rfl (Or.inl rfl))
    · refine pss_one ?_
      exact (ps_expr (pe_bm PySem.F.plainAttrs_list PySem.F.slot_list_insert PySem.F.type_list_insert mt_insert (pv 3) (pa_cons (pe_call (ok__law_take T) (hr.mono (by walk_at "le")) rfl T.m__law_take T.F__law_take.kp T.b__law_take .nil pass0 (pa_cons (pv 2) (pa_cons (pe_op op_addA (pe_callB call_lenA rfl T.z_len boot_len (pa_cons (pv 3) pa_nil)) pe_int) pa_nil))) (pa_cons (pv 4) pa_nil))))
  refine pss_one ?_
  exact (ps_ret (pv 3))
theorem ok_comes_back (T : Txt K mg t) : FnOk P w K mg base CX0 3 t.a_comes_back t.d_comes_back ["rows", "name"] (sp_comes_back K) := by
  refine T.F_comes_back.ok sc_comes_back (len_comes_back K) (fun cdv A outer s H vs Q E hr h => ⟨R_comes_back K, ?_, rd_comes_back h⟩)
  have S := sc_comes_back
  refine pss_cons ?_ ?_
  · refine ps_set (i := 2) S.nd rfl (Or.inl rfl) ?_ rfl ?_
    · exact (pe_call (ok_host_of T) (hr.mono (by walk_at "le")) rfl T.m_host_of T.F_host_of.kp T.b_host_of .nil pass0 (pa_cons (pv 0) (pa_cons (pv 1) pa_nil)))
    · walk_at "or"
  refine pss_cons ?_ ?_
  · refine ps_for PassesOwn.never rfl ?_ ?_ ?_
    · exact (pi_range1 rfl T.z_range (pa_cons (pe_callB call_lenA rfl T.z_len boot_len (pa_cons (pv 0) pa_nil)) pa_nil))
    · exact (pg_name (i := 3) S.nd rfl (Or.inl rfl))
    · refine pss_cons ?_ ?_
      · refine ps_if ?_ ?_ ?_
        · exact (pt_cmpR (op_eqA (u190 hr)) (pv 2) (pv 1) (nomark _))
        · refine pss_one ?_
          exact (ps_ret pe_bl)
        · exact pss_nil
      refine pss_one ?_
      refine ps_set (i := 2) S.nd rfl (Or.inl rfl) ?_ rfl ?_
      · exact (pe_call (ok_host_of T) (hr.mono (by walk_at "le")) rfl T.m_host_of T.F_host_of.kp T.b_host_of .nil pass0 (pa_cons (pv 0) (pa_cons (pv 2) pa_nil)))
      · walk_at "or"
  refine pss_one ?_
  exact (ps_ret pe_bl)
theorem ok_may_be_named (T : Txt K mg t) : FnOk P w K mg base CX0 3 t.a_may_be_named t.d_may_be_named ["rows", "names"] (sp_may_be_named K) := by
  refine T.F_may_be_named.ok sc_may_be_named (len_may_be_named K) (fun cdv A outer s H vs Q E hr h => ⟨R_may_be_named K t.c_SHUT_OR_BARRED_SORTS, ?_, rd_may_be_named T.q_SHUT_OR_BARRED_SORTS h⟩)
  have S := sc_may_be_named
  refine pss_one ?_
  refine ps_ret ?_
  exact (pe_and (pe_call (ok_is_rising T) (hr.mono (by walk_at "le")) rfl T.m_is_rising T.F_is_rising.kp T.b_is_rising .nil pass0 (pa_cons (pv 1) pa_nil)) (pe_one (pe_callB (call_allA rfl) rfl T.z_all boot_all (pa_cons (pe_comp rfl (comp_scope (osc := defScope s_may_be_named) (ON := ["rows", "names"]) (N := ["rows", "name"]) (fr := [some 0, none]) (by decide +kernel) rfl rfl) (pi_any (pv 1)) (fun _ _ _ _ _ _ => (pg_name (i := 1) (show List.Nodup (["rows", "name"] : List Str) by decide +kernel) rfl (Or.inl rfl))) tg_name (fun _ _ _ _ _ _ => pts_nil) (fun _ _ _ _ _ _ => (pe_cmpR (op_inB (hu_of hr)) (pe_call (ok_sort_of T) (hr.mono (by walk_at "le")) rfl T.m_sort_of T.F_sort_of.kp T.b_sort_of .nil pass0 (pa_cons (pv 0) (pa_cons (pv 1) pa_nil))) (pe_glob rfl T.g_SHUT_OR_BARRED_SORTS rfl) (by with_unfolding_all rfl)))) pa_nil))))
theorem ok_names_behind (T : Txt K mg t) : FnOk P w K mg base CX0 3 t.a_names_behind t.d_names_behind ["keyword", "words"] (sp_names_behind K) := by
  refine T.F_names_behind.ok sc_names_behind (len_names_behind K) (fun cdv A outer s H vs Q E hr h => ⟨R_names_behind K, ?_, rd_names_behind h⟩)
  have S := sc_names_behind
  refine pss_cons ?_ ?_
  · refine ps_set (i := 2) S.nd rfl (Or.inl rfl) ?_ rfl ?_
    · exact (pe_lst pa_nil)
    · walk_at "or"
  refine pss_cons ?_ ?_
  · refine ps_if ?_ ?_ ?_
    · exact (pt_cmpR (op_eqA (u190 hr)) (pe_slice sl_any (pv 1) po_none (po_some pe_int)) (pe_lst (pa_cons (pv 0) pa_nil)) (nomark _))
    · refine pss_one ?_
      refine ps_for PassesOwn.never rfl ?_ ?_ ?_
      · exact (pi_any (pe_slice sl_any (pv 1) (po_some pe_int) po_none))
      · exact (pg_name (i := 3) S.nd rfl (Or.inl rfl))
      · refine pss_cons ?_ ?_
        · refine ps_if ?_ ?_ ?_
          · exact (pt_not (pt_val (pe_call (ok_is_name T) (hr.mono (by walk_at "le")) rfl T.m_is_name T.F_is_name.kp T.b_is_name .nil pass0 (pa_cons (pv 3) pa_nil))))
          · refine pss_one ?_
            exact ps_break
          · exact pss_nil
        refine pss_one ?_
        exact (ps_expr (pe_bm PySem.F.plainAttrs_list PySem.F.slot_list_append PySem.F.type_list_append mt_append (pv 2) (pa_cons (pv 3) pa_nil)))
    · exact pss_nil
  refine pss_one ?_
  exact (ps_ret (pv 2))
theorem ok_host_fits (T : Txt K mg t) : FnOk P w K mg base CX0 4 t.a_host_fits t.d_host_fits ["rows", "row"] (sp_host_fits K) := by
  refine T.F_host_fits.ok sc_host_fits (len_host_fits K) (fun cdv A outer s H vs Q E hr h => ⟨R_host_fits K t.c_HOST_SORTS, ?_, rd_host_fits T.q_HOST_SORTS h⟩)
  have S := sc_host_fits
  refine pss_cons ?_ ?_
  · refine ps_if ?_ ?_ ?_
    · exact (pt_cmpR (op_neA (u190 hr)) (pe_ix (ix_any' (hu_of hr)) (pv 1) (pe_glob rfl T.g_SORT.1 T.g_SORT.2) (fun _ _ => rfl)) pe_str (nomark _))
    · refine pss_one ?_
      exact (ps_ret pe_bl)
    · exact pss_nil
  refine pss_cons ?_ ?_
  · refine ps_if ?_ ?_ ?_
    · exact (PW.pt (pw_or (pt_cmpR (op_notinB (hu_of hr)) (pe_call (ok_sort_of T) (hr.mono (by walk_at "le")) rfl T.m_sort_of T.F_sort_of.kp T.b_sort_of .nil pass0 (pa_cons (pv 0) (pa_cons (pe_ix (ix_any' (hu_of hr)) (pv 1) (pe_glob rfl T.g_HOST.1 T.g_HOST.2) (fun _ _ => rfl)) pa_nil))) (pe_glob rfl T.g_HOST_SORTS rfl) (by with_unfolding_all rfl)) (pw_or1 (pt_val (pe_call (ok_comes_back T) (hr.mono (by walk_at "le")) rfl T.m_comes_back T.F_comes_back.kp T.b_comes_back .nil pass0 (pa_cons (pv 0) (pa_cons (pe_ix (ix_any' (hu_of hr)) (pv 1) (pe_glob rfl T.g_NAME.1 T.g_NAME.2) (fun _ _ => rfl)) pa_nil)))))))
    · refine pss_one ?_
      exact (ps_ret pe_bl)
    · exact pss_nil
  refine pss_one ?_
  refine ps_ret ?_
  refine pe_cmpR (op_eqA (u190 hr)) ?_ ?_ (nomark _)
  · refine pe_call (ok_frame_of T) (hr.mono (by walk_at "le")) rfl T.m_frame_of T.F_frame_of.kp T.b_frame_of .nil pass0 ?_
    refine pa_cons ?_ ?_
    · exact (pv 0)
    refine pa_cons ?_ ?_
    · exact (pe_ix (ix_any' (hu_of hr)) (pv 1) (pe_glob rfl T.g_HOST.1 T.g_HOST.2) (fun _ _ => rfl))
    exact pa_nil
  · exact (pe_ix (ix_any' (hu_of hr)) (pv 1) (pe_glob rfl T.g_NAME.1 T.g_NAME.2) (fun _ _ => rfl))
theorem ok_shuts_fit (T : Txt K mg t) : FnOk P w K mg base CX0 4 t.a_shuts_fit t.d_shuts_fit ["rows", "row"] (sp_shuts_fit K) := by
  refine T.F_shuts_fit.ok sc_shuts_fit (len_shuts_fit K) (fun cdv A outer s H vs Q E hr h => ⟨R_shuts_fit K, ?_, rd_shuts_fit h⟩)
  have S := sc_shuts_fit
  refine pss_cons ?_ ?_
  · refine ps_if ?_ ?_ ?_
    · exact (PW.pt (pw_and (pt_cmpR op_gtA (pe_callB call_lenA rfl T.z_len boot_len (pa_cons (pe_ix (ix_any' (hu_of hr)) (pv 1) (pe_glob rfl T.g_SHUTS.1 T.g_SHUTS.2) (fun _ _ => rfl)) pa_nil)) pe_int (nomark _)) (pw_and1 (pt_cmpR op_isnotA (pe_call (ok_frame_of T) (hr.mono (by walk_at "le")) rfl T.m_frame_of T.F_frame_of.kp T.b_frame_of .nil pass0 (pa_cons (pv 0) (pa_cons (pe_ix (ix_any' (hu_of hr)) (pv 1) (pe_glob rfl T.g_NAME.1 T.g_NAME.2) (fun _ _ => rfl)) pa_nil))) pe_non (nomark _)))))
    · refine pss_one ?_
      exact (ps_ret pe_bl)
    · exact pss_nil
  refine pss_cons ?_ ?_
  · exact (ps_setC (i := 2) S.nd rfl rfl rfl (comp_scope (osc := defScope s_shuts_fit) (ON := ["rows", "row", "hosts"]) (N := ["rows", "name"]) (fr := [some 0, none]) (by decide +kernel) rfl rfl) (pi_any (pe_ix (ix_any' (hu_of hr)) (pv 1) (pe_glob rfl T.g_SHUTS.1 T.g_SHUTS.2) (fun _ _ => rfl))) (fun _ _ _ _ _ _ => (pg_name (i := 1) (show List.Nodup (["rows", "name"] : List Str) by decide +kernel) rfl (Or.inl rfl))) tg_name (fun _ _ _ _ _ _ => (pts_one (pt_cmpR op_isnotA (pe_call (ok_frame_of T) (hr.mono (by walk_at "le")) rfl T.m_frame_of T.F_frame_of.kp T.b_frame_of .nil pass0 (pa_cons (pv 0) (pa_cons (pv 1) pa_nil))) pe_non (nomark _)))) (fun _ _ _ _ _ _ => (pv 1)))
  refine pss_one ?_
  exact (ps_ret (pe_and (pe_cmpR (op_eqA (u190 hr)) (pe_callB call_lenA rfl T.z_len boot_len (pa_cons (pv 2) pa_nil)) pe_int (nomark _)) (pe_one (pe_call (ok_may_be_named T) (hr.mono (by walk_at "le")) rfl T.m_may_be_named T.F_may_be_named.kp T.b_may_be_named .nil pass0 (pa_cons (pv 0) (pa_cons (pe_ix (ix_any' (hu_of hr)) (pv 1) (pe_glob rfl T.g_SHUTS.1 T.g_SHUTS.2) (fun _ _ => rfl)) pa_nil))))))
theorem ok_bars_fit (T : Txt K mg t) : FnOk P w K mg base CX0 4 t.a_bars_fit t.d_bars_fit ["rows", "row"] (sp_bars_fit K) := by
  refine T.F_bars_fit.ok sc_bars_fit (len_bars_fit K) (fun cdv A outer s H vs Q E hr h => ⟨R_bars_fit K, ?_, rd_bars_fit h⟩)
  have S := sc_bars_fit
  refine pss_one ?_
  exact (ps_ret (pe_call (ok_may_be_named T) (hr.mono (by walk_at "le")) rfl T.m_may_be_named T.F_may_be_named.kp T.b_may_be_named .nil pass0 (pa_cons (pv 0) (pa_cons (pe_ix (ix_any' (hu_of hr)) (pv 1) (pe_glob rfl T.g_BARS.1 T.g_BARS.2) (fun _ _ => rfl)) pa_nil))))
theorem ok_read_row (T : Txt K mg t) : FnOk P w K mg base CX0 4 t.a_read_row t.d_read_row ["words"] (sp_read_row K) := by
  refine T.F_read_row.ok sc_read_row (len_read_row K) (fun cdv A outer s H vs Q E hr h => ⟨R_read_row K t.c_SORTS, ?_, rd_read_row T.q_SORTS h⟩)
  have S := sc_read_row
  refine pss_cons ?_ ?_
  · refine ps_if ?_ ?_ ?_
    · exact (PW.pt (pw_or (pt_cmpR op_ltA (pe_callB call_lenA rfl T.z_len boot_len (pa_cons (pv 0) pa_nil)) pe_int (nomark _)) (pw_or (pt_not (pt_val (pe_call (ok_is_name T) (hr.mono (by walk_at "le")) rfl T.m_is_name T.F_is_name.kp T.b_is_name .nil pass0 (pa_cons (pe_ix (ix_any' (hu_of hr)) (pv 0) pe_int (fun _ _ => rfl)) pa_nil)))) (pw_or1 (pt_cmpR (op_notinB (hu_of hr)) (pe_ix (ix_any' (hu_of hr)) (pv 0) pe_int (fun _ _ => rfl)) (pe_glob rfl T.g_SORTS rfl) (by with_unfolding_all rfl))))))
    · refine pss_one ?_
      exact (ps_ret pe_non)
    · exact pss_nil
  refine pss_cons ?_ ?_
  · refine ps_set (i := 1) S.nd rfl (Or.inl rfl) ?_ rfl ?_
    · exact pe_str
    · walk_at "or"
  refine pss_cons ?_ ?_
  · refine ps_set (i := 2) S.nd rfl (Or.inl rfl) ?_ rfl ?_
    · exact pe_int
    · walk_at "or"
  refine pss_cons ?_ ?_
  · refine ps_if ?_ ?_ ?_
    · exact (pt_cmpR (op_eqA (u190 hr)) (pe_ix (ix_any' (hu_of hr)) (pv 0) pe_int (fun _ _ => rfl)) pe_str (nomark _))
    · refine pss_cons ?_ ?_
      · refine ps_if ?_ ?_ ?_
        · exact (PW.pt (pw_or (pt_cmpR op_ltA (pe_callB call_lenA rfl T.z_len boot_len (pa_cons (pv 0) pa_nil)) pe_int (nomark _)) (pw_or1 (pt_not (pt_val (pe_call (ok_is_name T) (hr.mono (by walk_at "le")) rfl T.m_is_name T.F_is_name.kp T.b_is_name .nil pass0 (pa_cons (pe_ix (ix_any' (hu_of hr)) (pv 0) pe_int (fun _ _ => rfl)) pa_nil)))))))
        · refine pss_one ?_
          exact (ps_ret pe_non)
        · exact pss_nil
      refine pss_cons ?_ ?_
      · refine ps_set (i := 1) S.nd rfl (Or.inl rfl) ?_ rfl ?_
        · exact (pe_ix (ix_any' (hu_of hr)) (pv 0) pe_int (fun _ _ => rfl))
        · walk_at "or"
      refine pss_one ?_
      refine ps_set (i := 2) S.nd rfl (Or.inl rfl) ?_ rfl ?_
      · exact pe_int
      · walk_at "or"
    · exact pss_nil
  refine pss_cons ?_ ?_
  · refine ps_set (i := 3) S.nd rfl (Or.inl rfl) ?_ rfl ?_
    · exact (pe_call (ok_names_behind T) (hr.mono (by walk_at "le")) rfl T.m_names_behind T.F_names_behind.kp T.b_names_behind .nil pass0 (pa_cons pe_str (pa_cons (pe_slice sl_any (pv 0) (po_some (pv 2)) po_none) pa_nil)))
    · walk_at "or"
  refine pss_cons ?_ ?_
  · refine ps_set (i := 2) S.nd rfl (Or.inl rfl) ?_ rfl ?_
    · exact (pe_op op_addA (pv 2) (pe_call (ok_words_for T) (hr.mono (by walk_at "le")) rfl T.m_words_for T.F_words_for.kp T.b_words_for .nil pass0 (pa_cons (pv 3) pa_nil)))
    · walk_at "or"
  refine pss_cons ?_ ?_
  · refine ps_set (i := 4) S.nd rfl (Or.inl rfl) ?_ rfl ?_
    · exact (pe_call (ok_names_behind T) (hr.mono (by walk_at "le")) rfl T.m_names_behind T.F_names_behind.kp T.b_names_behind .nil pass0 (pa_cons pe_str (pa_cons (pe_slice sl_any (pv 0) (po_some (pv 2)) po_none) pa_nil)))
    · walk_at "or"
  refine pss_cons ?_ ?_
  · refine ps_if ?_ ?_ ?_
    · exact (pt_cmpR (op_neA (u190 hr)) (pe_op op_addA (pv 2) (pe_call (ok_words_for T) (hr.mono (by walk_at "le")) rfl T.m_words_for T.F_words_for.kp T.b_words_for .nil pass0 (pa_cons (pv 4) pa_nil))) (pe_callB call_lenA rfl T.z_len boot_len (pa_cons (pv 0) pa_nil)) (nomark _))
    · refine pss_one ?_
      exact (ps_ret pe_non)
    · exact pss_nil
  refine pss_one ?_
  refine ps_ret ?_
  refine pe_tup ?_
  refine pa_cons ?_ ?_
  · exact (pe_ix (ix_any' (hu_of hr)) (pv 0) pe_int (fun _ _ => rfl))
  refine pa_cons ?_ ?_
  · exact (pe_ix (ix_any' (hu_of hr)) (pv 0) pe_int (fun _ _ => rfl))
  refine pa_cons ?_ ?_
  · exact (pv 1)
  refine pa_cons ?_ ?_
  · exact (pe_callTy call_tupleA rfl T.z_tuple boot_tuple (pa_cons (pe_callB call_sortedA rfl T.z_sorted boot_sorted (pa_cons (pv 3) pa_nil)) pa_nil))
  refine pa_cons ?_ ?_
  · exact (pe_callTy call_tupleA rfl T.z_tuple boot_tuple (pa_cons (pe_callB call_sortedA rfl T.z_sorted boot_sorted (pa_cons (pv 4) pa_nil)) pa_nil))
  exact pa_nil
theorem ok_fits (T : Txt K mg t) : FnOk P w K mg base CX0 5 t.a_fits t.d_fits ["rows", "row"] (sp_fits K) := by
  refine T.F_fits.ok sc_fits (len_fits K) (fun cdv A outer s H vs Q E hr h => ⟨R_fits K, ?_, rd_fits h⟩)
  have S := sc_fits
  refine pss_one ?_
  refine ps_ret ?_
  exact (pe_and (pe_call (ok_host_fits T) (hr.mono (by walk_at "le")) rfl T.m_host_fits T.F_host_fits.kp T.b_host_fits .nil pass0 (pa_cons (pv 0) (pa_cons (pv 1) pa_nil))) (pe_and (pe_call (ok_shuts_fit T) (hr.mono (by walk_at "le")) rfl T.m_shuts_fit T.F_shuts_fit.kp T.b_shuts_fit .nil pass0 (pa_cons (pv 0) (pa_cons (pv 1) pa_nil))) (pe_one (pe_call (ok_bars_fit T) (hr.mono (by walk_at "le")) rfl T.m_bars_fit T.F_bars_fit.kp T.b_bars_fit .nil pass0 (pa_cons (pv 0) (pa_cons (pv 1) pa_nil))))))
theorem ok_read_rows (T : Txt K mg t) : FnOk P w K mg base CX0 5 t.a_read_rows t.d_read_rows ["text"] (sp_read_rows K) := by
  refine T.F_read_rows.ok sc_read_rows (len_read_rows K) (fun cdv A outer s H vs Q E hr h => ⟨R_read_rows K, ?_, rd_read_rows h⟩)
  have S := sc_read_rows
  refine pss_cons ?_ ?_
  · refine ps_set (i := 1) S.nd rfl (Or.inl rfl) ?_ rfl ?_
    · exact (pe_lst pa_nil)
    · walk_at "or"
  refine pss_cons ?_ ?_
  · refine ps_for PassesOwn.never rfl ?_ ?_ ?_
    · exact (pi_enumL rfl T.z_enumerate (pa_cons (pe_bm PySem.F.plainAttrs_str PySem.F.slot_str_split PySem.F.type_str_split mt_split (pv 0) (pa_cons pe_str pa_nil)) pa_nil))
    · exact (pg_tup rfl (pgs_cons (pg_name (i := 2) S.nd rfl (Or.inl rfl)) (pgs_cons (pg_name (i := 3) S.nd rfl (Or.inl rfl)) pgs_nil)))
    · refine pss_cons ?_ ?_
      · refine ps_set (i := 4) S.nd rfl (Or.inl rfl) ?_ rfl ?_
        · refine pe_call (ok_read_row T) (hr.mono (by walk_at "le")) rfl T.m_read_row T.F_read_row.kp T.b_read_row .nil pass0 ?_
          refine pa_cons ?_ ?_
          · exact (pe_bm PySem.F.plainAttrs_str PySem.F.slot_str_split PySem.F.type_str_split mt_split (pv 3) (pa_cons pe_str pa_nil))
          exact pa_nil
        · walk_at "or"
      refine pss_cons ?_ ?_
      · refine ps_if ?_ ?_ ?_
        · exact (PW.pt (pw_or (pt_cmpR op_isA (pv 4) pe_non (nomark _)) (pw_or1 (pt_cmpR op_geA (pv 2) (pe_glob rfl T.g_MOST_ROWS.1 T.g_MOST_ROWS.2) (nomark _)))))
        · refine pss_one ?_
          exact ps_never
        · exact pss_nil
      refine pss_one ?_
      exact (ps_expr (pe_bm PySem.F.plainAttrs_list PySem.F.slot_list_append PySem.F.type_list_append mt_append (pv 1) (pa_cons (pv 4) pa_nil)))
  refine pss_one ?_
  exact (ps_ret (pv 1))
theorem ok_first_misfit (T : Txt K mg t) : FnOk P w K mg base CX0 6 t.a_first_misfit t.d_first_misfit ["rows"] (sp_first_misfit K) := by
  refine T.F_first_misfit.ok sc_first_misfit (len_first_misfit K) (fun cdv A outer s H vs Q E hr h => ⟨R_first_misfit K, ?_, rd_first_misfit h⟩)
  have S := sc_first_misfit
  refine pss_cons ?_ ?_
  · refine ps_set (i := 1) S.nd rfl (Or.inl rfl) ?_ rfl ?_
    · exact (pe_call (ok_first_rows T) (hr.mono (by walk_at "le")) rfl T.m_first_rows T.F_first_rows.kp T.b_first_rows .nil pass0 (pa_cons (pv 0) pa_nil))
    · walk_at "or"
  refine pss_cons ?_ ?_
  · refine ps_for PassesOwn.never rfl ?_ ?_ ?_
    · exact (pi_enumL rfl T.z_enumerate (pa_cons (pv 0) pa_nil))
    · exact (pg_tup rfl (pgs_cons (pg_name (i := 2) S.nd rfl (Or.inl rfl)) (pgs_cons (pg_name (i := 3) S.nd rfl (Or.inl rfl)) pgs_nil)))
    · refine pss_cons ?_ ?_
      · refine ps_set (i := 4) S.nd rfl (Or.inl rfl) ?_ rfl ?_
        · refine pe_cmpR op_isnotA ?_ ?_ (nomark _)
          · refine pe_call (ok_row_of T) (hr.mono (by walk_at "le")) rfl T.m_row_of T.F_row_of.kp T.b_row_of .nil pass0 ?_
            refine pa_cons ?_ ?_
            · exact (pe_slice sl_anyB (pv 0) po_none (po_some (pv 2)))
            refine pa_cons ?_ ?_
            · exact (pe_ix (ix_any' (hu_of hr)) (pv 3) (pe_glob rfl T.g_NAME.1 T.g_NAME.2) (fun _ _ => rfl))
            exact pa_nil
          · exact pe_non
        · walk_at "or"
      refine pss_one ?_
      refine ps_if ?_ ?_ ?_
      · exact (PW.pt (pw_or (pt_val (pv 4)) (pw_or1 (pt_not (pt_val (pe_call (ok_fits T) (hr.mono (by walk_at "le")) rfl T.m_fits T.F_fits.kp T.b_fits .nil pass0 (pa_cons (pv 1) (pa_cons (pv 3) pa_nil))))))))
      · refine pss_one ?_
        exact (ps_ret (pv 2))
      · exact pss_nil
  refine pss_one ?_
  exact (ps_ret pe_non)
theorem ok_read_book (T : Txt K mg t) : FnOk P w K mg base CX0 7 t.a_read_book t.d_read_book ["text"] (sp_read_book K) := by
  refine T.F_read_book.ok sc_read_book (len_read_book K) (fun cdv A outer s H vs Q E hr h => ⟨R_read_book K, ?_, rd_read_book h⟩)
  have S := sc_read_book
  refine pss_cons ?_ ?_
  · refine ps_if ?_ ?_ ?_
    · exact (pt_not (pt_val (pe_callB call_isinstanceA rfl T.z_isinstance boot_isinstance (pa_cons (pv 0) (pa_cons (pe_bltn rfl T.z_str boot_str rfl) pa_nil)))))
    · refine pss_one ?_
      exact ps_never
    · exact pss_nil
  refine pss_cons ?_ ?_
  · refine ps_set (i := 1) S.nd rfl (Or.inl rfl) ?_ rfl ?_
    · exact (pe_ifExp (pt_cmpR (op_eqA (u190 hr)) (pv 0) pe_str (nomark _)) (pe_lst pa_nil) (pe_call (ok_read_rows T) (hr.mono (by walk_at "le")) rfl T.m_read_rows T.F_read_rows.kp T.b_read_rows .nil pass0 (pa_cons (pv 0) pa_nil)))
    · walk_at "or"
  refine pss_cons ?_ ?_
  · refine ps_set (i := 2) S.nd rfl (Or.inl rfl) ?_ rfl ?_
    · exact (pe_call (ok_first_misfit T) (hr.mono (by walk_at "le")) rfl T.m_first_misfit T.F_first_misfit.kp T.b_first_misfit .nil pass0 (pa_cons (pv 1) pa_nil))
    · walk_at "or"
  refine pss_cons ?_ ?_
  · refine ps_if ?_ ?_ ?_
    · exact (pt_cmpR op_isnotA (pv 2) pe_non (nomark _))
    · refine pss_one ?_
      exact ps_never
    · exact pss_nil
  refine pss_one ?_
  exact (ps_ret (pe_callTy call_tupleA rfl T.z_tuple boot_tuple (pa_cons (pv 1) pa_nil)))
theorem okx_read_book (T : Txt K mg t) : FnOk P w K mg base (Fly P w) 7 t.a_read_book t.d_read_book ["text"] (spx_read_book K t.k_NoBook) := by
  refine T.F_read_book.okX sc_read_book (lenx_read_book K _) (fun cdv A outer s H vs Q E hr h => ⟨Rx_read_book K t.k_NoBook E, ?_, rdx_read_book T.se_NoBook h⟩)
  have S := sc_read_book
  refine pss_cons ?_ ?_
  · refine ps_if ?_ ?_ ?_
    · exact (pt_not (pt_val (pe_callB call_isinstanceA rfl T.z_isinstance boot_isinstance (pa_cons (pv 0) (pa_cons (pe_bltn rfl T.z_str boot_str rfl) pa_nil)))))
    · refine pss_one ?_
      exact ps_never
    · exact pss_nil
  refine pss_cons ?_ ?_
  · refine ps_set (i := 1) S.nd rfl (Or.inl rfl) ?_ rfl ?_
    · exact (pe_ifExp (pt_cmpR (op_eqA (u190 hr)) (pv 0) pe_str (nomark _)) (pe_lst pa_nil) (pe_call (ok_read_rows T) (hr.mono (by walk_at "le")) rfl T.m_read_rows T.F_read_rows.kp T.b_read_rows .nil pass0 (pa_cons (pv 0) pa_nil)))
    · walk_at "or"
  refine pss_cons ?_ ?_
  · refine ps_set (i := 2) S.nd rfl (Or.inl rfl) ?_ rfl ?_
    · exact (pe_call (ok_first_misfit T) (hr.mono (by walk_at "le")) rfl T.m_first_misfit T.F_first_misfit.kp T.b_first_misfit .nil pass0 (pa_cons (pv 1) pa_nil))
    · walk_at "or"
  refine pss_cons ?_ ?_
  · refine ps_if ?_ ?_ ?_
    · exact (pt_cmpR op_isnotA (pv 2) pe_non (nomark _))
    · refine pss_one ?_
      exact (ps_raiseI T.m_i_NoBook (ok_i_NoBook T) (hr.mono (by walk_at "le")) T.b_i_NoBook throwsX_cx rfl rfl (pa_cons (pv 2) pa_nil))
    · exact pss_nil
  refine pss_one ?_
  exact (ps_ret (pe_callTy call_tupleA rfl T.z_tuple boot_tuple (pa_cons (pv 1) pa_nil)))
theorem ok__law_row_told (T : Txt K mg t) : FnOk P w K mg base CX0 8 t.a__law_row_told t.d__law_row_told ["_law_text"] (sp__law_row_told K) := by
  refine T.F__law_row_told.ok sc__law_row_told (len__law_row_told K) (fun cdv A outer s H vs Q E hr h => ⟨R__law_row_told K t.k_NoBook, ?_, rd__law_row_told T.ei_NoBook h⟩)
  have S := sc__law_row_told
  refine pss_cons ?_ ?_
  · refine ps_set (i := 1) S.nd rfl (Or.inl rfl) ?_ rfl ?_
    · exact pe_non
    · walk_at "or"
  refine pss_cons ?_ ?_
  · exact (ps_tryD (i := 2) (px_call (okx_read_book T) (hr.mono (by walk_at "le")) rfl T.m_read_book T.F_read_book.kp T.b_read_book .nil (fun _ => (pa_cons (pv 0) pa_nil))) rfl T.n_NoBook T.y_NoBook_NoBook S.nd rfl rfl (fun _ _ => (pss_one (ps_set (i := 1) S.nd rfl (Or.inl rfl) (pv 2)))))
  refine pss_cons ?_ ?_
  · refine ps_if ?_ ?_ ?_
    · exact (PW.pt (pw_or (pt_cmpR op_isA (pv 1) pe_non (nomark _)) (pw_or1 (pt_val (pe_callB call_isinstanceA rfl T.z_isinstance boot_isinstance (pa_cons (pe_xat (pv 1) rfl) (pa_cons (pe_bltn rfl T.z_bool boot_bool rfl) pa_nil)))))))
    · refine pss_one ?_
      exact (ps_ret (pe_un un_neg pe_int))
    · exact pss_nil
  refine pss_one ?_
  exact (ps_ret (pe_xat (pv 1) rfl))
theorem ok_law (T : Txt K mg t) : FnOk P w K mg base CX0 9 t.a_law t.d_law ["_law_script"] (sp_law K) := by
  refine T.F_law.ok sc_law (len_law K) (fun cdv A outer s H vs Q E hr h => ⟨R_law K, ?_, rd_law h⟩)
  have S := sc_law
  refine pss_cons ?_ ?_
  · refine ps_set (i := 1) S.nd rfl (Or.inl rfl) ?_ rfl ?_
    · exact (pe_op op_addA pe_int (pe_op op_mod (pe_call (ok__law_cell_at T) (hr.mono (by walk_at "le")) rfl T.m__law_cell_at T.F__law_cell_at.kp T.b__law_cell_at .nil pass0 (pa_cons (pv 0) (pa_cons pe_int pa_nil))) pe_int))
    · walk_at "or"
  refine pss_cons ?_ ?_
  · refine ps_set (i := 2) S.nd rfl (Or.inr rfl) ?_ rfl ?_
    · refine pe_call (ok__law_names T) (hr.mono (by walk_at "le")) rfl T.m__law_names T.F__law_names.kp T.b__law_names .nil pass0 ?_
      refine pa_cons ?_ ?_
      · exact (pe_call (ok__law_cell_at T) (hr.mono (by walk_at "le")) rfl T.m__law_cell_at T.F__law_cell_at.kp T.b__law_cell_at .nil pass0 (pa_cons (pv 0) (pa_cons pe_int pa_nil)))
      refine pa_cons ?_ ?_
      · exact (pe_call (ok__law_cell_at T) (hr.mono (by walk_at "le")) rfl T.m__law_cell_at T.F__law_cell_at.kp T.b__law_cell_at .nil pass0 (pa_cons (pv 0) (pa_cons pe_int pa_nil)))
      refine pa_cons ?_ ?_
      · exact pe_int
      exact pa_nil
    · walk_at "or"
  refine pss_cons ?_ ?_
  · refine ps_set (i := 3) S.nd rfl (Or.inl rfl) ?_ rfl ?_
    · exact (pe_call (ok__law_cell_at T) (hr.mono (by walk_at "le")) rfl T.m__law_cell_at T.F__law_cell_at.kp T.b__law_cell_at .nil pass0 (pa_cons (pv 0) (pa_cons pe_int pa_nil)))
    · walk_at "or"
  refine pss_cons ?_ ?_
  · exact (ps_setC (i := 4) S.nd rfl rfl rfl (comp_scope (osc := defScope s_law) (ON := ["_law_script", "_law_count", "_law_names_here", "_law_number", "_law_lines", "_law_rows", "_law_book", "_law_k", "_law_j", "_law_found", "_law_back", "_law_spots"]) (N := ["_law_names_here", "_law_k"]) (fr := [some 2, none]) (by decide +kernel) rfl rfl) (pi_range1 rfl T.z_range (pa_cons (pv 1) pa_nil)) (fun _ _ _ _ _ _ => (pg_name (i := 1) (show List.Nodup (["_law_names_here", "_law_k"] : List Str) by decide +kernel) rfl (Or.inl rfl))) tg_name (fun _ _ _ _ _ _ => pts_nil) (fun _ _ _ _ _ _ => (pe_op op_addA (pe_op op_addA (pe_ix (ix_any' (hu_of hr)) (pv 0) (pv 1) (fun _ _ => rfl)) pe_str) (pe_ix (ix_any' (hu_of hr)) (pv 0) (pe_op op_addA (pv 1) pe_int) (fun _ _ => rfl)))))
  refine pss_cons ?_ ?_
  · refine ps_set (i := 5) S.nd rfl (Or.inr rfl) ?_ rfl ?_
    · refine pe_call (ok__law_turned T) (hr.mono (by walk_at "le")) rfl T.m__law_turned T.F__law_turned.kp T.b__law_turned .nil pass0 ?_
      refine pa_cons ?_ ?_
      · exact (pe_op op_addA (pv 4) (pe_lst (pa_cons (pe_op op_addA (pe_ix (ix_any' (hu_of hr)) (pv 2) (pv 1) (fun _ _ => rfl)) pe_str) pa_nil)))
      refine pa_cons ?_ ?_
      · exact (pv 3)
      exact pa_nil
    · walk_at "or"
  refine pss_cons ?_ ?_
  · refine ps_set (i := 6) S.nd rfl (Or.inl rfl) ?_ rfl ?_
    · refine pe_call (ok_read_book T) (hr.mono (by walk_at "le")) rfl T.m_read_book T.F_read_book.kp T.b_read_book .nil pass0 ?_
      refine pa_cons ?_ ?_
      · exact (pe_bm PySem.F.plainAttrs_str PySem.F.slot_str_join PySem.F.type_str_join mt_join pe_str (pa_cons (pv 5) pa_nil))
      exact pa_nil
    · walk_at "or"
  refine pss_cons ?_ ?_
  · refine ps_if ?_ ?_ ?_
    · exact (pt_cmpR (op_neA (u190 hr)) (pe_callB call_lenA rfl T.z_len boot_len (pa_cons (pv 6) pa_nil)) (pe_op op_addA (pv 1) pe_int) (nomark _))
    · refine pss_one ?_
      exact (ps_ret pe_bl)
    · exact pss_nil
  refine pss_cons ?_ ?_
  · refine ps_for PassesOwn.never rfl ?_ ?_ ?_
    · exact (pi_range1 rfl T.z_range (pa_cons (pe_op op_addA (pv 1) pe_int) pa_nil))
    · exact (pg_name (i := 7) S.nd rfl (Or.inl rfl))
    · refine pss_cons ?_ ?_
      · refine ps_if ?_ ?_ ?_
        · exact (pt_cmpR (op_neA (u190 hr)) (pe_call (ok_host_of T) (hr.mono (by walk_at "le")) rfl T.m_host_of T.F_host_of.kp T.b_host_of .nil pass0 (pa_cons (pv 6) (pa_cons (pe_ix (ix_any' (hu_of hr)) (pv 2) (pv 7) (fun _ _ => rfl)) pa_nil))) (pe_ix (ix_any' (hu_of hr)) (pe_op op_addA (pv 2) (pe_lst (pa_cons pe_non pa_nil))) (pe_ix (ix_any' (hu_of hr)) (pe_lst (pa_cons (pe_op op_addA (pv 7) pe_int) (pa_cons pe_int pa_nil))) (pe_callTy call_intA rfl T.z_int boot_int (pa_cons (pe_cmpR (op_eqA (u190 hr)) (pv 7) (pv 1) (nomark _)) pa_nil)) (fun _ _ => rfl)) (fun _ _ => rfl)) (nomark _))
        · refine pss_one ?_
          exact (ps_ret pe_bl)
        · exact pss_nil
      refine pss_cons ?_ ?_
      · refine ps_if ?_ ?_ ?_
        · exact (pt_cmpR (op_neA (u190 hr)) (pe_call (ok_frame_of T) (hr.mono (by walk_at "le")) rfl T.m_frame_of T.F_frame_of.kp T.b_frame_of .nil pass0 (pa_cons (pv 6) (pa_cons (pe_ix (ix_any' (hu_of hr)) (pv 2) (pv 7) (fun _ _ => rfl)) pa_nil))) (pe_ix (ix_any' (hu_of hr)) (pe_op op_addA (pe_lst (pa_cons pe_non pa_nil)) (pv 2)) (pv 7) (fun _ _ => rfl)) (nomark _))
        · refine pss_one ?_
          exact (ps_ret pe_bl)
        · exact pss_nil
      refine pss_one ?_
      refine ps_for PassesOwn.never rfl ?_ ?_ ?_
      · exact (pi_range1 rfl T.z_range (pa_cons (pe_op op_addA (pv 1) pe_int) pa_nil))
      · exact (pg_name (i := 8) S.nd rfl (Or.inl rfl))
      · refine pss_cons ?_ ?_
        · refine ps_set (i := 9) S.nd rfl (Or.inl rfl) ?_ rfl ?_
          · refine pe_call (ok_belongs T) (hr.mono (by walk_at "le")) rfl T.m_belongs T.F_belongs.kp T.b_belongs .nil pass0 ?_
            refine pa_cons ?_ ?_
            · exact (pv 6)
            refine pa_cons ?_ ?_
            · exact (pe_ix (ix_any' (hu_of hr)) (pv 2) (pv 7) (fun _ _ => rfl))
            refine pa_cons ?_ ?_
            · exact (pe_ix (ix_any' (hu_of hr)) (pv 2) (pv 8) (fun _ _ => rfl))
            exact pa_nil
          · walk_at "or"
        refine pss_one ?_
        refine ps_if ?_ ?_ ?_
        · exact (PW.pt (pw_or (pt_not (pt_val (pe_callB call_isinstanceA rfl T.z_isinstance boot_isinstance (pa_cons (pv 9) (pa_cons (pe_bltn rfl T.z_bool boot_bool rfl) pa_nil))))) (pw_or1 (pt_cmpR (op_neA (u190 hr)) (pv 9) (pe_cmpR op_ltA (pv 8) (pv 7) (nomark _)) (nomark _)))))
        · refine pss_one ?_
          exact (ps_ret pe_bl)
        · exact pss_nil
  refine pss_cons ?_ ?_
  · refine ps_set (i := 10) S.nd rfl (Or.inl rfl) ?_ rfl ?_
    · exact (pe_op op_mod (pe_call (ok__law_cell_at T) (hr.mono (by walk_at "le")) rfl T.m__law_cell_at T.F__law_cell_at.kp T.b__law_cell_at .nil pass0 (pa_cons (pv 0) (pa_cons pe_int pa_nil))) (pv 1))
    · walk_at "or"
  refine pss_cons ?_ ?_
  · refine ps_set (i := 4) S.nd rfl (Or.inl rfl) ?_ rfl ?_
    · refine pe_op op_addA ?_ ?_
      · exact (pe_slice sl_any (pv 4) po_none (po_some (pe_un un_neg pe_int)))
      · refine pe_lst ?_
        refine pa_cons ?_ ?_
        · refine pe_op op_addA ?_ ?_
          · exact (pe_op op_addA (pe_ix (ix_any' (hu_of hr)) (pv 2) (pe_op op_sub (pv 1) pe_int) (fun _ _ => rfl)) pe_str)
          · exact (pe_ix (ix_any' (hu_of hr)) (pv 2) (pv 10) (fun _ _ => rfl))
        exact pa_nil
    · walk_at "or"
  refine pss_cons ?_ ?_
  · refine ps_set (i := 5) S.nd rfl (Or.inr rfl) ?_ rfl ?_
    · refine pe_call (ok__law_turned T) (hr.mono (by walk_at "le")) rfl T.m__law_turned T.F__law_turned.kp T.b__law_turned .nil pass0 ?_
      refine pa_cons ?_ ?_
      · exact (pe_op op_addA (pv 4) (pe_lst (pa_cons (pe_op op_addA (pe_ix (ix_any' (hu_of hr)) (pv 2) (pv 1) (fun _ _ => rfl)) pe_str) pa_nil)))
      refine pa_cons ?_ ?_
      · exact (pv 3)
      exact pa_nil
    · walk_at "or"
  refine pss_cons ?_ ?_
  · exact (ps_setC (i := 11) S.nd rfl rfl rfl (comp_scope (osc := defScope s_law) (ON := ["_law_script", "_law_count", "_law_names_here", "_law_number", "_law_lines", "_law_rows", "_law_book", "_law_k", "_law_j", "_law_found", "_law_back", "_law_spots"]) (N := ["_law_rows", "_law_line"]) (fr := [some 5, none]) (by decide +kernel) rfl rfl) (pi_any (pe_slice sl_any (pv 4) (po_some (pv 10)) po_none)) (fun _ _ _ _ _ _ => (pg_name (i := 1) (show List.Nodup (["_law_rows", "_law_line"] : List Str) by decide +kernel) rfl (Or.inl rfl))) tg_name (fun _ _ _ _ _ _ => pts_nil) (fun _ _ _ _ _ _ => (pe_bm PySem.F.plainAttrs_list PySem.F.slot_list_index PySem.F.type_list_index mt_indexL (pv 0) (pa_cons (pv 1) pa_nil))))
  refine pss_cons ?_ ?_
  · refine ps_if ?_ ?_ ?_
    · exact (pt_cmpR op_gtA (pv 10) pe_int (nomark _))
    · refine pss_one ?_
      exact (ps_expr (pe_bm PySem.F.plainAttrs_list PySem.F.slot_list_append PySem.F.type_list_append mt_append (pv 11) (pa_cons (pe_callB (call_maxA rfl) rfl T.z_max boot_max (pa_cons (pe_bm PySem.F.plainAttrs_list PySem.F.slot_list_index PySem.F.type_list_index mt_indexL (pv 5) (pa_cons (pe_ix (ix_any' (hu_of hr)) (pv 4) (pe_op op_sub (pv 10) pe_int) (fun _ _ => rfl)) pa_nil)) (pa_cons (pe_bm PySem.F.plainAttrs_list PySem.F.slot_list_index PySem.F.type_list_index mt_indexL (pv 5) (pa_cons (pe_ix (ix_any' (hu_of hr)) (pv 4) (pe_un un_neg pe_int) (fun _ _ => rfl)) pa_nil)) pa_nil))) pa_nil)))
    · exact pss_nil
  refine pss_cons ?_ ?_
  · refine ps_if ?_ ?_ ?_
    · exact (pt_cmpR (op_neA (u190 hr)) (pe_call (ok__law_row_told T) (hr.mono (by walk_at "le")) rfl T.m__law_row_told T.F__law_row_told.kp T.b__law_row_told .nil pass0 (pa_cons (pe_bm PySem.F.plainAttrs_str PySem.F.slot_str_join PySem.F.type_str_join mt_join pe_str (pa_cons (pv 5) pa_nil)) pa_nil)) (pe_callB (call_minL rfl) rfl T.z_min boot_min (pa_cons (pv 11) pa_nil)) (nomark _))
    · refine pss_one ?_
      exact (ps_ret pe_bl)
    · exact pss_nil
  refine pss_cons ?_ ?_
  · refine ps_if ?_ ?_ ?_
    · exact (pt_cmpR (op_eqA (u190 hr)) (pv 1) pe_int (nomark _))
    · refine pss_one ?_
      exact (ps_ret pe_bl)
    · exact pss_nil
  refine pss_cons ?_ ?_
  · refine ps_set (i := 4) S.nd rfl (Or.inl rfl) ?_ rfl ?_
    · refine pe_op op_addA ?_ ?_
      · exact (pe_comp rfl (comp_scope (osc := defScope s_law) (ON := ["_law_script", "_law_count", "_law_names_here", "_law_number", "_law_lines", "_law_rows", "_law_book", "_law_k", "_law_j", "_law_found", "_law_back", "_law_spots"]) (N := ["_law_names_here", "_law_k"]) (fr := [some 2, none]) (by decide +kernel) rfl rfl) (pi_range1 rfl T.z_range (pa_cons (pv 1) pa_nil)) (fun _ _ _ _ _ _ => (pg_name (i := 1) (show List.Nodup (["_law_names_here", "_law_k"] : List Str) by decide +kernel) rfl (Or.inl rfl))) tg_name (fun _ _ _ _ _ _ => pts_nil) (fun _ _ _ _ _ _ => (pe_op op_addA (pe_op op_addA (pe_ix (ix_any' (hu_of hr)) (pv 0) (pv 1) (fun _ _ => rfl)) pe_str) (pe_ix (ix_any' (hu_of hr)) (pv 0) (pe_op op_addA (pv 1) pe_int) (fun _ _ => rfl)))))
      · refine pe_lst ?_
        refine pa_cons ?_ ?_
        · refine pe_op op_addA ?_ ?_
          · exact (pe_op op_addA (pe_ix (ix_any' (hu_of hr)) (pv 2) pe_int (fun _ _ => rfl)) pe_str)
          · exact (pe_ix (ix_any' (hu_of hr)) (pv 2) (pv 1) (fun _ _ => rfl))
        exact pa_nil
    · walk_at "or"
  refine pss_cons ?_ ?_
  · refine ps_set (i := 5) S.nd rfl (Or.inr rfl) ?_ rfl ?_
    · refine pe_call (ok__law_turned T) (hr.mono (by walk_at "le")) rfl T.m__law_turned T.F__law_turned.kp T.b__law_turned .nil pass0 ?_
      refine pa_cons ?_ ?_
      · exact (pe_op op_addA (pv 4) (pe_lst (pa_cons (pe_op op_addA (pe_ix (ix_any' (hu_of hr)) (pv 2) (pv 1) (fun _ _ => rfl)) pe_str) pa_nil)))
      refine pa_cons ?_ ?_
      · exact (pv 3)
      exact pa_nil
    · walk_at "or"
  refine pss_one ?_
  refine ps_ret ?_
  refine pe_cmpR (op_eqA (u190 hr)) ?_ ?_ (nomark _)
  · refine pe_call (ok__law_row_told T) (hr.mono (by walk_at "le")) rfl T.m__law_row_told T.F__law_row_told.kp T.b__law_row_told .nil pass0 ?_
    refine pa_cons ?_ ?_
    · exact (pe_bm PySem.F.plainAttrs_str PySem.F.slot_str_join PySem.F.type_str_join mt_join pe_str (pa_cons (pv 5) pa_nil))
    exact pa_nil
  · exact (pe_callB (call_maxA rfl) rfl T.z_max boot_max (pa_cons (pe_bm PySem.F.plainAttrs_list PySem.F.slot_list_index PySem.F.type_list_index mt_indexL (pv 5) (pa_cons (pe_ix (ix_any' (hu_of hr)) (pv 4) (pe_un un_neg pe_int) (fun _ _ => rfl)) pa_nil)) (pa_cons (pe_bm PySem.F.plainAttrs_list PySem.F.slot_list_index PySem.F.type_list_index mt_indexL (pv 5) (pa_cons (pe_ix (ix_any' (hu_of hr)) (pv 4) (pe_un un_neg pe_int) (fun _ _ => rfl)) pa_nil)) pa_nil)))
end
theorem ln1 {us : List Value} (h : us.length = 1) : ∃ x0, us = [x0] := by
  match us, h with
  | [x0], _ => exact ⟨x0, rfl⟩
theorem ln2 {us : List Value} (h : us.length = 2) : ∃ x0 x1, us = [x0, x1] := by
  match us, h with
  | [x0, x1], _ => exact ⟨x0, x1, rfl⟩
theorem ln3 {us : List Value} (h : us.length = 3) : ∃ x0 x1 x2, us = [x0, x1, x2] := by
  match us, h with
  | [x0, x1, x2], _ => exact ⟨x0, x1, x2, rfl⟩
theorem all_mk {l : PySem.W.OpenLaw} {w : World} {K : PySem.W.Frag} {h : Heap} {mg : Str → Option Value} {fa f0 f1 f2 f3 f4 f5 f6 f7 f8 f9 f10 f11 f12 f13 f14 f15 f16 f17 f18 f19 f20 f21 f22 f23 f24 f25 f26 f27 f28 : Addr} (X : K.In h) (G : h.Ns mainGlobals mg) (hfa : mg "law" = some (.ref fa))
    {od0 an0 od1 an1 od2 an2 od3 an3 od4 an4 od5 an5 od6 an6 od7 an7 od8 an8 od9 an9 od10 an10 od11 an11 od12 an12 od13 an13 od14 an14 od15 an15 od16 an16 od17 an17 od18 an18 od19 an19 od20 an20 od21 an21 od22 an22 od23 an23 od24 an24 od25 an25 od26 an26 od27 an27 od28 an28 : Option Addr} {sl0 sl1 sl2 sl3 sl4 sl5 sl6 sl7 sl8 sl9 sl10 sl11 sl12 sl13 sl14 sl15 sl16 sl17 sl18 sl19 sl20 sl21 sl22 sl23 sl24 sl25 sl26 sl27 sl28 : Array (Option Value)} {oc0 kV0 dc0 pm0 cd0 ct0 oc1 kV1 dc1 pm1 cd1 ct1 oc2 kV2 dc2 pm2 cd2 ct2 oc3 kV3 dc3 pm3 cd3 ct3 oc4 kV4 dc4 pm4 cd4 ct4 oc5 kV5 dc5 pm5 cd5 ct5 oc6 kV6 dc6 pm6 cd6 ct6 oc7 kV7 dc7 pm7 cd7 ct7 oc8 kV8 dc8 pm8 cd8 ct8 oc9 kV9 dc9 pm9 cd9 ct9 oc10 kV10 dc10 pm10 cd10 ct10 oc11 kV11 dc11 pm11 cd11 ct11 oc12 kV12 dc12 pm12 cd12 ct12 oc13 kV13 dc13 pm13 cd13 ct13 oc14 kV14 dc14 pm14 cd14 ct14 oc15 kV15 dc15 pm15 cd15 ct15 oc16 kV16 dc16 pm16 cd16 ct16 oc17 kV17 dc17 pm17 cd17 ct17 oc18 kV18 dc18 pm18 cd18 ct18 oc19 kV19 dc19 pm19 cd19 ct19 oc20 kV20 dc20 pm20 cd20 ct20 oc21 kV21 dc21 pm21 cd21 ct21 oc22 kV22 dc22 pm22 cd22 ct22 oc23 kV23 dc23 pm23 cd23 ct23 oc24 kV24 dc24 pm24 cd24 ct24 oc25 kV25 dc25 pm25 cd25 ct25 oc26 kV26 dc26 pm26 cd26 ct26 oc27 kV27 dc27 pm27 cd27 ct27 oc28 kV28 dc28 pm28 cd28 ct28 : Value}
    {k_LONGEST_NAME k_MOST_ROWS k_NAME k_SORT k_HOST k_SHUTS k_BARS : Tok}
    {c_SORTS : Addr} {d_SORTS : Option Addr} {n_SORTS : Nat} {sl_SORTS : Array (Option Value)} {k_SORTS_0 k_SORTS_1 k_SORTS_2 k_SORTS_3 k_SORTS_4 : Tok}
    {c_HOST_SORTS : Addr} {d_HOST_SORTS : Option Addr} {n_HOST_SORTS : Nat} {sl_HOST_SORTS : Array (Option Value)} {k_HOST_SORTS_0 k_HOST_SORTS_1 : Tok}
    {c_SHUT_OR_BARRED_SORTS : Addr} {d_SHUT_OR_BARRED_SORTS : Option Addr} {n_SHUT_OR_BARRED_SORTS : Nat} {sl_SHUT_OR_BARRED_SORTS : Array (Option Value)} {k_SHUT_OR_BARRED_SORTS_0 k_SHUT_OR_BARRED_SORTS_1 : Tok}
    {c_KEYWORDS : Addr} {d_KEYWORDS : Option Addr} {n_KEYWORDS : Nat} {sl_KEYWORDS : Array (Option Value)} {k_KEYWORDS_0 k_KEYWORDS_1 : Tok}
    {k_NoBook k_TagError : Addr} (eNoBook : PySem.W.nsIn K mainGlobals "NoBook" = some (some (.ref k_NoBook))) (eTagError : PySem.W.nsIn K mainGlobals "TagError" = some (some (.ref k_TagError)))
    (a0 : PySem.W.nsIn K mainGlobals "is_name" = some (some (.ref f0))) (l0 : K.lookup f0 = some ⟨oc0, od0, .func (PySem.W.fnOf "is_name" "is_name" (defArgs s_is_name) (defBody s_is_name) (defScope s_is_name) .none kV0 dc0 pm0 an0 cd0 ct0), sl0⟩) (c0 : PySem.W.codeIn K cd0 "is_name" = true) (k0 : PySem.W.keepIn K (.ref f0) = true)
    (a1 : PySem.W.nsIn K mainGlobals "has_letters_of_name" = some (some (.ref f1))) (l1 : K.lookup f1 = some ⟨oc1, od1, .func (PySem.W.fnOf "has_letters_of_name" "has_letters_of_name" (defArgs s_has_letters_of_name) (defBody s_has_letters_of_name) (defScope s_has_letters_of_name) .none kV1 dc1 pm1 an1 cd1 ct1), sl1⟩) (c1 : PySem.W.codeIn K cd1 "has_letters_of_name" = true) (k1 : PySem.W.keepIn K (.ref f1) = true)
    (a2 : PySem.W.nsIn K mainGlobals "is_rising" = some (some (.ref f2))) (l2 : K.lookup f2 = some ⟨oc2, od2, .func (PySem.W.fnOf "is_rising" "is_rising" (defArgs s_is_rising) (defBody s_is_rising) (defScope s_is_rising) .none kV2 dc2 pm2 an2 cd2 ct2), sl2⟩) (c2 : PySem.W.codeIn K cd2 "is_rising" = true) (k2 : PySem.W.keepIn K (.ref f2) = true)
    (a3 : PySem.W.nsIn K mainGlobals "row_of" = some (some (.ref f3))) (l3 : K.lookup f3 = some ⟨oc3, od3, .func (PySem.W.fnOf "row_of" "row_of" (defArgs s_row_of) (defBody s_row_of) (defScope s_row_of) .none kV3 dc3 pm3 an3 cd3 ct3), sl3⟩) (c3 : PySem.W.codeIn K cd3 "row_of" = true) (k3 : PySem.W.keepIn K (.ref f3) = true)
    (a4 : PySem.W.nsIn K mainGlobals "sort_of" = some (some (.ref f4))) (l4 : K.lookup f4 = some ⟨oc4, od4, .func (PySem.W.fnOf "sort_of" "sort_of" (defArgs s_sort_of) (defBody s_sort_of) (defScope s_sort_of) .none kV4 dc4 pm4 an4 cd4 ct4), sl4⟩) (c4 : PySem.W.codeIn K cd4 "sort_of" = true) (k4 : PySem.W.keepIn K (.ref f4) = true)
    (a5 : PySem.W.nsIn K mainGlobals "host_of" = some (some (.ref f5))) (l5 : K.lookup f5 = some ⟨oc5, od5, .func (PySem.W.fnOf "host_of" "host_of" (defArgs s_host_of) (defBody s_host_of) (defScope s_host_of) .none kV5 dc5 pm5 an5 cd5 ct5), sl5⟩) (c5 : PySem.W.codeIn K cd5 "host_of" = true) (k5 : PySem.W.keepIn K (.ref f5) = true)
    (a6 : PySem.W.nsIn K mainGlobals "frame_of" = some (some (.ref f6))) (l6 : K.lookup f6 = some ⟨oc6, od6, .func (PySem.W.fnOf "frame_of" "frame_of" (defArgs s_frame_of) (defBody s_frame_of) (defScope s_frame_of) .none kV6 dc6 pm6 an6 cd6 ct6), sl6⟩) (c6 : PySem.W.codeIn K cd6 "frame_of" = true) (k6 : PySem.W.keepIn K (.ref f6) = true)
    (a7 : PySem.W.nsIn K mainGlobals "belongs" = some (some (.ref f7))) (l7 : K.lookup f7 = some ⟨oc7, od7, .func (PySem.W.fnOf "belongs" "belongs" (defArgs s_belongs) (defBody s_belongs) (defScope s_belongs) .none kV7 dc7 pm7 an7 cd7 ct7), sl7⟩) (c7 : PySem.W.codeIn K cd7 "belongs" = true) (k7 : PySem.W.keepIn K (.ref f7) = true)
    (a8 : PySem.W.nsIn K mainGlobals "first_misfit" = some (some (.ref f8))) (l8 : K.lookup f8 = some ⟨oc8, od8, .func (PySem.W.fnOf "first_misfit" "first_misfit" (defArgs s_first_misfit) (defBody s_first_misfit) (defScope s_first_misfit) .none kV8 dc8 pm8 an8 cd8 ct8), sl8⟩) (c8 : PySem.W.codeIn K cd8 "first_misfit" = true) (k8 : PySem.W.keepIn K (.ref f8) = true)
    (a9 : PySem.W.nsIn K mainGlobals "first_rows" = some (some (.ref f9))) (l9 : K.lookup f9 = some ⟨oc9, od9, .func (PySem.W.fnOf "first_rows" "first_rows" (defArgs s_first_rows) (defBody s_first_rows) (defScope s_first_rows) .none kV9 dc9 pm9 an9 cd9 ct9), sl9⟩) (c9 : PySem.W.codeIn K cd9 "first_rows" = true) (k9 : PySem.W.keepIn K (.ref f9) = true)
    (a10 : PySem.W.nsIn K mainGlobals "fits" = some (some (.ref f10))) (l10 : K.lookup f10 = some ⟨oc10, od10, .func (PySem.W.fnOf "fits" "fits" (defArgs s_fits) (defBody s_fits) (defScope s_fits) .none kV10 dc10 pm10 an10 cd10 ct10), sl10⟩) (c10 : PySem.W.codeIn K cd10 "fits" = true) (k10 : PySem.W.keepIn K (.ref f10) = true)
    (a11 : PySem.W.nsIn K mainGlobals "host_fits" = some (some (.ref f11))) (l11 : K.lookup f11 = some ⟨oc11, od11, .func (PySem.W.fnOf "host_fits" "host_fits" (defArgs s_host_fits) (defBody s_host_fits) (defScope s_host_fits) .none kV11 dc11 pm11 an11 cd11 ct11), sl11⟩) (c11 : PySem.W.codeIn K cd11 "host_fits" = true) (k11 : PySem.W.keepIn K (.ref f11) = true)
    (a12 : PySem.W.nsIn K mainGlobals "comes_back" = some (some (.ref f12))) (l12 : K.lookup f12 = some ⟨oc12, od12, .func (PySem.W.fnOf "comes_back" "comes_back" (defArgs s_comes_back) (defBody s_comes_back) (defScope s_comes_back) .none kV12 dc12 pm12 an12 cd12 ct12), sl12⟩) (c12 : PySem.W.codeIn K cd12 "comes_back" = true) (k12 : PySem.W.keepIn K (.ref f12) = true)
    (a13 : PySem.W.nsIn K mainGlobals "shuts_fit" = some (some (.ref f13))) (l13 : K.lookup f13 = some ⟨oc13, od13, .func (PySem.W.fnOf "shuts_fit" "shuts_fit" (defArgs s_shuts_fit) (defBody s_shuts_fit) (defScope s_shuts_fit) .none kV13 dc13 pm13 an13 cd13 ct13), sl13⟩) (c13 : PySem.W.codeIn K cd13 "shuts_fit" = true) (k13 : PySem.W.keepIn K (.ref f13) = true)
    (a14 : PySem.W.nsIn K mainGlobals "bars_fit" = some (some (.ref f14))) (l14 : K.lookup f14 = some ⟨oc14, od14, .func (PySem.W.fnOf "bars_fit" "bars_fit" (defArgs s_bars_fit) (defBody s_bars_fit) (defScope s_bars_fit) .none kV14 dc14 pm14 an14 cd14 ct14), sl14⟩) (c14 : PySem.W.codeIn K cd14 "bars_fit" = true) (k14 : PySem.W.keepIn K (.ref f14) = true)
    (a15 : PySem.W.nsIn K mainGlobals "may_be_named" = some (some (.ref f15))) (l15 : K.lookup f15 = some ⟨oc15, od15, .func (PySem.W.fnOf "may_be_named" "may_be_named" (defArgs s_may_be_named) (defBody s_may_be_named) (defScope s_may_be_named) .none kV15 dc15 pm15 an15 cd15 ct15), sl15⟩) (c15 : PySem.W.codeIn K cd15 "may_be_named" = true) (k15 : PySem.W.keepIn K (.ref f15) = true)
    (a16 : PySem.W.nsIn K mainGlobals "read_book" = some (some (.ref f16))) (l16 : K.lookup f16 = some ⟨oc16, od16, .func (PySem.W.fnOf "read_book" "read_book" (defArgs s_read_book) (defBody s_read_book) (defScope s_read_book) .none kV16 dc16 pm16 an16 cd16 ct16), sl16⟩) (c16 : PySem.W.codeIn K cd16 "read_book" = true) (k16 : PySem.W.keepIn K (.ref f16) = true)
    (a17 : PySem.W.nsIn K mainGlobals "read_rows" = some (some (.ref f17))) (l17 : K.lookup f17 = some ⟨oc17, od17, .func (PySem.W.fnOf "read_rows" "read_rows" (defArgs s_read_rows) (defBody s_read_rows) (defScope s_read_rows) .none kV17 dc17 pm17 an17 cd17 ct17), sl17⟩) (c17 : PySem.W.codeIn K cd17 "read_rows" = true) (k17 : PySem.W.keepIn K (.ref f17) = true)
    (a18 : PySem.W.nsIn K mainGlobals "read_row" = some (some (.ref f18))) (l18 : K.lookup f18 = some ⟨oc18, od18, .func (PySem.W.fnOf "read_row" "read_row" (defArgs s_read_row) (defBody s_read_row) (defScope s_read_row) .none kV18 dc18 pm18 an18 cd18 ct18), sl18⟩) (c18 : PySem.W.codeIn K cd18 "read_row" = true) (k18 : PySem.W.keepIn K (.ref f18) = true)
    (a19 : PySem.W.nsIn K mainGlobals "names_behind" = some (some (.ref f19))) (l19 : K.lookup f19 = some ⟨oc19, od19, .func (PySem.W.fnOf "names_behind" "names_behind" (defArgs s_names_behind) (defBody s_names_behind) (defScope s_names_behind) .none kV19 dc19 pm19 an19 cd19 ct19), sl19⟩) (c19 : PySem.W.codeIn K cd19 "names_behind" = true) (k19 : PySem.W.keepIn K (.ref f19) = true)
    (a20 : PySem.W.nsIn K mainGlobals "words_for" = some (some (.ref f20))) (l20 : K.lookup f20 = some ⟨oc20, od20, .func (PySem.W.fnOf "words_for" "words_for" (defArgs s_words_for) (defBody s_words_for) (defScope s_words_for) .none kV20 dc20 pm20 an20 cd20 ct20), sl20⟩) (c20 : PySem.W.codeIn K cd20 "words_for" = true) (k20 : PySem.W.keepIn K (.ref f20) = true)
    (a21 : PySem.W.nsIn K mainGlobals "_law_cell_at" = some (some (.ref f21))) (l21 : K.lookup f21 = some ⟨oc21, od21, .func (PySem.W.fnOf "_law_cell_at" "_law_cell_at" (defArgs s__law_cell_at) (defBody s__law_cell_at) (defScope s__law_cell_at) .none kV21 dc21 pm21 an21 cd21 ct21), sl21⟩) (c21 : PySem.W.codeIn K cd21 "_law_cell_at" = true) (k21 : PySem.W.keepIn K (.ref f21) = true)
    (a22 : PySem.W.nsIn K mainGlobals "_law_pot" = some (some (.ref f22))) (l22 : K.lookup f22 = some ⟨oc22, od22, .func (PySem.W.fnOf "_law_pot" "_law_pot" (defArgs s__law_pot) (defBody s__law_pot) (defScope s__law_pot) .none kV22 dc22 pm22 an22 cd22 ct22), sl22⟩) (c22 : PySem.W.codeIn K cd22 "_law_pot" = true) (k22 : PySem.W.keepIn K (.ref f22) = true)
    (a23 : PySem.W.nsIn K mainGlobals "_law_take" = some (some (.ref f23))) (l23 : K.lookup f23 = some ⟨oc23, od23, .func (PySem.W.fnOf "_law_take" "_law_take" (defArgs s__law_take) (defBody s__law_take) (defScope s__law_take) .none kV23 dc23 pm23 an23 cd23 ct23), sl23⟩) (c23 : PySem.W.codeIn K cd23 "_law_take" = true) (k23 : PySem.W.keepIn K (.ref f23) = true)
    (a24 : PySem.W.nsIn K mainGlobals "_law_names" = some (some (.ref f24))) (l24 : K.lookup f24 = some ⟨oc24, od24, .func (PySem.W.fnOf "_law_names" "_law_names" (defArgs s__law_names) (defBody s__law_names) (defScope s__law_names) .none kV24 dc24 pm24 an24 cd24 ct24), sl24⟩) (c24 : PySem.W.codeIn K cd24 "_law_names" = true) (k24 : PySem.W.keepIn K (.ref f24) = true)
    (a25 : PySem.W.nsIn K mainGlobals "_law_turned" = some (some (.ref f25))) (l25 : K.lookup f25 = some ⟨oc25, od25, .func (PySem.W.fnOf "_law_turned" "_law_turned" (defArgs s__law_turned) (defBody s__law_turned) (defScope s__law_turned) .none kV25 dc25 pm25 an25 cd25 ct25), sl25⟩) (c25 : PySem.W.codeIn K cd25 "_law_turned" = true) (k25 : PySem.W.keepIn K (.ref f25) = true)
    (a26 : PySem.W.nsIn K mainGlobals "_law_row_told" = some (some (.ref f26))) (l26 : K.lookup f26 = some ⟨oc26, od26, .func (PySem.W.fnOf "_law_row_told" "_law_row_told" (defArgs s__law_row_told) (defBody s__law_row_told) (defScope s__law_row_told) .none kV26 dc26 pm26 an26 cd26 ct26), sl26⟩) (c26 : PySem.W.codeIn K cd26 "_law_row_told" = true) (k26 : PySem.W.keepIn K (.ref f26) = true)
    (a27 : PySem.W.nsIn K mainGlobals "law" = some (some (.ref f27))) (l27 : K.lookup f27 = some ⟨oc27, od27, .func (PySem.W.fnOf "law" "law" (defArgs s_law) (defBody s_law) (defScope s_law) .none kV27 dc27 pm27 an27 cd27 ct27), sl27⟩) (c27 : PySem.W.codeIn K cd27 "law" = true) (k27 : PySem.W.keepIn K (.ref f27) = true)
    (a28 : PySem.W.findIn K (.ref k_NoBook) "__init__" = some (some (.ref f28))) (l28 : K.lookup f28 = some ⟨oc28, od28, .func (PySem.W.fnOf "__init__" "NoBook.__init__" (defArgs s_i_NoBook) (defBody s_i_NoBook) (defScope s_i_NoBook) .none kV28 dc28 pm28 an28 cd28 ct28), sl28⟩) (c28 : PySem.W.codeIn K cd28 "NoBook.__init__" = true) (k28 : PySem.W.keepIn K (.ref f28) = true)
    (uLONGEST_NAME : PySem.W.nsIn K mainGlobals "LONGEST_NAME" = some (some (.int 8 k_LONGEST_NAME)))
    (uMOST_ROWS : PySem.W.nsIn K mainGlobals "MOST_ROWS" = some (some (.int 12 k_MOST_ROWS)))
    (uNAME : PySem.W.nsIn K mainGlobals "NAME" = some (some (.int 0 k_NAME)))
    (uSORT : PySem.W.nsIn K mainGlobals "SORT" = some (some (.int 1 k_SORT)))
    (uHOST : PySem.W.nsIn K mainGlobals "HOST" = some (some (.int 2 k_HOST)))
    (uSHUTS : PySem.W.nsIn K mainGlobals "SHUTS" = some (some (.int 3 k_SHUTS)))
    (uBARS : PySem.W.nsIn K mainGlobals "BARS" = some (some (.int 4 k_BARS)))
    (uSORTS : PySem.W.nsIn K mainGlobals "SORTS" = some (some (.ref c_SORTS))) (wSORTS : K.lookup c_SORTS = some ⟨.type "tuple", d_SORTS, .seq #[.str ("bare" : Str) k_SORTS_0, .str ("plain" : Str) k_SORTS_1, .str ("anew" : Str) k_SORTS_2, .str ("room" : Str) k_SORTS_3, .str ("frame" : Str) k_SORTS_4] n_SORTS, sl_SORTS⟩)
    (uHOST_SORTS : PySem.W.nsIn K mainGlobals "HOST_SORTS" = some (some (.ref c_HOST_SORTS))) (wHOST_SORTS : K.lookup c_HOST_SORTS = some ⟨.type "tuple", d_HOST_SORTS, .seq #[.str ("plain" : Str) k_HOST_SORTS_0, .str ("frame" : Str) k_HOST_SORTS_1] n_HOST_SORTS, sl_HOST_SORTS⟩)
    (uSHUT_OR_BARRED_SORTS : PySem.W.nsIn K mainGlobals "SHUT_OR_BARRED_SORTS" = some (some (.ref c_SHUT_OR_BARRED_SORTS))) (wSHUT_OR_BARRED_SORTS : K.lookup c_SHUT_OR_BARRED_SORTS = some ⟨.type "tuple", d_SHUT_OR_BARRED_SORTS, .seq #[.str ("plain" : Str) k_SHUT_OR_BARRED_SORTS_0, .str ("anew" : Str) k_SHUT_OR_BARRED_SORTS_1] n_SHUT_OR_BARRED_SORTS, sl_SHUT_OR_BARRED_SORTS⟩)
    (uKEYWORDS : PySem.W.nsIn K mainGlobals "KEYWORDS" = some (some (.ref c_KEYWORDS))) (wKEYWORDS : K.lookup c_KEYWORDS = some ⟨.type "tuple", d_KEYWORDS, .seq #[.str ("shuts" : Str) k_KEYWORDS_0, .str ("bars" : Str) k_KEYWORDS_1] n_KEYWORDS, sl_KEYWORDS⟩)
    (qNoBook : excI K k_NoBook = true) (tfNoBook : PySem.W.typeIn K (.ref f28) = some (.type "function")) (kpNoBook : PySem.W.keepIn K (.ref k_NoBook) = true) (bxNoBook : PySem.W.subIn K (.ref k_NoBook) (.type "BaseException") = some true) (obNoBook : PySem.W.subIn K (.ref k_NoBook) (.type "object") = some true) (icNoBook : PySem.W.isClsIn K k_NoBook = true) (itNoBook : PySem.W.typeIn K (.ref k_NoBook) = some (.type "type")) (gaNoBook : PySem.W.findIn K (.ref k_NoBook) "__getattribute__" = some (some (.builtin "BaseException.__getattribute__"))) (gnNoBook : PySem.W.findIn K (.ref k_NoBook) "__getattr__" = some none) (clNoBook : PySem.W.findIn K (.ref k_NoBook) "__class__" = some (some (.builtin "object.__class__"))) (saNoBook : PySem.W.findIn K (.ref k_NoBook) "__setattr__" = some (some (.builtin "object.__setattr__"))) (hyNoBook : PySem.W.findIn K (.ref k_NoBook) "row" = some none) (bgTagError : PySem.W.specialIn K (.ref k_TagError) "__getattribute__" = some (some (.builtin "type.__getattribute__"))) (brTagError : PySem.W.readsIn K k_TagError (.type "type") = true) (beTagError : PySem.W.findCls K (.ref k_TagError) (.type "type") "__init__" = some (.val (.builtin "ValueError.__init__")))
    (yNoBook_NoBook : PySem.W.exmOne K (.ref k_NoBook) (.ref k_NoBook) = some true)
    (zall : PySem.W.nsIn K mainGlobals "all" = some none) (zbool : PySem.W.nsIn K mainGlobals "bool" = some none) (zenumerate : PySem.W.nsIn K mainGlobals "enumerate" = some none) (zint : PySem.W.nsIn K mainGlobals "int" = some none) (zisinstance : PySem.W.nsIn K mainGlobals "isinstance" = some none) (zlen : PySem.W.nsIn K mainGlobals "len" = some none) (zmax : PySem.W.nsIn K mainGlobals "max" = some none) (zmin : PySem.W.nsIn K mainGlobals "min" = some none) (zrange : PySem.W.nsIn K mainGlobals "range" = some none) (zsorted : PySem.W.nsIn K mainGlobals "sorted" = some none) (zstr : PySem.W.nsIn K mainGlobals "str" = some none) (ztuple : PySem.W.nsIn K mainGlobals "tuple" = some none) (zzip : PySem.W.nsIn K mainGlobals "zip" = some none) :
    ∃ fd : FuncData, (∀ (s : Shared) (v : Value), BindsTo s fd ⟨[v], []⟩ [("_law_script", v)]) ∧ ∀ base : Heap, K.In base → base.Ns mainGlobals mg → FnOk l.prog w K mg base CX0 9 fa fd ["_law_script"] (sp_law K) := by
  have e := hfa.symm.trans (PySem.W.mg_of X G a27)
  have e : f27 = fa := by cases e; rfl
  subst e
  have F0 := fun_mk (st := s_is_name) l0 c0 k0
  have b0 := F0.binds (ps := ["word"]) fun _ _ _ _ _ _ us hl => by obtain ⟨_, rfl⟩ := ln1 hl; rfl
  have F1 := fun_mk (st := s_has_letters_of_name) l1 c1 k1
  have b1 := F1.binds (ps := ["word"]) fun _ _ _ _ _ _ us hl => by obtain ⟨_, rfl⟩ := ln1 hl; rfl
  have F2 := fun_mk (st := s_is_rising) l2 c2 k2
  have b2 := F2.binds (ps := ["names"]) fun _ _ _ _ _ _ us hl => by obtain ⟨_, rfl⟩ := ln1 hl; rfl
  have F3 := fun_mk (st := s_row_of) l3 c3 k3
  have b3 := F3.binds (ps := ["rows", "name"]) fun _ _ _ _ _ _ us hl => by obtain ⟨_, _, rfl⟩ := ln2 hl; rfl
  have F4 := fun_mk (st := s_sort_of) l4 c4 k4
  have b4 := F4.binds (ps := ["book", "name"]) fun _ _ _ _ _ _ us hl => by obtain ⟨_, _, rfl⟩ := ln2 hl; rfl
  have F5 := fun_mk (st := s_host_of) l5 c5 k5
  have b5 := F5.binds (ps := ["book", "name"]) fun _ _ _ _ _ _ us hl => by obtain ⟨_, _, rfl⟩ := ln2 hl; rfl
  have F6 := fun_mk (st := s_frame_of) l6 c6 k6
  have b6 := F6.binds (ps := ["book", "name"]) fun _ _ _ _ _ _ us hl => by obtain ⟨_, _, rfl⟩ := ln2 hl; rfl
  have F7 := fun_mk (st := s_belongs) l7 c7 k7
  have b7 := F7.binds (ps := ["book", "name", "frame"]) fun _ _ _ _ _ _ us hl => by obtain ⟨_, _, _, rfl⟩ := ln3 hl; rfl
  have F8 := fun_mk (st := s_first_misfit) l8 c8 k8
  have b8 := F8.binds (ps := ["rows"]) fun _ _ _ _ _ _ us hl => by obtain ⟨_, rfl⟩ := ln1 hl; rfl
  have F9 := fun_mk (st := s_first_rows) l9 c9 k9
  have b9 := F9.binds (ps := ["rows"]) fun _ _ _ _ _ _ us hl => by obtain ⟨_, rfl⟩ := ln1 hl; rfl
  have F10 := fun_mk (st := s_fits) l10 c10 k10
  have b10 := F10.binds (ps := ["rows", "row"]) fun _ _ _ _ _ _ us hl => by obtain ⟨_, _, rfl⟩ := ln2 hl; rfl
  have F11 := fun_mk (st := s_host_fits) l11 c11 k11
  have b11 := F11.binds (ps := ["rows", "row"]) fun _ _ _ _ _ _ us hl => by obtain ⟨_, _, rfl⟩ := ln2 hl; rfl
  have F12 := fun_mk (st := s_comes_back) l12 c12 k12
  have b12 := F12.binds (ps := ["rows", "name"]) fun _ _ _ _ _ _ us hl => by obtain ⟨_, _, rfl⟩ := ln2 hl; rfl
  have F13 := fun_mk (st := s_shuts_fit) l13 c13 k13
  have b13 := F13.binds (ps := ["rows", "row"]) fun _ _ _ _ _ _ us hl => by obtain ⟨_, _, rfl⟩ := ln2 hl; rfl
  have F14 := fun_mk (st := s_bars_fit) l14 c14 k14
  have b14 := F14.binds (ps := ["rows", "row"]) fun _ _ _ _ _ _ us hl => by obtain ⟨_, _, rfl⟩ := ln2 hl; rfl
  have F15 := fun_mk (st := s_may_be_named) l15 c15 k15
  have b15 := F15.binds (ps := ["rows", "names"]) fun _ _ _ _ _ _ us hl => by obtain ⟨_, _, rfl⟩ := ln2 hl; rfl
  have F16 := fun_mk (st := s_read_book) l16 c16 k16
  have b16 := F16.binds (ps := ["text"]) fun _ _ _ _ _ _ us hl => by obtain ⟨_, rfl⟩ := ln1 hl; rfl
  have F17 := fun_mk (st := s_read_rows) l17 c17 k17
  have b17 := F17.binds (ps := ["text"]) fun _ _ _ _ _ _ us hl => by obtain ⟨_, rfl⟩ := ln1 hl; rfl
  have F18 := fun_mk (st := s_read_row) l18 c18 k18
  have b18 := F18.binds (ps := ["words"]) fun _ _ _ _ _ _ us hl => by obtain ⟨_, rfl⟩ := ln1 hl; rfl
  have F19 := fun_mk (st := s_names_behind) l19 c19 k19
  have b19 := F19.binds (ps := ["keyword", "words"]) fun _ _ _ _ _ _ us hl => by obtain ⟨_, _, rfl⟩ := ln2 hl; rfl
  have F20 := fun_mk (st := s_words_for) l20 c20 k20
  have b20 := F20.binds (ps := ["names"]) fun _ _ _ _ _ _ us hl => by obtain ⟨_, rfl⟩ := ln1 hl; rfl
  have F21 := fun_mk (st := s__law_cell_at) l21 c21 k21
  have b21 := F21.binds (ps := ["_law_script", "_law_k"]) fun _ _ _ _ _ _ us hl => by obtain ⟨_, _, rfl⟩ := ln2 hl; rfl
  have F22 := fun_mk (st := s__law_pot) l22 c22 k22
  have b22 := F22.binds (ps := ["_law_cell"]) fun _ _ _ _ _ _ us hl => by obtain ⟨_, rfl⟩ := ln1 hl; rfl
  have F23 := fun_mk (st := s__law_take) l23 c23 k23
  have b23 := F23.binds (ps := ["_law_pot_here", "_law_most"]) fun _ _ _ _ _ _ us hl => by obtain ⟨_, _, rfl⟩ := ln2 hl; rfl
  have F24 := fun_mk (st := s__law_names) l24 c24 k24
  have b24 := F24.binds (ps := ["_law_cell", "_law_where", "_law_lots"]) fun _ _ _ _ _ _ us hl => by obtain ⟨_, _, _, rfl⟩ := ln3 hl; rfl
  have F25 := fun_mk (st := s__law_turned) l25 c25 k25
  have b25 := F25.binds (ps := ["_law_lines", "_law_cell"]) fun _ _ _ _ _ _ us hl => by obtain ⟨_, _, rfl⟩ := ln2 hl; rfl
  have F26 := fun_mk (st := s__law_row_told) l26 c26 k26
  have b26 := F26.binds (ps := ["_law_text"]) fun _ _ _ _ _ _ us hl => by obtain ⟨_, rfl⟩ := ln1 hl; rfl
  have F27 := fun_mk (st := s_law) l27 c27 k27
  have b27 := F27.binds (ps := ["_law_script"]) fun _ _ _ _ _ _ us hl => by obtain ⟨_, rfl⟩ := ln1 hl; rfl
  have F28 := fun_mk (st := s_i_NoBook) l28 c28 k28
  have b28 := F28.binds (ps := ["self", "row"]) fun _ _ _ _ _ _ us hl => by obtain ⟨_, _, rfl⟩ := ln2 hl; rfl
  let t : Adr := { a_is_name := f0, d_is_name := PySem.W.fnOf "is_name" "is_name" (defArgs s_is_name) (defBody s_is_name) (defScope s_is_name) .none kV0 dc0 pm0 an0 cd0 ct0, a_has_letters_of_name := f1, d_has_letters_of_name := PySem.W.fnOf "has_letters_of_name" "has_letters_of_name" (defArgs s_has_letters_of_name) (defBody s_has_letters_of_name) (defScope s_has_letters_of_name) .none kV1 dc1 pm1 an1 cd1 ct1, a_is_rising := f2, d_is_rising := PySem.W.fnOf "is_rising" "is_rising" (defArgs s_is_rising) (defBody s_is_rising) (defScope s_is_rising) .none kV2 dc2 pm2 an2 cd2 ct2, a_row_of := f3, d_row_of := PySem.W.fnOf "row_of" "row_of" (defArgs s_row_of) (defBody s_row_of) (defScope s_row_of) .none kV3 dc3 pm3 an3 cd3 ct3, a_sort_of := f4, d_sort_of := PySem.W.fnOf "sort_of" "sort_of" (defArgs s_sort_of) (defBody s_sort_of) (defScope s_sort_of) .none kV4 dc4 pm4 an4 cd4 ct4, a_host_of := f5, d_host_of := PySem.W.fnOf "host_of" "host_of" (defArgs s_host_of) (defBody s_host_of) (defScope s_host_of) .none kV5 dc5 pm5 an5 cd5 ct5, a_frame_of := f6, d_frame_of := PySem.W.fnOf "frame_of" "frame_of" (defArgs s_frame_of) (defBody s_frame_of) (defScope s_frame_of) .none kV6 dc6 pm6 an6 cd6 ct6, a_belongs := f7, d_belongs := PySem.W.fnOf "belongs" "belongs" (defArgs s_belongs) (defBody s_belongs) (defScope s_belongs) .none kV7 dc7 pm7 an7 cd7 ct7, a_first_misfit := f8, d_first_misfit := PySem.W.fnOf "first_misfit" "first_misfit" (defArgs s_first_misfit) (defBody s_first_misfit) (defScope s_first_misfit) .none kV8 dc8 pm8 an8 cd8 ct8, a_first_rows := f9, d_first_rows := PySem.W.fnOf "first_rows" "first_rows" (defArgs s_first_rows) (defBody s_first_rows) (defScope s_first_rows) .none kV9 dc9 pm9 an9 cd9 ct9, a_fits := f10, d_fits := PySem.W.fnOf "fits" "fits" (defArgs s_fits) (defBody s_fits) (defScope s_fits) .none kV10 dc10 pm10 an10 cd10 ct10, a_host_fits := f11, d_host_fits := PySem.W.fnOf "host_fits" "host_fits" (defArgs s_host_fits) (defBody s_host_fits) (defScope s_host_fits) .none kV11 dc11 pm11 an11 cd11 ct11, a_comes_back := f12, d_comes_back := PySem.W.fnOf "comes_back" "comes_back" (defArgs s_comes_back) (defBody s_comes_back) (defScope s_comes_back) .none kV12 dc12 pm12 an12 cd12 ct12, a_shuts_fit := f13, d_shuts_fit := PySem.W.fnOf "shuts_fit" "shuts_fit" (defArgs s_shuts_fit) (defBody s_shuts_fit) (defScope s_shuts_fit) .none kV13 dc13 pm13 an13 cd13 ct13, a_bars_fit := f14, d_bars_fit := PySem.W.fnOf "bars_fit" "bars_fit" (defArgs s_bars_fit) (defBody s_bars_fit) (defScope s_bars_fit) .none kV14 dc14 pm14 an14 cd14 ct14, a_may_be_named := f15, d_may_be_named := PySem.W.fnOf "may_be_named" "may_be_named" (defArgs s_may_be_named) (defBody s_may_be_named) (defScope s_may_be_named) .none kV15 dc15 pm15 an15 cd15 ct15, a_read_book := f16, d_read_book := PySem.W.fnOf "read_book" "read_book" (defArgs s_read_book) (defBody s_read_book) (defScope s_read_book) .none kV16 dc16 pm16 an16 cd16 ct16, a_read_rows := f17, d_read_rows := PySem.W.fnOf "read_rows" "read_rows" (defArgs s_read_rows) (defBody s_read_rows) (defScope s_read_rows) .none kV17 dc17 pm17 an17 cd17 ct17, a_read_row := f18, d_read_row := PySem.W.fnOf "read_row" "read_row" (defArgs s_read_row) (defBody s_read_row) (defScope s_read_row) .none kV18 dc18 pm18 an18 cd18 ct18, a_names_behind := f19, d_names_behind := PySem.W.fnOf "names_behind" "names_behind" (defArgs s_names_behind) (defBody s_names_behind) (defScope s_names_behind) .none kV19 dc19 pm19 an19 cd19 ct19, a_words_for := f20, d_words_for := PySem.W.fnOf "words_for" "words_for" (defArgs s_words_for) (defBody s_words_for) (defScope s_words_for) .none kV20 dc20 pm20 an20 cd20 ct20, a__law_cell_at := f21, d__law_cell_at := PySem.W.fnOf "_law_cell_at" "_law_cell_at" (defArgs s__law_cell_at) (defBody s__law_cell_at) (defScope s__law_cell_at) .none kV21 dc21 pm21 an21 cd21 ct21, a__law_pot := f22, d__law_pot := PySem.W.fnOf "_law_pot" "_law_pot" (defArgs s__law_pot) (defBody s__law_pot) (defScope s__law_pot) .none kV22 dc22 pm22 an22 cd22 ct22, a__law_take := f23, d__law_take := PySem.W.fnOf "_law_take" "_law_take" (defArgs s__law_take) (defBody s__law_take) (defScope s__law_take) .none kV23 dc23 pm23 an23 cd23 ct23, a__law_names := f24, d__law_names := PySem.W.fnOf "_law_names" "_law_names" (defArgs s__law_names) (defBody s__law_names) (defScope s__law_names) .none kV24 dc24 pm24 an24 cd24 ct24, a__law_turned := f25, d__law_turned := PySem.W.fnOf "_law_turned" "_law_turned" (defArgs s__law_turned) (defBody s__law_turned) (defScope s__law_turned) .none kV25 dc25 pm25 an25 cd25 ct25, a__law_row_told := f26, d__law_row_told := PySem.W.fnOf "_law_row_told" "_law_row_told" (defArgs s__law_row_told) (defBody s__law_row_told) (defScope s__law_row_told) .none kV26 dc26 pm26 an26 cd26 ct26, a_law := f27, d_law := PySem.W.fnOf "law" "law" (defArgs s_law) (defBody s_law) (defScope s_law) .none kV27 dc27 pm27 an27 cd27 ct27, a_i_NoBook := f28, d_i_NoBook := PySem.W.fnOf "__init__" "NoBook.__init__" (defArgs s_i_NoBook) (defBody s_i_NoBook) (defScope s_i_NoBook) .none kV28 dc28 pm28 an28 cd28 ct28, v_LONGEST_NAME := .int 8 k_LONGEST_NAME, v_MOST_ROWS := .int 12 k_MOST_ROWS, v_NAME := .int 0 k_NAME, v_SORT := .int 1 k_SORT, v_HOST := .int 2 k_HOST, v_SHUTS := .int 3 k_SHUTS, v_BARS := .int 4 k_BARS, c_SORTS := c_SORTS, c_HOST_SORTS := c_HOST_SORTS, c_SHUT_OR_BARRED_SORTS := c_SHUT_OR_BARRED_SORTS, c_KEYWORDS := c_KEYWORDS, k_NoBook := k_NoBook, k_TagError := k_TagError }
  have T : Txt K mg t := ⟨F0, b0, PySem.W.mg_of X G a0, F1, b1, PySem.W.mg_of X G a1, F2, b2, PySem.W.mg_of X G a2, F3, b3, PySem.W.mg_of X G a3, F4, b4, PySem.W.mg_of X G a4, F5, b5, PySem.W.mg_of X G a5, F6, b6, PySem.W.mg_of X G a6, F7, b7, PySem.W.mg_of X G a7, F8, b8, PySem.W.mg_of X G a8, F9, b9, PySem.W.mg_of X G a9, F10, b10, PySem.W.mg_of X G a10, F11, b11, PySem.W.mg_of X G a11, F12, b12, PySem.W.mg_of X G a12, F13, b13, PySem.W.mg_of X G a13, F14, b14, PySem.W.mg_of X G a14, F15, b15, PySem.W.mg_of X G a15, F16, b16, PySem.W.mg_of X G a16, F17, b17, PySem.W.mg_of X G a17, F18, b18, PySem.W.mg_of X G a18, F19, b19, PySem.W.mg_of X G a19, F20, b20, PySem.W.mg_of X G a20, F21, b21, PySem.W.mg_of X G a21, F22, b22, PySem.W.mg_of X G a22, F23, b23, PySem.W.mg_of X G a23, F24, b24, PySem.W.mg_of X G a24, F25, b25, PySem.W.mg_of X G a25, F26, b26, PySem.W.mg_of X G a26, F27, b27, PySem.W.mg_of X G a27, F28, b28, ⟨PySem.W.mg_of X G eNoBook, qNoBook, a28, tfNoBook, kpNoBook, bxNoBook, ⟨icNoBook, itNoBook⟩⟩, PySem.W.mg_of X G uSORTS, fun _ => .inr ⟨_, _, _, wSORTS, rfl, rfl, by rw [sizeLine_eq]; show 5 ≤ _; decide, (.cons ⟨_, rfl⟩ (.cons ⟨_, rfl⟩ (.cons ⟨_, rfl⟩ (.cons ⟨_, rfl⟩ (.cons ⟨_, rfl⟩ .nil)))))⟩, PySem.W.mg_of X G uHOST_SORTS, fun _ => .inr ⟨_, _, _, wHOST_SORTS, rfl, rfl, by rw [sizeLine_eq]; show 2 ≤ _; decide, (.cons ⟨_, rfl⟩ (.cons ⟨_, rfl⟩ .nil))⟩, PySem.W.mg_of X G uSHUT_OR_BARRED_SORTS, fun _ => .inr ⟨_, _, _, wSHUT_OR_BARRED_SORTS, rfl, rfl, by rw [sizeLine_eq]; show 2 ≤ _; decide, (.cons ⟨_, rfl⟩ (.cons ⟨_, rfl⟩ .nil))⟩, PySem.W.mg_of X G uKEYWORDS, fun _ => .inr ⟨_, _, _, wKEYWORDS, rfl, rfl, by rw [sizeLine_eq]; show 2 ≤ _; decide, (.cons ⟨_, rfl⟩ (.cons ⟨_, rfl⟩ .nil))⟩, ⟨PySem.W.mg_of X G uLONGEST_NAME, ⟨_, rfl⟩⟩, ⟨PySem.W.mg_of X G uMOST_ROWS, ⟨_, rfl⟩⟩, ⟨PySem.W.mg_of X G uNAME, ⟨_, rfl⟩⟩, ⟨PySem.W.mg_of X G uSORT, ⟨_, rfl⟩⟩, ⟨PySem.W.mg_of X G uHOST, ⟨_, rfl⟩⟩, ⟨PySem.W.mg_of X G uSHUTS, ⟨_, rfl⟩⟩, ⟨PySem.W.mg_of X G uBARS, ⟨_, rfl⟩⟩, PySem.W.mg_none_of X G zall, PySem.W.mg_none_of X G zbool, PySem.W.mg_none_of X G zenumerate, PySem.W.mg_none_of X G zint, PySem.W.mg_none_of X G zisinstance, PySem.W.mg_none_of X G zlen, PySem.W.mg_none_of X G zmax, PySem.W.mg_none_of X G zmin, PySem.W.mg_none_of X G zrange, PySem.W.mg_none_of X G zsorted, PySem.W.mg_none_of X G zstr, PySem.W.mg_none_of X G ztuple, PySem.W.mg_none_of X G zzip, PySem.W.mg_of X G eNoBook, PySem.W.mg_of X G eTagError, yNoBook_NoBook, ⟨qNoBook, saNoBook, hyNoBook⟩, ⟨⟨gaNoBook, gnNoBook, clNoBook, bxNoBook, obNoBook⟩, qNoBook, hyNoBook⟩, ⟨PySem.W.mg_of X G eTagError, bgTagError, brTagError, beTagError⟩⟩
  exact ⟨_, fun s v => .of_eq rfl, fun base _ _ => ok_law T⟩
theorem walk {l : PySem.W.OpenLaw} {q : Program} {loose : List Str} {XP : (Str → Option Value) → Heap → Prop} {as : List Addr} {z t : Nat} {d : DefRec} {K : Params → PySem.W.Frag} (hn : l.most = some 63) (hdf : d.params.defaults = [])
    (hk : ∀ P, as = (K P).map (·.1)) (h0 : 0 < t)
    (F : ∀ (w : World) (mg : Str → Option Value) (fa : Addr) (h : Heap), (K w.params).In h → h.Ns mainGlobals mg → mg d.name = some (.ref fa) →
      ∃ fd : FuncData, (∀ (s : Shared) (u : Value), BindsTo s fd ⟨[u], []⟩ [("_law_script", u)]) ∧ ∀ base : Heap, (K w.params).In base → base.Ns mainGlobals mg → FnOk l.prog w (K w.params) mg base CX0 9 fa fd ["_law_script"] (sp_law (K w.params))) :
    PySem.W.WalkX q loose XP (PySem.W.X.obsZ as) (PySem.W.X.valZ K z t) l.row.toRowW d [] (fun f vs => PySem.call f vs) :=
  L2.walk_of (n := 63) (k := 9) (x := "_law_script") (CX := fun _ => CX0) (sp := fun w => sp_law (K w.params)) hn (by decide) hdf ⟨rfl, by decide, by decide⟩ hk h0 F (fun _ _ a ns hl _ hS => ⟨a, ns, rfl, hS, hl, fun _ => rfl⟩) fun _ _ _ _ _ z => z
end My
open PySem PySem.W PyProof.Rows
set_option maxRecDepth 100000 in
set_option maxHeartbeats 0 in
theorem PySem.Challenge.cw_tagmend_k07_frames_within_frames_holds : PySem.Challenge.rw_tagmend_k07_frames_within_frames.Holds := by
  w_on; o_law; z_head; (case hw => w_witness2)
  k_fill
  refine My.walk (l := PySem.Challenge.rw_tagmend_k07_frames_within_frames) rfl rfl (fun _ => rfl) (by decide) ?F
  case F =>
    intro w mg fa h KX G hmg
    refine' My.all_mk KX G hmg ?eNoBook ?eTagError ?a0 ?l0 ?c0 ?k0 ?a1 ?l1 ?c1 ?k1 ?a2 ?l2 ?c2 ?k2 ?a3 ?l3 ?c3 ?k3 ?a4 ?l4 ?c4 ?k4 ?a5 ?l5 ?c5 ?k5 ?a6 ?l6 ?c6 ?k6 ?a7 ?l7 ?c7 ?k7 ?a8 ?l8 ?c8 ?k8 ?a9 ?l9 ?c9 ?k9 ?a10 ?l10 ?c10 ?k10 ?a11 ?l11 ?c11 ?k11 ?a12 ?l12 ?c12 ?k12 ?a13 ?l13 ?c13 ?k13 ?a14 ?l14 ?c14 ?k14 ?a15 ?l15 ?c15 ?k15 ?a16 ?l16 ?c16 ?k16 ?a17 ?l17 ?c17 ?k17 ?a18 ?l18 ?c18 ?k18 ?a19 ?l19 ?c19 ?k19 ?a20 ?l20 ?c20 ?k20 ?a21 ?l21 ?c21 ?k21 ?a22 ?l22 ?c22 ?k22 ?a23 ?l23 ?c23 ?k23 ?a24 ?l24 ?c24 ?k24 ?a25 ?l25 ?c25 ?k25 ?a26 ?l26 ?c26 ?k26 ?a27 ?l27 ?c27 ?k27 ?a28 ?l28 ?c28 ?k28 ?uSORTS ?wSORTS ?uHOST_SORTS ?wHOST_SORTS ?uSHUT_OR_BARRED_SORTS ?wSHUT_OR_BARRED_SORTS ?uKEYWORDS ?wKEYWORDS ?uLONGEST_NAME ?uMOST_ROWS ?uNAME ?uSORT ?uHOST ?uSHUTS ?uBARS ?qNoBook ?tfNoBook ?kpNoBook ?bxNoBook ?obNoBook ?icNoBook ?itNoBook ?gaNoBook ?gnNoBook ?clNoBook ?saNoBook ?hyNoBook ?bgTagError ?brTagError ?beTagError ?yNoBook_NoBook ?zall ?zbool ?zenumerate ?zint ?zisinstance ?zlen ?zmax ?zmin ?zrange ?zsorted ?zstr ?ztuple ?zzip
    (case eNoBook => k_is); (case eTagError => k_is); (case a0 => k_is); (case l0 => k_is)
    (case c0 => k_is); (case k0 => k_is); (case a1 => k_is); (case l1 => k_is)
    (case c1 => k_is); (case k1 => k_is); (case a2 => k_is); (case l2 => k_is)
    (case c2 => k_is); (case k2 => k_is); (case a3 => k_is); (case l3 => k_is)
    (case c3 => k_is); (case k3 => k_is); (case a4 => k_is); (case l4 => k_is)
    (case c4 => k_is); (case k4 => k_is); (case a5 => k_is); (case l5 => k_is)
    (case c5 => k_is); (case k5 => k_is); (case a6 => k_is); (case l6 => k_is)
    (case c6 => k_is); (case k6 => k_is); (case a7 => k_is); (case l7 => k_is)
    (case c7 => k_is); (case k7 => k_is); (case a8 => k_is); (case l8 => k_is)
    (case c8 => k_is); (case k8 => k_is); (case a9 => k_is); (case l9 => k_is)
    (case c9 => k_is); (case k9 => k_is); (case a10 => k_is); (case l10 => k_is)
    (case c10 => k_is); (case k10 => k_is); (case a11 => k_is); (case l11 => k_is)
    (case c11 => k_is); (case k11 => k_is); (case a12 => k_is); (case l12 => k_is)
    (case c12 => k_is); (case k12 => k_is); (case a13 => k_is); (case l13 => k_is)
    (case c13 => k_is); (case k13 => k_is); (case a14 => k_is); (case l14 => k_is)
    (case c14 => k_is); (case k14 => k_is); (case a15 => k_is); (case l15 => k_is)
    (case c15 => k_is); (case k15 => k_is); (case a16 => k_is); (case l16 => k_is)
    (case c16 => k_is); (case k16 => k_is); (case a17 => k_is); (case l17 => k_is)
    (case c17 => k_is); (case k17 => k_is); (case a18 => k_is); (case l18 => k_is)
    (case c18 => k_is); (case k18 => k_is); (case a19 => k_is); (case l19 => k_is)
    (case c19 => k_is); (case k19 => k_is); (case a20 => k_is); (case l20 => k_is)
    (case c20 => k_is); (case k20 => k_is); (case a21 => k_is); (case l21 => k_is)
    (case c21 => k_is); (case k21 => k_is); (case a22 => k_is); (case l22 => k_is)
    (case c22 => k_is); (case k22 => k_is); (case a23 => k_is); (case l23 => k_is)
    (case c23 => k_is); (case k23 => k_is); (case a24 => k_is); (case l24 => k_is)
    (case c24 => k_is); (case k24 => k_is); (case a25 => k_is); (case l25 => k_is)
    (case c25 => k_is); (case k25 => k_is); (case a26 => k_is); (case l26 => k_is)
    (case c26 => k_is); (case k26 => k_is); (case a27 => k_is); (case l27 => k_is)
    (case c27 => k_is); (case k27 => k_is); (case a28 => k_is); (case l28 => k_is)
    (case c28 => k_is); (case k28 => k_is); (case uSORTS => k_is); (case wSORTS => k_is)
    (case uHOST_SORTS => k_is); (case wHOST_SORTS => k_is); (case uSHUT_OR_BARRED_SORTS => k_is); (case wSHUT_OR_BARRED_SORTS => k_is)
    (case uKEYWORDS => k_is); (case wKEYWORDS => k_is); (case uLONGEST_NAME => k_is); (case uMOST_ROWS => k_is)
    (case uNAME => k_is); (case uSORT => k_is); (case uHOST => k_is); (case uSHUTS => k_is)
    (case uBARS => k_is); (case qNoBook => kernel_rfl); (case tfNoBook => k_is); (case kpNoBook => k_is)
    (case bxNoBook => k_is); (case obNoBook => k_is); (case icNoBook => k_is); (case itNoBook => k_is)
    (case gaNoBook => k_is); (case gnNoBook => k_is); (case clNoBook => k_is); (case saNoBook => k_is)
    (case hyNoBook => k_is); (case bgTagError => k_is); (case brTagError => k_is); (case beTagError => k_is)
    (case yNoBook_NoBook => kts_exm); (case zall => k_is); (case zbool => k_is); (case zenumerate => k_is)
    (case zint => k_is); (case zisinstance => k_is); (case zlen => k_is); (case zmax => k_is)
    (case zmin => k_is); (case zrange => k_is); (case zsorted => k_is); (case zstr => k_is)
    (case ztuple => k_is); (case zzip => k_is)
