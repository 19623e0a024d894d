import PyProof.Rows.All
import Wide.All
import OpenK.AllK
import Wide.FinOn
import Lean
import PyProof.EqAt
import PyProof.EqKinds
import PyProof.TupleCall
import PyProof.NeData
import PyProof.Rows.StrJoin2
import PyProof.Rows.SortStr
import PyProof.Rows.SortWalk
import KE.KRevIter
import PyProof.Rows.RuleN_isinstance
import PyProof.StrReplace2
import PyProof.StrWalks
import PyProof.Draws
import PyProof.EnumMake
import PyProof.Rows.StrNews2
import PyProof.StrLawsTight
import PyProof.StrLawsReplace
import PyProof.ConsumeWalk
import PyProof.StrLawsFrom
import PyProof.DictValues
import PyProof.Rows.SumAny
import PyProof.SeqI3
import PyProof.NoPylong
import PyProof.Rows.FStrParts
import PyProof.ListRange
import PyProof.ListStr
import PyProof.DictWalks
import PyProof.DictItemsLoops
import PyProof.FactsAll.dict_itemiterator_1
import PySem.Challenge.RW_tagmend_k50_trees_written
set_option Elab.async false
set_option linter.all false
set_option maxRecDepth 100000
local macro_rules | `(tactic| omega) => `(tactic| lia)
namespace L2
open PySem PySem.Spec PyProof.Rows
abbrev Key := Sum Int Str
def keyIs : Key → Value → Bool
  | .inl k, v => Value.isInt k v
  | .inr x, v => Value.isStrOf x v
def keyH (w : World) : Key → Int
  | .inl k => hashInt k
  | .inr x => hashStr w x
theorem keyIs_shape : ∀ {k : Key} {v : Value}, keyIs k v = true → (∃ i t, k = Sum.inl i ∧ v = Value.int i t) ∨ (∃ x t, k = Sum.inr x ∧ v = Value.str x t)
  | .inl i, v, h => by
    obtain ⟨t, e⟩ := Value.isInt_shape (k := i) (v := v) h
    exact .inl ⟨i, t, rfl, e⟩
  | .inr x, v, h => by
    obtain ⟨t, e⟩ := Value.isStrOf_shape (x := x) (v := v) h
    exact .inr ⟨x, t, rfl, e⟩
theorem keyIs_int (i : Int) (t : Tok) : keyIs (.inl i) (.int i t) = true := by simp [keyIs, Value.isInt]
theorem keyIs_str (x : Str) (t : Tok) : keyIs (.inr x) (.str x t) = true := by simp [keyIs, Value.isStrOf]
theorem key_ll (a b : Int) : decide ((Sum.inl a : Key) = Sum.inl b) = (a == b) := by
  by_cases e : a = b
  · subst e; simp
  · have h : ¬ (Sum.inl a : Key) = Sum.inl b := fun q => e (Sum.inl.inj q)
    rw [decide_eq_false h]
    exact (beq_eq_false_iff_ne.mpr e).symm
theorem key_rr (a b : Str) : decide ((Sum.inr a : Key) = Sum.inr b) = decide (a = b) := by
  by_cases e : a = b
  · subst e; simp
  · have h : ¬ (Sum.inr a : Key) = Sum.inr b := fun q => e (Sum.inr.inj q)
    rw [decide_eq_false h, decide_eq_false e]
theorem key_lr (a : Int) (b : Str) : decide ((Sum.inl a : Key) = Sum.inr b) = false := decide_eq_false (fun q => nomatch q)
theorem key_rl (a : Str) (b : Int) : decide ((Sum.inr a : Key) = Sum.inl b) = false := decide_eq_false (fun q => nomatch q)
def mixKind (prog : Program) (w : World) : PySem.KeyKind prog w Key where
  is := keyIs
  hash := keyH w
  inj := fun v a b ha hb => by
    rcases keyIs_shape ha with ⟨i, t, rfl, rfl⟩ | ⟨x, t, rfl, rfl⟩
    · rcases keyIs_shape hb with ⟨j, u, rfl, e⟩ | ⟨y, u, rfl, e⟩
      · injection e with e1 _; rw [e1]
      · exact nomatch e
    · rcases keyIs_shape hb with ⟨j, u, rfl, e⟩ | ⟨y, u, rfl, e⟩
      · exact nomatch e
      · injection e with e1 _; rw [e1]
  byValue := fun k v h => by
    rcases keyIs_shape h with ⟨i, t, rfl, rfl⟩ | ⟨x, t, rfl, rfl⟩ <;> rfl
  pyHash := fun hv h => by
    rcases keyIs_shape hv with ⟨i, t, rfl, rfl⟩ | ⟨x, t, rfl, rfl⟩
    · exact wpAny_pyHash_int h
    · exact wpAny_pyHash_str h
  eqBool := fun hu hv h => by
    rcases keyIs_shape hu with ⟨i, t, rfl, rfl⟩ | ⟨x, t, rfl, rfl⟩
    · rcases keyIs_shape hv with ⟨j, u, rfl, rfl⟩ | ⟨y, u, rfl, rfl⟩
      · rw [key_ll] at h; exact wpAny_eqBool_int h
      · rw [key_lr] at h; exact SeqAt.EqAt.int_str i t y u _ _ _ _ h
    · rcases keyIs_shape hv with ⟨j, u, rfl, rfl⟩ | ⟨y, u, rfl, rfl⟩
      · rw [key_rl] at h; exact SeqAt.EqAt.str_int x t j u _ _ _ _ h
      · rw [key_rr] at h; exact wpAny_eqBool_str h
  «strs» := fun k x t v h => by
    rcases keyIs_shape h with ⟨i, u, rfl, e⟩ | ⟨y, u, rfl, e⟩
    · exact nomatch e
    · injection e with e1 _
      subst e1
      cases v <;> rfl
theorem mixKind_int (prog : Program) (w : World) (i : Int) (t : Tok) : (mixKind prog w).is (.inl i) (.int i t) = true := keyIs_int i t
theorem mixKind_str (prog : Program) (w : World) (x : Str) (t : Tok) : (mixKind prog w).is (.inr x) (.str x t) = true := keyIs_str x t
end L2
namespace L2
open PySem PySem.Spec PyProof.Rows
inductive V where
  | non | bl (b : Bool) | int (i : Int) | str (x : Str) | byt (b : Array UInt8) | flt (b : UInt64) | ref (a : Addr) | ty (n : String)
  deriving DecidableEq
def RelV : V → Value → Prop
  | .non, u => u = Value.none
  | .bl b, u => u = Value.bool b
  | .int i, u => ∃ t, u = Value.int i t
  | .str x, u => ∃ t, u = Value.str x t
  | .byt b, u => ∃ t, u = Value.bytes b t
  | .flt b, u => ∃ t, u = Value.float b t
  | .ref a, u => u = Value.ref a
  | .ty n, u => u = Value.type n
abbrev Vals : List V → List Value → Prop := Paired RelV
theorem Vals.length {xs : List V} {us : List Value} (r : Vals xs us) : xs.length = us.length := Paired.length r
theorem Vals.get : ∀ {xs : List V} {us : List Value} {i : Nat} {x : V}, Vals xs us → xs[i]? = some x → ∃ u, us[i]? = some u ∧ RelV x u
  | _, _, _, _, .nil, e => by simp at e
  | _, _, 0, _, .cons r _, e => by simp at e; subst e; exact ⟨_, rfl, r⟩
  | _, _, i + 1, x, .cons _ t, e => by
    obtain ⟨u, h1, h2⟩ := Vals.get (i := i) (x := x) t (by simpa using e)
    exact ⟨u, by simpa using h1, h2⟩
theorem Vals.set {x : V} {u : Value} (r : RelV x u) : ∀ {xs : List V} {us : List Value} (i : Nat), Vals xs us → Vals (xs.set i x) (us.set i u)
  | _, _, _, .nil => .nil
  | _, _, 0, .cons _ t => .cons r t
  | _, _, i + 1, .cons q t => .cons q (Vals.set r i t)
theorem Vals.append : ∀ {xs ys : List V} {us ws : List Value}, Vals xs us → Vals ys ws → Vals (xs ++ ys) (us ++ ws)
  | _, _, _, _, .nil, s => s
  | _, _, _, _, .cons r t, s => .cons r (Vals.append t s)
theorem Vals.take : ∀ {xs : List V} {us : List Value} (n : Nat), Vals xs us → Vals (xs.take n) (us.take n)
  | _, _, 0, _ => .nil
  | _, _, _ + 1, .nil => .nil
  | _, _, n + 1, .cons r t => .cons r (Vals.take n t)
theorem Vals.drop : ∀ {xs : List V} {us : List Value} (n : Nat), Vals xs us → Vals (xs.drop n) (us.drop n)
  | _, _, 0, r => r
  | _, _, _ + 1, .nil => .nil
  | _, _, n + 1, .cons _ t => Vals.drop n t
def RelO : Option V → Option Value → Prop
  | some v, some u => RelV v u
  | none, none => True
  | _, _ => False
def KV {κ : Type} : List (κ × V) → List (κ × Value) → Prop := Paired fun (p : κ × V) (q : κ × Value) => p.1 = q.1 ∧ RelV p.2 q.2
def kV : Key → V
  | .inl i => .int i
  | .inr x => .str x
inductive HO where
  /-- a list -/
  | lst (xs : List V)
  /-- a tuple (never changes) -/
  | tup (xs : List V)
  /-- a dict whose keys are ints and texts; one whose keys are tuples of ints and texts (the empty one is both) -/
  | dK (kvs : List (Key × V)) | dT (kvs : List (List Key × V))
  /-- a set of ints: its members, its size -/
  | set (S : Int → Bool) (n : Nat)
  /-- an instance of the class at C, its dict at dx, its attributes -/
  | ins (C dx : Addr) (fs : List (Str × V))
  /-- the dict of the instance at x -/
  | own (x : Addr)
  /-- the dict of an exception -/
  | xd (fs : List (Str × V))
  /-- a bound method, f of x -/
  | met (f x : Addr)
  /-- a range object lo, lo + 1, .. below hi -/
  | rng (lo hi : Int)
  /-- a thing that is known to the object (the script; a dict while a loop walks it): read, never written while it is so -/
  | frz (o : Obj) (u : HO)
  /-- a code object's table -/
  | tbl (ps : Array Value)
  /-- any other thing, by what is true of its one object (a def of one's own: SetO a S n := HO.ext fun h => ..) -/
  | ext (φ : Heap → Prop)
abbrev Hp := Addr → Option HO
def upd (H : Hp) (a : Addr) (o : HO) : Hp := fun b => if b = a then some o else H b
theorem upd_same {H : Hp} {a : Addr} {o : HO} : upd H a o a = some o := by unfold upd; rw [if_pos rfl]
theorem upd_ne {H : Hp} {a b : Addr} {o : HO} (h : b ≠ a) : upd H a o b = H b := by unfold upd; rw [if_neg h]
theorem ne_of {H : Hp} {a b : Addr} {o u : HO} (h : H a = some o) (h' : H b = some u) (d : o ≠ u) : a ≠ b := by
  intro e; subst e; rw [h] at h'; exact d (Option.some.inj h')
theorem ne_of_none {H : Hp} {a b : Addr} {o : HO} (h : H a = some o) (h' : H b = none) : a ≠ b := by
  intro e; subst e; rw [h] at h'; cases h'
section
variable (P : Program) (w : World)
def ObjOk (H : Hp) (h : Heap) (a : Addr) : HO → Prop
  | .lst xs => xs.length ≤ sizeLine ∧ ∃ (its : List Value) (n : Nat), Vals xs its ∧ h.get? a = some { cls := .type "list", data := .seq its.toArray n }
  | .tup xs => xs.length ≤ sizeLine ∧ ∃ its : List Value, Vals xs its ∧ IsTup h a its.toArray
  | .dK kvs => kvs.length ≤ sizeLine ∧ (a == sysModules) = false ∧ ∃ vs, KV kvs vs ∧ h.DictOf (mixKind P w) a vs
  | .dT kvs => kvs.length ≤ sizeLine ∧ (a == sysModules) = false ∧ ∃ xs : List (List Key × Addr × Value),
      Paired (fun (p : List Key × V) (q : List Key × Addr × Value) => p.1 = q.1 ∧ H q.2.1 = some (.tup (p.1.map kV)) ∧ RelV p.2 q.2.2) kvs xs ∧
      ∃ o es ep, h.get? a = some o ∧ o.ExactDict ∧ o.data = .dict es ep ∧ es.toList = xs.map (entryOfKey (tupleKind (mixKind P w))) ∧ (xs.map (·.1)).Nodup
  | .set S n => h.SetOf (intKind P w) a S n
  | .ins C dx fs => H dx = some (.own a) ∧ fs.length ≤ 1000 ∧ dx ≠ a ∧ h.get? a = some (PySem.W.instObj C dx) ∧
      ∃ mA, h.Ns1 dx mA ∧ (∀ f, RelO (fs.lookup f) (mA f)) ∧ PySem.Within mA (fs.map (·.1))
  | .own _ => ∃ o, h.get? a = some o
  | .xd fs => ∃ mA, h.Ns1 a mA ∧ ∀ f, RelO (fs.lookup f) (mA f)
  | .rng lo hi => ∃ t u v, h.get? a = some { cls := .type "range", data := .fields #[.int lo t, .int hi u, .int 1 v] }
  | .frz o u => h.get? a = some o ∧ ObjOk H h a u
  | .tbl ps => h.get? a = some { cls := .none, data := .fields ps }
  | .met f x => h.get? a = some (PySem.W.methodObj (.ref f) (.ref x))
  | .ext φ => φ h ∧ (∃ o, h.get? a = some o) ∧ ∀ h1 h2 : Heap, φ h1 → (∀ o, h1.get? a = some o → h2.get? a = some o) → φ h2
def HOk (H : Hp) (h : Heap) : Prop := ∀ a o, H a = some o → ObjOk P w H h a o
end
section
variable {P : Program} {w : World} {H H' : Hp} {h h' : Heap} {a : Addr} {o : HO}
theorem ObjOk.lt (x : ObjOk P w H h a o) : a < h.objs.size := by
  cases o with
  | lst xs => obtain ⟨_, _, _, _, e⟩ := x; exact Heap.lt_size e
  | tup xs => obtain ⟨_, _, _, p⟩ := x; exact p.lt
  | dK kvs => obtain ⟨_, _, _, _, o, _, _, e, _⟩ := x; exact Heap.lt_size e
  | dT kvs => obtain ⟨_, _, _, _, o, _, _, e, _⟩ := x; exact Heap.lt_size e
  | set S n => obtain ⟨o, _, _, _, e, _⟩ := x; exact Heap.lt_size e
  | ins C dx fs => obtain ⟨_, _, _, e, _⟩ := x; exact Heap.lt_size e
  | own y => obtain ⟨_, e⟩ := x; exact Heap.lt_size e
  | xd fs => obtain ⟨_, ⟨_, _, _, e, _⟩, _⟩ := x; exact Heap.lt_size e
  | rng lo hi => obtain ⟨_, _, _, e⟩ := x; exact Heap.lt_size e
  | frz ob u => obtain ⟨e, _⟩ := x; exact Heap.lt_size e
  | tbl ps => exact Heap.lt_size (show h.get? a = some _ from x)
  | met f y => exact Heap.lt_size (show h.get? a = some _ from x)
  | ext φ => obtain ⟨_, ⟨_, e⟩, _⟩ := x; exact Heap.lt_size e
theorem Paired.mapP {α β : Type} {F G : α → β → Prop} : ∀ {l₁ : List α} {l₂ : List β}, Paired F l₁ l₂ → (∀ a b, F a b → G a b) → Paired G l₁ l₂
  | _, _, .nil, _ => .nil
  | _, _, .cons r t, f => .cons (f _ _ r) (Paired.mapP t f)
theorem ObjOk.stay (x : ObjOk P w H h a o) (k : ∀ b u, (b = a ∨ H b = some (.own a)) → h.get? b = some u → h'.get? b = some u)
    (ho : ∀ b, H b = some (.own a) → H' b = some (.own a)) (ht : ∀ b xs, H b = some (.tup xs) → H' b = some (.tup xs)) : ObjOk P w H' h' a o := by
  induction o with
  | lst xs => obtain ⟨z, its, n, r, e⟩ := x; exact ⟨z, its, n, r, k _ _ (.inl rfl) e⟩
  | tup xs => obtain ⟨z, its, r, ob, e, c⟩ := x; exact ⟨z, its, r, ob, k _ _ (.inl rfl) e, c⟩
  | dK kvs => obtain ⟨z, y, vs, r, ob, es, ep, e, c⟩ := x; exact ⟨z, y, vs, r, ob, es, ep, k _ _ (.inl rfl) e, c⟩
  | dT kvs =>
    obtain ⟨z, y, xs, r, ob, es, ep, e, c⟩ := x
    exact ⟨z, y, xs, Paired.mapP r fun p q z => ⟨z.1, ht _ _ z.2.1, z.2.2⟩, ob, es, ep, k _ _ (.inl rfl) e, c⟩
  | set S n => obtain ⟨ob, es, ep, t, e, c⟩ := x; exact ⟨ob, es, ep, t, k _ _ (.inl rfl) e, c⟩
  | ins C dx fs =>
    obtain ⟨d, z, ne, e, mA, ⟨od, es, ep, e2, c⟩, r⟩ := x
    exact ⟨ho _ d, z, ne, k _ _ (.inl rfl) e, mA, ⟨od, es, ep, k _ _ (.inr d) e2, c⟩, r⟩
  | own y => obtain ⟨ob, e⟩ := x; exact ⟨ob, k _ _ (.inl rfl) e⟩
  | xd fs => obtain ⟨mA, ⟨od, es, ep, e, c⟩, r⟩ := x; exact ⟨mA, ⟨od, es, ep, k _ _ (.inl rfl) e, c⟩, r⟩
  | rng lo hi => obtain ⟨t, u, v, e⟩ := x; exact ⟨t, u, v, k _ _ (.inl rfl) e⟩
  | frz ob u ih => obtain ⟨e, q⟩ := x; exact ⟨k _ _ (.inl rfl) e, ih q⟩
  | tbl ps =>
    have e : h.get? a = some { cls := .none, data := .fields ps } := x
    show h'.get? a = some { cls := .none, data := .fields ps }
    exact k a _ (.inl rfl) e
  | met f y =>
    have e : h.get? a = some (PySem.W.methodObj (.ref f) (.ref y)) := x
    show h'.get? a = some (PySem.W.methodObj (.ref f) (.ref y))
    exact k a _ (.inl rfl) e
  | ext φ => obtain ⟨p, ⟨o, e⟩, st⟩ := x; exact ⟨st _ _ p fun o q => k _ _ (.inl rfl) q, ⟨o, k _ _ (.inl rfl) e⟩, st⟩
theorem HOk.lt (x : HOk P w H h) (e : H a = some o) : a < h.objs.size := (x a o e).lt
theorem HOk.fresh (x : HOk P w H h) (e : h.objs.size ≤ a) : H a = none := by
  cases q : H a with
  | none => rfl
  | some u => exact absurd (Nat.lt_of_lt_of_le (x.lt q) e) (Nat.lt_irrefl _)
theorem HOk.kept (x : HOk P w H h) (k : ∀ b u, h.get? b = some u → h'.get? b = some u) : HOk P w H h' := fun a o e =>
  (x a o e).stay (fun b u _ q => k b u q) (fun _ q => q) fun _ _ q => q
theorem HOk.laid (x : HOk P w H h) (k : ∀ b u, h.get? b = some u → h'.get? b = some u) (hp : h.objs.size ≤ a) (new : ObjOk P w (upd H a o) h' a o) : HOk P w (upd H a o) h' := fun b u e => by
  have hn := x.fresh hp
  by_cases hb : b = a
  · subst hb; rw [upd_same] at e; cases e; exact new
  · rw [upd_ne hb] at e
    exact (x b u e).stay (fun c v _ q => k c v q) (fun c q => by rw [upd_ne (ne_of_none q hn)]; exact q) fun c xs q => by rw [upd_ne (ne_of_none q hn)]; exact q
end
def Rd (H : Hp) (a : Addr) (u : HO) : Prop := H a = some u ∨ ∃ o, H a = some (.frz o u)
theorem Rd.ok {P : Program} {w : World} {H : Hp} {h : Heap} {a : Addr} {u : HO} (r : Rd H a u) (x : HOk P w H h) : ObjOk P w H h a u := by
  rcases r with r | ⟨o, r⟩
  · exact x a u r
  · obtain ⟨_, q⟩ := x a _ r
    exact q
def Mut : Option HO → Prop
  | some (.lst _) => True
  | some (.dK _) => True
  | some (.dT _) => True
  | some (.set _ _) => True
  | some (.ins _ _ _) => True
  | some (.ext _) => True
  | _ => False
section
variable {P : Program} {w : World} {H : Hp} {h h' : Heap} {x e : Addr} {o' : HO}
theorem HOk.write (ok : HOk P w H h) (mu : Mut (H x)) (he : e = x ∨ H e = some (.own x)) (k : ∀ b u, b ≠ e → h.get? b = some u → h'.get? b = some u) (heo : ∃ u, h'.get? e = some u)
    (new : ObjOk P w (upd H x o') h' x o') : HOk P w (upd H x o') h' := fun b u q => by
  have nown : ∀ c y, H c = some (.own y) → c ≠ x := fun c y r z => by subst z; rw [r] at mu; exact mu
  have ntup : ∀ c xs, H c = some (.tup xs) → c ≠ x := fun c xs r z => by subst z; rw [r] at mu; exact mu
  by_cases hb : b = x
  · subst hb; rw [upd_same] at q; cases q; exact new
  · rw [upd_ne hb] at q
    by_cases hbe : b = e
    · have q' : H b = some (.own x) := by
        rcases he with z | z
        · exact absurd (hbe.trans z) hb
        · rw [hbe]; exact z
      rw [q] at q'; cases q'
      obtain ⟨v, hv⟩ := heo
      exact ⟨v, by rw [hbe]; exact hv⟩
    · refine (ok b u q).stay (fun c v hc r => k c v ?_ r) (fun c r => by rw [upd_ne (nown c b r)]; exact r) fun c xs r => by rw [upd_ne (ntup c xs r)]; exact r
      rcases hc with rfl | hc
      · exact hbe
      · rintro rfl
        rcases he with z | z
        · exact nown c b hc z
        · rw [hc] at z; cases z; exact hb rfl
end
structure Un (fs ex : List Addr) (H H' : Hp) (h h' : Heap) : Prop where
  keep : ∀ b o, h.get? b = some o → H b = none → b ∉ fs → b ∉ ex → h'.get? b = some o
  slot : ∀ b o, h.get? b = some o → H b = none → b ∈ fs → b ∉ ex → ∃ sl, h'.get? b = some { o with slots := sl }
  free : ∀ b o, h.get? b = some o → H b = none → b ∉ ex → H' b = none
  there : ∀ b o, h.get? b = some o → b ∉ ex → ∃ o', h'.get? b = some o'
  tups : ∀ b xs, H b = some (.tup xs) → H' b = some (.tup xs)
  frzs : ∀ b o u, H b = some (.frz o u) → H' b = some (.frz o u)
  tbls : ∀ b ps, H b = some (.tbl ps) → ∃ more, H' b = some (.tbl (ps ++ more))
section
variable {fs fs' ex ex' : List Addr} {H H1 H2 : Hp} {h h1 h2 h' : Heap} {a x e : Addr} {o : HO}
theorem Un.any (u : Un fs ex H H1 h h1) {b : Addr} {ob : Obj} (q : h.get? b = some ob) (n : H b = none) (hx : b ∉ ex) : ∃ sl, h1.get? b = some { ob with slots := sl } := by
  by_cases hb : b ∈ fs
  · exact u.slot b ob q n hb hx
  · exact ⟨ob.slots, u.keep b ob q n hb hx⟩
theorem Un.kept (k : ∀ b u, h.get? b = some u → h'.get? b = some u) : Un fs ex H H h h' :=
  ⟨fun b ob q _ _ _ => k b ob q, fun b ob q _ _ _ => ⟨ob.slots, k b ob q⟩, fun _ _ _ n _ => n, fun b ob q _ => ⟨ob, k b ob q⟩, fun _ _ q => q, fun _ _ _ q => q, fun _ ps q => ⟨#[], by rw [q]; simp⟩⟩
theorem Un.refl : Un fs ex H H h h := Un.kept fun _ _ q => q
theorem Un.laid (k : ∀ b u, h.get? b = some u → h'.get? b = some u) (hp : h.objs.size ≤ a) (hn : H a = none) : Un fs ex H (upd H a o) h h' where
  keep := fun b u q _ _ _ => k b u q
  slot := fun b u q _ _ _ => ⟨u.slots, k b u q⟩
  free := fun b u q n _ => by rw [upd_ne (Nat.ne_of_lt (Nat.lt_of_lt_of_le (Heap.lt_size q) hp))]; exact n
  there := fun b u q _ => ⟨u, k b u q⟩
  tups := fun b xs q => by rw [upd_ne (ne_of_none q hn)]; exact q
  frzs := fun b u xs q => by rw [upd_ne (ne_of_none q hn)]; exact q
  tbls := fun b ps q => ⟨#[], by rw [upd_ne (ne_of_none q hn), q]; simp⟩
theorem Un.write (mu : Mut (H x)) (he : e = x ∨ H e = some (.own x)) (k : ∀ b u, b ≠ e → h.get? b = some u → h'.get? b = some u) (heo : ∃ u, h'.get? e = some u) : Un fs ex H (upd H x o) h h' := by
  have hx : ∀ b, H b = none → b ≠ x := fun b n z => by subst z; rw [n] at mu; exact mu
  have hb : ∀ b, H b = none → b ≠ e := fun b n z => by
    subst z
    rcases he with r | r
    · exact hx b n r
    · rw [n] at r; cases r
  have hm : ∀ b u, H b = some u → ¬ Mut (some u) → b ≠ x := fun b u q nm z => by subst z; rw [q] at mu; exact nm mu
  refine ⟨fun b u q n _ _ => k b u (hb b n) q, fun b u q n _ _ => ⟨u.slots, k b u (hb b n) q⟩, fun b u q n _ => by rw [upd_ne (hx b n)]; exact n, fun b u q _ => ?_,
    fun b xs q => by rw [upd_ne (hm b _ q fun z => z)]; exact q, fun b u xs q => by rw [upd_ne (hm b _ q fun z => z)]; exact q, fun b ps q => ⟨#[], by rw [upd_ne (hm b _ q fun z => z), q]; simp⟩⟩
  by_cases hbe : b = e
  · subst hbe; exact heo
  · exact ⟨u, k b u hbe q⟩
end
def trk (h : Heap) (H : Hp) : List Addr := (List.range h.objs.size).filter fun a => (H a).isSome
def hidT (h : Heap) (H : Hp) : Heap := PySem.W.hideAll h (trk h H)
theorem hidT_size (h : Heap) (H : Hp) : (hidT h H).objs.size = h.objs.size := PySem.W.hideAll_size _ _
theorem hidT_get {h : Heap} {H : Hp} {b : Addr} {o : Obj} (e : h.get? b = some o) (n : H b = none) : (hidT h H).get? b = some o :=
  PySem.W.hideAll_get _ e fun hm => by
    have q : (H b).isSome = true := (List.mem_filter.mp hm).2
    rw [n] at q; simp at q
theorem of_hidT {h : Heap} {H : Hp} {b : Addr} {o : Obj} (e : (hidT h H).get? b = some o) : h.get? b = some o ∧ H b = none := by
  have e' : h.get? b = some o := PySem.W.of_hideAll (trk h H) e
  refine ⟨e', ?_⟩
  cases q : H b with
  | none => rfl
  | some x =>
    have hm : b ∈ trk h H := List.mem_filter.mpr ⟨List.mem_range.mpr (Heap.lt_size e'), by simp [q]⟩
    have z : (hidT h H).get? b = none := PySem.W.hideAll_none (trk h H) hm
    rw [z] at e; cases e
end L2
namespace L2
open PySem PySem.Spec PyProof.Rows
structure Mod (K : PySem.W.Frag) (mg : Str → Option Value) (base : Heap) : Prop where
  kin : K.In base
  glob : base.Ns mainGlobals mg
  blt : ∃ mb, base.Ns builtinsNs mb ∧ ∀ x : Str, x ≠ "__name__" → mb x = bootBuiltins x
  nolimit : base.NoLimit
structure Cx where
  prog : Program
  w : World
  K : PySem.W.Frag
  mg : Str → Option Value
  base : Heap
  A : Around
  N : List Str
  s₀ : Shared
  H₀ : Hp
  env : Env
  outer : List Env
  stack : List Env
  ex : List Addr
  fn : Str → Bool
  calm : Bool
  pn : List (Addr × Obj)
  xe : Value → Shared → Prop
def frs (l : List Env) : List Addr := l.filterMap (·.frame)
abbrev Cx.fs (X : Cx) : List Addr := frs X.outer
def Vis (sc : Scope) (x : Str) : Prop := sc.names.lookup x = some .local ∨ sc.names.lookup x = some .cell ∨ sc.names.lookup x = some .free
def Loc (sc : Scope) (x : Str) : Prop := sc.names.lookup x = some .local ∨ sc.names.lookup x = some .cell
def Look (env : Env) (h : Heap) (m : Str → Option Value) (x : Str) (u : Value) : Prop :=
  (env.kindOf x = some .local ∧ m x = some u) ∨ ((env.kindOf x = some .cell ∨ env.kindOf x = some .free) ∧ ∃ c, env.cells.lookup x = some c ∧ h.IsCell c (some u))
structure Cx.Ok (X : Cx) : Prop where
  mod : Mod X.K X.mg X.base
  kind : X.env.scope.kind = .function
  glob : X.env.globals = mainGlobals
  blt : X.env.builtins = builtinsNs
  above : X.s₀.heap.objs.size ≤ X.env.locals
  inj : ∀ x y c, X.env.cells.lookup x = some c → X.env.cells.lookup y = some c → x = y
  has : ∀ x, (X.env.kindOf x = some .cell ∨ X.env.kindOf x = some .free) → ∃ c, X.env.cells.lookup x = some c
  cab : ∀ x c, X.fn x = true → X.env.cells.lookup x = some c → X.s₀.heap.objs.size ≤ c
  hd : X.calm = true → X.A.handled = none
  frames : X.A.frames = some X.stack
  stk : X.stack = X.outer ∨ (X.stack = X.env :: X.outer ∧ X.env.frame = some X.env.locals)
  exf : ∀ b ∈ X.ex, b ≠ X.env.locals ∧ ∀ x c, X.env.cells.lookup x = some c → c ≠ b
  bs : ∀ b o, X.base.get? b = some o → X.s₀.heap.get? b = some o ∧ X.H₀ b = none
  bsz : X.base.objs.size ≤ X.s₀.heap.objs.size
  noex : ∀ b o, X.base.get? b = some o → b ∉ X.ex
  exfs : ∀ b ∈ X.ex, b ∉ X.fs
  funs : X.s₀.heap.FunFrames X.base X.outer
  frf : ∀ b ∈ X.fs, X.H₀ b = none
structure Inv (X : Cx) (pins : List (Addr × Obj)) (σ : List (Option V)) (H : Hp) (s : Shared) : Prop where
  ok : X.Ok
  os : s.os = X.s₀.os
  bare : AllBare s.gens
  base : Un X.fs X.ex X.H₀ H X.s₀.heap s.heap
  loc : ∃ m, s.heap.Ns X.env.locals m ∧ ∀ (i : Nat) (x : Str) (v : V), X.N[i]? = some x → σ[i]? = some (some v) → Vis X.env.scope x → ∃ u, RelV v u ∧ Look X.env s.heap m x u
  cell : ∀ x c, X.env.cells.lookup x = some c → ∃ v, s.heap.IsCell c v
  free : H X.env.locals = none
  freeC : ∀ x c, X.env.cells.lookup x = some c → H c = none
  pin : ∀ p ∈ X.pn ++ pins, s.heap.get? p.1 = some p.2 ∧ H p.1 = none ∧ p.1 ≠ X.env.locals ∧ p.1 ∉ X.fs ∧ ∀ v, p.2.data ≠ .cell v
  hok : HOk X.prog X.w H s.heap
  len : σ.length = X.N.length
  tk : 0 < s.toks
section
variable {X : Cx} {pins : List (Addr × Obj)} {σ : List (Option V)} {H H' : Hp} {s : Shared} {h' : Heap}
theorem Cx.Ok.nofr (ok : X.Ok) {b : Addr} {o : Obj} (e : X.base.get? b = some o) : b ∉ X.fs := fun hb => by
  have := (ok.funs.mem hb).1
  rw [e] at this; cases this
theorem Inv.bs (I : Inv X pins σ H s) : ∀ b o, X.base.get? b = some o → s.heap.get? b = some o ∧ H b = none := fun b o e =>
  ⟨I.base.keep b o (I.ok.bs b o e).1 (I.ok.bs b o e).2 (I.ok.nofr e) (I.ok.noex b o e), I.base.free b o (I.ok.bs b o e).1 (I.ok.bs b o e).2 (I.ok.noex b o e)⟩
theorem Inv.bk (I : Inv X pins σ H s) : ∀ b o, X.base.get? b = some o → s.heap.get? b = some o := fun b o e => (I.bs b o e).1
theorem Inv.mod (I : Inv X pins σ H s) : Mod X.K X.mg X.base := I.ok.mod
theorem Inv.kIn (I : Inv X pins σ H s) : X.K.In s.heap := I.ok.mod.kin.keeps I.bk
theorem Inv.lt (I : Inv X pins σ H s) : X.env.locals < s.heap.objs.size := let ⟨_, hn, _⟩ := I.loc; hn.lt
theorem Inv.sz (I : Inv X pins σ H s) : X.s₀.heap.objs.size ≤ s.heap.objs.size := Nat.le_trans I.ok.above (Nat.le_of_lt I.lt)
theorem Inv.nofs (I : Inv X pins σ H s) {a : Addr} (h : s.heap.objs.size ≤ a) : a ∉ X.fs := fun hb => by
  obtain ⟨_, o, ho, _⟩ := I.ok.funs.mem hb
  exact absurd (Nat.lt_of_lt_of_le (Heap.lt_size ho) (Nat.le_trans I.sz h)) (Nat.lt_irrefl _)
theorem Inv.cne (I : Inv X pins σ H s) : ∀ x c, X.env.cells.lookup x = some c → c ≠ X.env.locals := fun x c e z => by
  obtain ⟨v, o, ho, hd⟩ := I.cell x c e
  obtain ⟨m, ⟨o', es, ep, ho', hd', _⟩, _⟩ := I.loc
  rw [z, ho'] at ho; cases ho; rw [hd'] at hd; cases hd
theorem Inv.funs (I : Inv X pins σ H s) : s.heap.FunFrames X.base X.outer := by
  have all : ∀ (l : List Env), (∀ b ∈ frs l, b ∈ X.fs) → X.s₀.heap.FunFrames X.base l → s.heap.FunFrames X.base l := by
    intro l
    induction l with
    | nil => intro _ _; trivial
    | cons env r ih =>
      intro hs hl
      obtain ⟨hk, ⟨L, o, hf, hn, ho, hd⟩, hr⟩ := hl
      have hL : L ∈ X.fs := hs L (by unfold frs; rw [List.filterMap_cons, hf]; exact List.mem_cons_self)
      obtain ⟨sl, e⟩ := I.base.slot L o ho (I.ok.frf L hL) hL fun z => I.ok.exfs L z hL
      exact ⟨hk, ⟨L, _, hf, hn, e, hd⟩, ih (fun b hb => hs b (by unfold frs; rw [List.filterMap_cons, hf]; exact List.mem_cons_of_mem _ hb)) hr⟩
  exact all X.outer (fun _ hb => hb) I.ok.funs
theorem Inv.stack (I : Inv X pins σ H s) : s.heap.FunFrames X.base X.stack := by
  rcases I.ok.stk with e | ⟨e, hf⟩
  · rw [e]; exact I.funs
  · rw [e]
    obtain ⟨m, hn, _⟩ := I.loc
    refine .cons (by rw [I.ok.kind]; decide) hf hn ?_ I.funs
    exact Heap.get?_none_of_le (Nat.le_trans I.ok.bsz I.ok.above)
theorem Inv.stkSub (I : Inv X pins σ H s) : ∀ b ∈ frs X.stack, b ∈ X.env.locals :: X.fs := fun b hb => by
  rcases I.ok.stk with e | ⟨e, hf⟩
  · rw [e] at hb; exact List.mem_cons_of_mem _ hb
  · rw [e] at hb
    unfold frs at hb
    rw [List.filterMap_cons, hf] at hb
    exact hb
theorem Inv.stkFree (I : Inv X pins σ H s) : ∀ b ∈ frs X.stack, H b = none := fun b hb => by
  rcases List.mem_cons.mp (I.stkSub b hb) with e | hb
  · rw [e]; exact I.free
  · obtain ⟨_, o, ho, _⟩ := I.ok.funs.mem hb
    exact I.base.free b o ho (I.ok.frf b hb) fun z => I.ok.exfs b z hb
theorem Inv.step {g' : Array GenState} {t' : Nat} {d' : Drawn} {ch : List Addr} (I : Inv X pins σ H s)
    (hch : ∀ b ∈ ch, (b ∈ X.ex ∨ X.s₀.heap.objs.size ≤ b) ∧ b ≠ X.env.locals ∧ (∀ x c, X.env.cells.lookup x = some c → c ≠ b) ∧ ∀ p ∈ X.pn ++ pins, p.1 ≠ b)
    (keep : ∀ b o, b ≠ X.env.locals → b ∉ X.fs → b ∉ ch → s.heap.get? b = some o → H b = none → h'.get? b = some o)
    (slot : ∀ b o, b ≠ X.env.locals → b ∈ X.fs → b ∉ ch → s.heap.get? b = some o → H b = none → ∃ sl, h'.get? b = some { o with slots := sl }) (free : ∀ b o, b ∉ ch → s.heap.get? b = some o → H b = none → H' b = none)
    (there : ∀ b o, b ∉ ch → s.heap.get? b = some o → ∃ o', h'.get? b = some o')
    (tups : ∀ b xs, H b = some (.tup xs) → H' b = some (.tup xs)) (frzs : ∀ b o u, H b = some (.frz o u) → H' b = some (.frz o u)) (tbls : ∀ b ps, H b = some (.tbl ps) → ∃ more, H' b = some (.tbl (ps ++ more)))
    (ns : ∀ m, s.heap.Ns X.env.locals m → h'.Ns X.env.locals m) (hok : HOk X.prog X.w H' h') (hg : AllBare g') (ht : 0 < t' := by first | exact Nat.succ_pos _ | assumption | exact Inv.tk ‹_› | omega) :
    Inv X pins σ H' { s with heap := h', gens := g', drawn := d', toks := t' } := by
  have neL : ∀ b o, X.s₀.heap.get? b = some o → b ≠ X.env.locals := fun b o e => Nat.ne_of_lt (Nat.lt_of_lt_of_le (Heap.lt_size e) I.ok.above)
  have neC : ∀ b o, X.s₀.heap.get? b = some o → b ∉ X.ex → b ∉ ch := fun b o e hx hb => by
    rcases (hch b hb).1 with z | z
    · exact hx z
    · exact absurd (Nat.lt_of_lt_of_le (Heap.lt_size e) z) (Nat.lt_irrefl _)
  have cellK : ∀ x c, X.env.cells.lookup x = some c → ∀ v, s.heap.IsCell c v → h'.IsCell c v := fun x c e v ⟨o, ho, hd⟩ => by
    have nch : c ∉ ch := fun z => (hch c z).2.2.1 x c e rfl
    by_cases hc : c ∈ X.fs
    · obtain ⟨sl, q⟩ := slot c o (I.cne x c e) hc nch ho (I.freeC x c e)
      exact ⟨_, q, hd⟩
    · exact ⟨o, keep c o (I.cne x c e) hc nch ho (I.freeC x c e), hd⟩
  refine ⟨I.ok, I.os, hg, ⟨fun b o e n hb hx => ?_, fun b o e n hb hx => ?_, fun b o e n hx => ?_, fun b o e hx => ?_, fun b xs e => tups b xs (I.base.tups b xs e), fun b o xs e => frzs b o xs (I.base.frzs b o xs e), fun b ps e => ?_⟩, ?_, fun x c e => ?_, ?_, fun x c e => ?_, fun p hp => ?_, hok, I.len, ht⟩
  · exact keep b o (neL b o e) hb (neC b o e hx) (I.base.keep b o e n hb hx) (I.base.free b o e n hx)
  · obtain ⟨sl, e1⟩ := I.base.slot b o e n hb hx
    obtain ⟨sl', e2⟩ := slot b _ (neL b o e) hb (neC b o e hx) e1 (I.base.free b o e n hx)
    exact ⟨sl', e2⟩
  · obtain ⟨o', e1⟩ := I.base.there b o e hx
    exact free b o' (neC b o e hx) e1 (I.base.free b o e n hx)
  · obtain ⟨o', e1⟩ := I.base.there b o e hx
    exact there b o' (neC b o e hx) e1
  · obtain ⟨m1, e1⟩ := I.base.tbls b ps e
    obtain ⟨m2, e2⟩ := tbls b _ e1
    exact ⟨m1 ++ m2, by rw [e2, Array.append_assoc]⟩
  · obtain ⟨m, hn, hl⟩ := I.loc
    refine ⟨m, ns m hn, fun i x v e1 e2 e3 => ?_⟩
    obtain ⟨u, r, l⟩ := hl i x v e1 e2 e3
    refine ⟨u, r, ?_⟩
    rcases l with l | ⟨k, c, e, z⟩
    · exact .inl l
    · exact .inr ⟨k, c, e, cellK x c e _ z⟩
  · obtain ⟨v, z⟩ := I.cell x c e
    exact ⟨v, cellK x c e v z⟩
  · obtain ⟨m, ⟨o, _, _, ho, _⟩, _⟩ := I.loc
    exact free _ o (fun z => (hch _ z).2.1 rfl) ho I.free
  · obtain ⟨v, o, ho, hd⟩ := I.cell x c e
    exact free c o (fun z => (hch c z).2.2.1 x c e rfl) ho (I.freeC x c e)
  · obtain ⟨e, n, ne, nf, d⟩ := I.pin p hp
    have nch : p.1 ∉ ch := fun z => (hch p.1 z).2.2.2 p hp rfl
    exact ⟨keep p.1 p.2 ne nf nch e n, free p.1 p.2 nch e n, ne, nf, d⟩
theorem Inv.un {t' : Nat} (I : Inv X pins σ H s) (u : Un X.fs [] H H' s.heap h') (hok : HOk X.prog X.w H' h') (ht : 0 < t' := by first | exact Nat.succ_pos _ | assumption | exact Inv.tk ‹_› | omega) : Inv X pins σ H' { s with heap := h', toks := t' } := by
  obtain ⟨m, ⟨o, es, ep, ho, r⟩, _⟩ := id I.loc
  obtain ⟨sl, hL⟩ := u.any ho I.free (by simp)
  exact I.step (g' := s.gens) (d' := s.drawn) (ch := []) (fun _ z => nomatch z) (fun b o _ hb _ e n => u.keep b o e n hb (by simp)) (fun b o _ hb _ e n => u.slot b o e n hb (by simp)) (fun b o _ e n => u.free b o e n (by simp)) (fun b o _ e => u.there b o e (by simp)) u.tups u.frzs u.tbls (fun m' hm => by
    obtain ⟨o', es', ep', ho', r'⟩ := hm
    rw [ho] at ho'; cases ho'
    exact ⟨_, es', ep', hL, r'⟩) hok I.bare
theorem Inv.call {g' : Array GenState} {t' : Nat} {d' : Drawn} {ch : List Addr} (I : Inv X pins σ H s) (u : Un (frs X.stack) ch H H' s.heap h') (hok : HOk X.prog X.w H' h') (hg : AllBare g')
    (hch : ∀ b ∈ ch, (b ∈ X.ex ∨ X.s₀.heap.objs.size ≤ b) ∧ b ≠ X.env.locals ∧ (∀ x c, X.env.cells.lookup x = some c → c ≠ b) ∧ ∀ p ∈ X.pn ++ pins, p.1 ≠ b) (ht : 0 < t' := by first | exact Nat.succ_pos _ | assumption | exact Inv.tk ‹_› | omega) :
    Inv X pins σ H' { s with heap := h', gens := g', drawn := d', toks := t' } := by
  obtain ⟨m, ⟨o, es, ep, ho, r⟩, _⟩ := id I.loc
  obtain ⟨sl, hL⟩ := u.any ho I.free fun z => (hch _ z).2.1 rfl
  exact I.step (ch := ch) hch (fun b o hL hb hc e n => u.keep b o e n (fun z => (List.mem_cons.mp (I.stkSub b z)).elim hL hb) hc) (fun b o _ _ hc e n => u.any e n hc) (fun b o hc e n => u.free b o e n hc) (fun b o hc e => u.there b o e hc) u.tups u.frzs u.tbls (fun m' hm => by
    obtain ⟨o', es', ep', ho', r'⟩ := hm
    rw [ho] at ho'; cases ho'
    exact ⟨_, es', ep', hL, r'⟩) hok hg
theorem Inv.turned {t' : Nat} {it : Addr} (I : Inv X pins σ H s) (k : ∀ b o, b ≠ it → s.heap.get? b = some o → h'.get? b = some o) (hn : H it = none) (hL : it ≠ X.env.locals)
    (h1 : it ∈ X.ex ∨ X.s₀.heap.objs.size ≤ it) (h2 : ∀ x c, X.env.cells.lookup x = some c → c ≠ it) (h3 : ∀ p ∈ X.pn ++ pins, p.1 ≠ it) (ht : 0 < t' := by first | exact Nat.succ_pos _ | assumption | exact Inv.tk ‹_› | omega) : Inv X pins σ H { s with heap := h', toks := t' } := by
  have nit : ∀ b u, H b = some u → b ≠ it := fun b u e z => by rw [z, hn] at e; cases e
  refine I.step (g' := s.gens) (d' := s.drawn) (ch := [it]) (fun b hb => ?_) (fun b o _ _ hc e _ => k b o (fun z => hc (by simp [z])) e) (fun b o _ _ hc e _ => ⟨o.slots, k b o (fun z => hc (by simp [z])) e⟩) (fun _ _ _ _ n => n)
    (fun b o hc e => ⟨o, k b o (fun z => hc (by simp [z])) e⟩) (fun _ _ e => e) (fun _ _ _ e => e) (fun b ps e => ⟨#[], by rw [e]; simp⟩) (fun m hm => ?_) (fun b u e => ?_) I.bare
  · have e : b = it := by simpa using hb
    subst e
    exact ⟨h1, hL, h2, h3⟩
  · obtain ⟨o, es, ep, ho, r⟩ := hm
    exact ⟨o, es, ep, k _ o (Ne.symm hL) ho, r⟩
  · refine (I.hok b u e).stay (fun c v hc q => k c v ?_ q) (fun _ q => q) fun _ _ q => q
    rcases hc with z | z
    · rw [z]; exact nit b u e
    · exact nit c _ z
theorem Inv.tok (I : Inv X pins σ H s) (t' : Nat) (ht : 0 < t' := by first | exact Nat.succ_pos _ | assumption | exact Inv.tk ‹_› | omega) : Inv X pins σ H { s with toks := t' } := I.un (h' := s.heap) (t' := t') Un.refl I.hok
theorem Inv.kept {t' : Nat} (I : Inv X pins σ H s) (k : ∀ b u, s.heap.get? b = some u → h'.get? b = some u) (ht : 0 < t' := by first | exact Nat.succ_pos _ | assumption | exact Inv.tk ‹_› | omega) : Inv X pins σ H { s with heap := h', toks := t' } := I.un (Un.kept k) (I.hok.kept k)
theorem Inv.laid {a : Addr} {o : HO} {t' : Nat} (I : Inv X pins σ H s) (k : ∀ b u, s.heap.get? b = some u → h'.get? b = some u) (hp : s.heap.objs.size ≤ a) (new : ObjOk X.prog X.w (upd H a o) h' a o) (ht : 0 < t' := by first | exact Nat.succ_pos _ | assumption | exact Inv.tk ‹_› | omega) :
    Inv X pins σ (upd H a o) { s with heap := h', toks := t' } := I.un (Un.laid k hp (I.hok.fresh hp)) (I.hok.laid k hp new)
theorem Inv.write {x e : Addr} {o : HO} {t' : Nat} (I : Inv X pins σ H s) (mu : Mut (H x)) (he : e = x ∨ H e = some (.own x)) (k : ∀ b u, b ≠ e → s.heap.get? b = some u → h'.get? b = some u) (heo : ∃ u, h'.get? e = some u)
    (new : ObjOk X.prog X.w (upd H x o) h' x o) (ht : 0 < t' := by first | exact Nat.succ_pos _ | assumption | exact Inv.tk ‹_› | omega) : Inv X pins σ (upd H x o) { s with heap := h', toks := t' } := I.un (Un.write mu he k heo) (I.hok.write mu he k heo new)
theorem Inv.weak {σ' : List (Option V)} (I : Inv X pins σ H s) (hl : σ'.length = σ.length) (w : ∀ (i : Nat) v, σ'[i]? = some (some v) → σ[i]? = some (some v)) : Inv X pins σ' H s :=
  ⟨I.ok, I.os, I.bare, I.base, let ⟨m, hn, hl'⟩ := I.loc; ⟨m, hn, fun i x v e1 e2 e3 => hl' i x v e1 (w i v e2) e3⟩, I.cell, I.free, I.freeC, I.pin, I.hok, hl.trans I.len, I.tk⟩
theorem Inv.pins_of {pins' : List (Addr × Obj)} (I : Inv X pins σ H s) (h : ∀ p ∈ pins', s.heap.get? p.1 = some p.2 ∧ H p.1 = none ∧ p.1 ≠ X.env.locals ∧ p.1 ∉ X.fs ∧ ∀ v, p.2.data ≠ .cell v) : Inv X pins' σ H s :=
  ⟨I.ok, I.os, I.bare, I.base, I.loc, I.cell, I.free, I.freeC, fun p hp => (List.mem_append.mp hp).elim (fun z => I.pin p (List.mem_append_left _ z)) (h p), I.hok, I.len, I.tk⟩
theorem nodup_ix {N : List Str} (hN : N.Nodup) {i j : Nat} {x : Str} (a : N[i]? = some x) (b : N[j]? = some x) : i = j := by
  obtain ⟨h1, e1⟩ := List.getElem?_eq_some_iff.mp a
  obtain ⟨h2, e2⟩ := List.getElem?_eq_some_iff.mp b
  exact (List.getElem_inj hN).mp (e1.trans e2.symm)
theorem store_ok2 {M : Model} {A : Around} {E : Value → Shared → Prop} {i : Nat} {x : Str} {v : V} {u : Value} {Q : Unit → Shared → Prop} (I : Inv X pins σ H s) (hN : X.N.Nodup) (hi : X.N[i]? = some x) (hx : Loc X.env.scope x) (r : RelV v u)
    (h : ∀ s', Inv X pins (σ.set i (some v)) H s' → (∃ a, Heap.SameBut a s.heap s'.heap ∧ (a = X.env.locals ∨ X.env.cells.lookup x = some a)) → Q () s') (hf : X.fn x = true ∨ X.env.scope.names.lookup x = some .local := by first | exact .inl rfl | exact .inr rfl | assumption) : wpAny M A (storeName X.env x u) Q E s := by
  obtain ⟨m, hn, hl⟩ := id I.loc
  have hcls : (X.env.scope.kind == .class || (X.env.scope.kind == .module && X.env.locals != X.env.globals)) = false := by rw [I.ok.kind]; rfl
  have hiσ : i < σ.length := by rw [I.len]; exact (List.getElem?_eq_some_iff.mp hi).1
  have cne := I.cne
  have tracked : ∀ {a : Addr} {h' : Heap}, (∃ o, s.heap.get? a = some o ∧ H a = none) → Heap.SameBut a s.heap h' → HOk X.prog X.w H h' := fun {a h'} ha hs b ob e => by
    obtain ⟨_, _, hfree⟩ := ha
    refine (I.hok b ob e).stay (fun c w' hc q => (hs.2 c ?_).trans q) (fun _ q => q) fun _ _ q => q
    rintro rfl
    rcases hc with rfl | hc
    · rw [hfree] at e; cases e
    · rw [hfree] at hc; cases hc
  rcases hx with hk | hk
  · refine wpAny_storeName_local hk hn (fun h' hn' hs => ?_) hcls
    obtain ⟨oL, _, _, hoL, _⟩ := id hn
    refine h _ ⟨I.ok, I.os, I.bare, ⟨fun b o e n hb hx => ?_, fun b o e n hb hx => ?_, I.base.free, fun b o e hx => ?_, I.base.tups, I.base.frzs, I.base.tbls⟩, ⟨_, hn', fun j y v' e1 e2 e3 => ?_⟩, fun y c e => ?_, I.free, I.freeC, fun p hp => ?_, tracked ⟨oL, hoL, I.free⟩ hs, by simpa using I.len, by first | exact I.tk | exact Nat.succ_pos _⟩ ⟨_, hs, .inl rfl⟩
    · exact (hs.2 b (Nat.ne_of_lt (Nat.lt_of_lt_of_le (Heap.lt_size e) I.ok.above))).trans (I.base.keep b o e n hb hx)
    · obtain ⟨sl, e1⟩ := I.base.slot b o e n hb hx
      exact ⟨sl, (hs.2 b (Nat.ne_of_lt (Nat.lt_of_lt_of_le (Heap.lt_size e) I.ok.above))).trans e1⟩
    · obtain ⟨o', e1⟩ := I.base.there b o e hx
      exact ⟨o', (hs.2 b (Nat.ne_of_lt (Nat.lt_of_lt_of_le (Heap.lt_size e) I.ok.above))).trans e1⟩
    · by_cases hj : j = i
      · subst hj
        rw [hi] at e1; cases e1
        rw [List.getElem?_set_self hiσ] at e2
        cases e2
        exact ⟨u, r, .inl ⟨hk, by simp⟩⟩
      · rw [List.getElem?_set_ne (Ne.symm hj)] at e2
        obtain ⟨u', r', q⟩ := hl j y v' e1 e2 e3
        refine ⟨u', r', ?_⟩
        rcases q with ⟨k, e⟩ | ⟨k, c, e, z⟩
        · refine .inl ⟨k, ?_⟩
          have : y ≠ x := fun e => hj (nodup_ix hN e1 (e ▸ hi))
          simp [this, e]
        · exact .inr ⟨k, c, e, z.sameBut hs (cne y c e)⟩
    · obtain ⟨w', z⟩ := I.cell y c e
      exact ⟨w', z.sameBut hs (cne y c e)⟩
    · obtain ⟨e, n, ne, nf, d⟩ := I.pin p hp
      exact ⟨(hs.2 p.1 ne).trans e, n, ne, nf, d⟩
  · have hfn : X.fn x = true := by
      rcases hf with z | z
      · exact z
      · rw [z] at hk; cases hk
    obtain ⟨c, hc⟩ := I.ok.has x (.inl hk)
    obtain ⟨w', z⟩ := I.cell x c hc
    refine wpAny_storeName_cell I.ok.kind hk hc z (fun h' hc' hs => ?_)
    obtain ⟨oc, hoc, hocd⟩ := id z
    refine h { s with heap := h' } ⟨I.ok, I.os, I.bare, ⟨fun b o e n hb hx => ?_, fun b o e n hb hx => ?_, I.base.free, fun b o e hx => ?_, I.base.tups, I.base.frzs, I.base.tbls⟩, ⟨m, hn.sameBut hs (Ne.symm (cne x c hc)), fun j y v' e1 e2 e3 => ?_⟩, fun y c' e => ?_, I.free, I.freeC, fun p hp => ?_, tracked ⟨oc, hoc, I.freeC x c hc⟩ hs, by simpa using I.len, by first | exact I.tk | exact Nat.succ_pos _⟩ ⟨c, hs, .inr hc⟩
    · exact (hs.2 b (Nat.ne_of_lt (Nat.lt_of_lt_of_le (Heap.lt_size e) (I.ok.cab x c hfn hc)))).trans (I.base.keep b o e n hb hx)
    · obtain ⟨sl, e1⟩ := I.base.slot b o e n hb hx
      exact ⟨sl, (hs.2 b (Nat.ne_of_lt (Nat.lt_of_lt_of_le (Heap.lt_size e) (I.ok.cab x c hfn hc)))).trans e1⟩
    · obtain ⟨o', e1⟩ := I.base.there b o e hx
      exact ⟨o', (hs.2 b (Nat.ne_of_lt (Nat.lt_of_lt_of_le (Heap.lt_size e) (I.ok.cab x c hfn hc)))).trans e1⟩
    · by_cases hj : j = i
      · subst hj
        rw [hi] at e1; cases e1
        rw [List.getElem?_set_self hiσ] at e2
        cases e2
        exact ⟨u, r, .inr ⟨.inl hk, c, hc, hc'⟩⟩
      · rw [List.getElem?_set_ne (Ne.symm hj)] at e2
        obtain ⟨u', r', q⟩ := hl j y v' e1 e2 e3
        refine ⟨u', r', ?_⟩
        rcases q with q | ⟨k, c', e, z'⟩
        · exact .inl q
        · refine .inr ⟨k, c', e, z'.sameBut hs ?_⟩
          rintro rfl
          exact hj (nodup_ix hN e1 (I.ok.inj _ _ _ e hc ▸ hi))
    · by_cases hcc : c' = c
      · subst hcc; exact ⟨_, hc'⟩
      · obtain ⟨w2, z2⟩ := I.cell y c' e
        exact ⟨w2, z2.sameBut hs hcc⟩
    · obtain ⟨e, n, ne, nf, d⟩ := I.pin p hp
      refine ⟨(hs.2 p.1 ?_).trans e, n, ne, nf, d⟩
      intro q
      rw [q, hoc] at e
      have q' : oc = p.2 := Option.some.inj e
      exact d w' (by rw [← q']; exact hocd)
theorem store_ok {M : Model} {A : Around} {E : Value → Shared → Prop} {i : Nat} {x : Str} {v : V} {u : Value} {Q : Unit → Shared → Prop} (I : Inv X pins σ H s) (hN : X.N.Nodup) (hi : X.N[i]? = some x) (hx : Loc X.env.scope x) (r : RelV v u)
    (h : ∀ s', Inv X pins (σ.set i (some v)) H s' → Q () s') (hf : X.fn x = true ∨ X.env.scope.names.lookup x = some .local := by first | exact .inl rfl | exact .inr rfl | assumption) : wpAny M A (storeName X.env x u) Q E s :=
  store_ok2 I hN hi hx r (fun s' I' _ => h s' I') hf
end
abbrev XK := Value → Option Addr → Hp → Prop
abbrev St := List (Option V)
abbrev VK := V → Hp → Prop
abbrev TE := St → Hp → VK → Prop
abbrev TT := St → Hp → (Bool → Hp → Prop) → Prop
abbrev TA := St → Hp → (List V → Hp → Prop) → Prop
structure Ends where
  nx : St → Hp → Prop
  rt : VK
  bk : St → Hp → Prop := fun _ _ => False
  ct : St → Hp → Prop := fun _ _ => False
abbrev TS := Ends → St → Hp → Prop
def EP (X : Cx) (pins : List (Addr × Obj)) (σ : St) (Q : VK) (u : Value) (s' : Shared) : Prop := ∃ v H', Inv X pins σ H' s' ∧ RelV v u ∧ Q v H'
def TP (X : Cx) (pins : List (Addr × Obj)) (σ : St) (Q : Bool → Hp → Prop) (b : Bool) (s' : Shared) : Prop := ∃ H', Inv X pins σ H' s' ∧ Q b H'
def AP (X : Cx) (pins : List (Addr × Obj)) (σ : St) (Q : List V → Hp → Prop) (us : List Value) (s' : Shared) : Prop := ∃ vs H', Inv X pins σ H' s' ∧ Vals vs us ∧ Q vs H'
def SP (X : Cx) (pins : List (Addr × Obj)) (D : Ends) (f : Flow) (s' : Shared) : Prop :=
  match f with
  | .next => ∃ σ' H', Inv X pins σ' H' s' ∧ D.nx σ' H'
  | .brk => ∃ σ' H', Inv X pins σ' H' s' ∧ D.bk σ' H'
  | .cont => ∃ σ' H', Inv X pins σ' H' s' ∧ D.ct σ' H'
  | .ret u => ∃ v σ' H', Inv X pins σ' H' s' ∧ RelV v u ∧ D.rt v H'
def PE (X : Cx) (e : Expr) (t : TE) : Prop :=
  ∀ (pins : List (Addr × Obj)) (s : Shared) (σ : St) (H : Hp) (Q : VK), Inv X pins σ H s → t σ H Q → wpAny (model X.prog X.w) X.A (eval e X.env) (EP X pins σ Q) X.xe s
def PT (X : Cx) (e : Expr) (t : TT) : Prop :=
  ∀ (pins : List (Addr × Obj)) (s : Shared) (σ : St) (H : Hp) (Q : Bool → Hp → Prop), Inv X pins σ H s → t σ H Q → wpAny (model X.prog X.w) X.A (isTrue e X.env (eval e X.env)) (TP X pins σ Q) X.xe s
def PW (X : Cx) (e : Expr) (t : TT) : Prop :=
  ∀ (whole : Sem Value) (pins : List (Addr × Obj)) (s : Shared) (σ : St) (H : Hp) (Q : Bool → Hp → Prop), Inv X pins σ H s → t σ H Q → wpAny (model X.prog X.w) X.A (isTrue e X.env whole) (TP X pins σ Q) X.xe s
theorem PW.pt {X : Cx} {e : Expr} {t : TT} (h : PW X e t) : PT X e t := h _
def PA (X : Cx) (es : List Expr) (t : TA) : Prop :=
  ∀ (pos : Pos) (pins : List (Addr × Obj)) (s : Shared) (σ : St) (H : Hp) (Q : List V → Hp → Prop), Inv X pins σ H s → t σ H Q → wpAny (model X.prog X.w) X.A (spliced (backTo pos (starEach es X.env))) (AP X pins σ Q) X.xe s
def PS (X : Cx) (st : Stmt) (t : TS) : Prop :=
  ∀ (pins : List (Addr × Obj)) (s : Shared) (σ : St) (H : Hp) (D : Ends), Inv X pins σ H s → t D σ H → wpAny (model X.prog X.w) X.A (exec st X.env) (SP X pins D) X.xe s
def PSs (X : Cx) (st : List Stmt) (t : TS) : Prop :=
  ∀ (pins : List (Addr × Obj)) (s : Shared) (σ : St) (H : Hp) (D : Ends), Inv X pins σ H s → t D σ H → wpAny (model X.prog X.w) X.A (execs st X.env) (SP X pins D) X.xe s
theorem thn {α : Type} {t : Sem α} {Q Q' : α → Shared → Prop} {M : Model} {A : Around} {E : Value → Shared → Prop} {s : Shared} (h : wpAny M A t Q E s) (hQ : ∀ a s, Q a s → Q' a s) : wpAny M A t Q' E s := wpAny_mono h hQ fun _ _ x => x
end L2
namespace L2
open PySem PySem.Spec PyProof.Rows
section
variable {X : Cx}
def tVar (i : Nat) : TE := fun σ H Q => ∃ v, σ[i]? = some (some v) ∧ Q v H
def tC (v : V) : TE := fun _ H Q => Q v H
theorem pe_var {i : Nat} {x : Str} {pos : Pos} (hN : X.N[i]? = some x) (hv : Vis X.env.scope x) (hd : (x == ("__debug__" : Str)) = false := by decide) (hcd : (x == ("__classdict__" : Str)) = false := by decide) : PE X (.Name x pos) (tVar i) := by
  intro pins s σ H Q I h
  obtain ⟨v, e, h⟩ := h
  obtain ⟨m, hn, hl⟩ := I.loc
  obtain ⟨u, r, l⟩ := hl i x v hN e hv
  have fin : EP X pins σ Q u s := ⟨v, H, I, r, h⟩
  rcases l with ⟨hk, hm⟩ | ⟨hk, c, hc, hcell⟩
  · exact wpAny_Name (wpAny_loadName_local I.ok.kind hk hn hm fin) hd
  · rcases hk with hk | hk
    · exact wpAny_Name (wpAny_loadName_cell I.ok.kind hk hc hcell fin) hd
    · exact wpAny_Name (wpAny_loadName_free I.ok.kind hk hc hcell fin hcd) hd
theorem pe_int {i j pos} : PE X (.Constant (.int i) j pos) (tC (.int i)) := fun _ _ _ H _ I h => wpAny_Constant_int ⟨.int i, H, I.tok _, ⟨_, rfl⟩, h⟩
theorem pe_bl {b j pos} : PE X (.Constant (.bool b) j pos) (tC (.bl b)) := fun _ _ _ H _ I h => Constant_bool ⟨.bl b, H, I, rfl, h⟩
theorem pe_non {j pos} : PE X (.Constant .none j pos) (tC .non) := fun _ _ _ H _ I h => Constant_none ⟨.non, H, I, rfl, h⟩
theorem pe_str {x j pos} : PE X (.Constant (.str x) j pos) (tC (.str x)) := fun _ _ _ H _ I h => Calls.Constant_str ⟨.str x, H, I.tok _, ⟨_, rfl⟩, h⟩
def Gl (X : Cx) (x : Str) : Prop := X.env.kindOf x = some .globalImplicit
theorem ld_glob {E : Value → Shared → Prop} {pins : List (Addr × Obj)} {s : Shared} {σ : St} {H : Hp} {x : Str} {u : Value} {pos : Pos} {Q : Value → Shared → Prop} (I : Inv X pins σ H s) (hg : Gl X x) (hm : X.mg x = some u) (h : Q u s)
    (hd : (x == ("__debug__" : Str)) = false := by decide) : wpAny (model X.prog X.w) X.A (eval (.Name x pos) X.env) Q E s :=
  Calls.Name_function_global I.ok.kind hg (Calls.loadGlobal_global (by rw [I.ok.glob]; exact I.mod.glob.keeps I.bk) hm h) hd
theorem ld_blt {E : Value → Shared → Prop} {pins : List (Addr × Obj)} {s : Shared} {σ : St} {H : Hp} {x : Str} {u : Value} {pos : Pos} {Q : Value → Shared → Prop} (I : Inv X pins σ H s) (hg : Gl X x) (hm : X.mg x = none) (hv : bootBuiltins x = some u) (h : Q u s)
    (hn : x ≠ "__name__" := by decide) (hd : (x == ("__debug__" : Str)) = false := by decide) : wpAny (model X.prog X.w) X.A (eval (.Name x pos) X.env) Q E s := by
  obtain ⟨mb, h1, h2⟩ := I.mod.blt
  exact Calls.Name_function_global I.ok.kind hg (Calls.loadGlobal_builtin (by rw [I.ok.glob]; exact I.mod.glob.keeps I.bk) hm (by rw [I.ok.blt]; exact h1.keeps I.bk) ((h2 x hn).trans hv) h) hd
theorem pe_glob {x : Str} {v : V} {u : Value} {pos : Pos} (hg : Gl X x) (hm : X.mg x = some u) (r : RelV v u) (hd : (x == ("__debug__" : Str)) = false := by decide) : PE X (.Name x pos) (tC v) :=
  fun _ _ _ H _ I h => ld_glob I hg hm ⟨v, H, I, r, h⟩ hd
theorem pe_bltn {x : Str} {v : V} {u : Value} {pos : Pos} (hg : Gl X x) (hm : X.mg x = none) (hv : bootBuiltins x = some u) (r : RelV v u) (hn : x ≠ "__name__" := by decide) (hd : (x == ("__debug__" : Str)) = false := by decide) : PE X (.Name x pos) (tC v) :=
  fun _ _ _ H _ I h => ld_blt I hg hm hv ⟨v, H, I, r, h⟩ hn hd
variable {a b : Expr} {ta tb : TE} {pos : Pos}
def tB (t : TE) : TT := fun σ H Q => t σ H fun x H1 => ∃ c, x = .bl c ∧ Q c H1
theorem pt_val {e : Expr} {t : TE} (h : PE X e t) (he : ∀ whole, isTrue e X.env whole = (do let v ← whole; standAt e.pos; holding [v] (truthy v)) := by intro _; rfl) : PT X e (tB t) := by
  intro pins s σ H Q I hw
  refine isTrue_plain (thn (h pins s σ H _ I hw) fun v s1 ⟨x, H1, I1, r1, q1⟩ => ?_) (he _)
  obtain ⟨d, rfl, q⟩ := q1
  cases r1
  exact wpAny_truthy_bool ⟨H1, I1, q⟩
variable {tA tB' : TT} {rest : List Expr}
def tAnd (t u : TT) : TT := fun σ H Q => t σ H fun c H1 => if c = true then u σ H1 Q else Q false H1
def tOr (t u : TT) : TT := fun σ H Q => t σ H fun c H1 => if c = true then Q true H1 else u σ H1 Q
def tNot (t : TT) : TT := fun σ H Q => t σ H fun c H1 => Q (!c) H1
theorem pw_and1 (ha : PT X a tA) : PW X (.BoolOp .And [a] pos) tA := by
  intro wh pins s σ H Q I h
  refine isTrue_and (thn (ha pins s σ H Q I h) fun c s1 e => ?_)
  cases c with
  | true => exact isTrue_and_nil e
  | false => exact e
theorem pw_or1 (ha : PT X a tA) : PW X (.BoolOp .Or [a] pos) tA := by
  intro wh pins s σ H Q I h
  refine isTrue_or (thn (ha pins s σ H Q I h) fun c s1 e => ?_)
  cases c with
  | false => exact isTrue_or_nil e
  | true => exact e
theorem pw_and (ha : PT X a tA) (hb : PW X (.BoolOp .And (b :: rest) pos) tB') : PW X (.BoolOp .And (a :: b :: rest) pos) (tAnd tA tB') := by
  intro wh pins s σ H Q I h
  refine isTrue_and (thn (ha pins s σ H _ I h) fun c s1 ⟨H1, I1, q1⟩ => ?_)
  cases c with
  | true => exact hb wh pins s1 σ H1 Q I1 q1
  | false => exact ⟨H1, I1, q1⟩
theorem pw_or (ha : PT X a tA) (hb : PW X (.BoolOp .Or (b :: rest) pos) tB') : PW X (.BoolOp .Or (a :: b :: rest) pos) (tOr tA tB') := by
  intro wh pins s σ H Q I h
  refine isTrue_or (thn (ha pins s σ H _ I h) fun c s1 ⟨H1, I1, q1⟩ => ?_)
  cases c with
  | true => exact ⟨H1, I1, q1⟩
  | false => exact hb wh pins s1 σ H1 Q I1 q1
theorem pt_not (ha : PT X a tA) : PT X (.UnaryOp .Not a pos) (tNot tA) := by
  intro pins s σ H Q I h
  exact isTrue_not (ha pins s σ H (fun c H1 => Q (!c) H1) I h)
def tIf (t : TT) (ta tb : TE) : TE := fun σ H Q => t σ H fun c H1 => if c = true then ta σ H1 Q else tb σ H1 Q
theorem pe_ifExp {c : Expr} (hc : PT X c tA) (ha : PE X a ta) (hb : PE X b tb) : PE X (.IfExp c a b pos) (tIf tA ta tb) := by
  intro pins s σ H Q I h
  refine wpAny_IfExp (thn (hc pins s σ H _ I h) fun d s1 ⟨H1, I1, q1⟩ => ?_)
  cases d with
  | true => exact ha pins s1 σ H1 Q I1 q1
  | false => exact hb pins s1 σ H1 Q I1 q1
end
end L2
namespace L2
open PySem PySem.Spec PyProof.Rows
def SqL (K : PySem.W.Frag) (H : Hp) (a : Addr) (xs : List V) : Prop :=
  Rd H a (.lst xs) ∨
    ∃ (o : Obj) (its : Array Value) (n : Nat), K.lookup a = some o ∧ o.cls = .type "list" ∧ o.dict = none ∧ o.data = .seq its n ∧ its.size ≤ sizeLine ∧ Vals xs its.toList
def SqT (K : PySem.W.Frag) (H : Hp) (a : Addr) (xs : List V) : Prop :=
  Rd H a (.tup xs) ∨
    ∃ (o : Obj) (its : Array Value) (n : Nat), K.lookup a = some o ∧ o.cls = .type "tuple" ∧ o.data = .seq its n ∧ its.size ≤ sizeLine ∧ Vals xs its.toList
def absV : Value → Option V
  | .none => some .non
  | .bool b => some (.bl b)
  | .int i _ => some (.int i)
  | .str x _ => some (.str x)
  | .bytes b _ => some (.byt b)
  | .float b _ => some (.flt b)
  | .ref a => some (.ref a)
  | .type n => some (.ty n)
  | _ => none
theorem RelV.abs {x : V} {u : Value} (r : RelV x u) : absV u = some x := by
  cases x with
  | non => cases r; rfl
  | bl _ => cases r; rfl
  | int _ => obtain ⟨t, rfl⟩ := r; rfl
  | str _ => obtain ⟨t, rfl⟩ := r; rfl
  | byt _ => obtain ⟨t, rfl⟩ := r; rfl
  | flt _ => obtain ⟨t, rfl⟩ := r; rfl
  | ref _ => cases r; rfl
  | ty _ => cases r; rfl
theorem RelV.inj {x y : V} {u : Value} (r : RelV x u) (q : RelV y u) : x = y := Option.some.inj (r.abs.symm.trans q.abs)
theorem Vals.inj : ∀ {xs ys : List V} {us : List Value}, Vals xs us → Vals ys us → xs = ys
  | _, _, _, .nil, .nil => rfl
  | _, _, _, .cons r t, .cons r' t' => by rw [r.inj r', Vals.inj t t']
section
variable {X : Cx} {pins : List (Addr × Obj)} {σ : St} {H : Hp} {s : Shared} {a : Addr} {xs ys : List V}
theorem SqL.of {K : PySem.W.Frag} (h : H a = some (.lst xs)) : SqL K H a xs := .inl (.inl h)
theorem SqT.of {K : PySem.W.Frag} (h : H a = some (.tup xs)) : SqT K H a xs := .inl (.inl h)
theorem Inv.list (I : Inv X pins σ H s) (h : SqL X.K H a xs) : ∃ its : List Value, Vals xs its ∧ PlainL s.heap a its.toArray ∧ xs.length ≤ sizeLine := by
  rcases h with h | ⟨o, its, n, hk, hc, hd, hs, hz, r⟩
  · obtain ⟨z, its, n, r, e⟩ := h.ok I.hok
    exact ⟨its, r, ⟨_, n, e, rfl, rfl, rfl⟩, z⟩
  · refine ⟨its.toList, r, ⟨o, n, I.kIn a o hk, hc, hd, by simpa using hs⟩, ?_⟩
    have e := r.length
    simp only [Array.length_toList] at e
    omega
theorem Inv.tuple (I : Inv X pins σ H s) (h : SqT X.K H a xs) : ∃ its : List Value, Vals xs its ∧ IsTup s.heap a its.toArray ∧ xs.length ≤ sizeLine := by
  rcases h with h | ⟨o, its, n, hk, hc, hs, hz, r⟩
  · obtain ⟨z, its, r, p⟩ := h.ok I.hok
    exact ⟨its, r, p, z⟩
  · refine ⟨its.toList, r, ⟨o, I.kIn a o hk, hc, n, by simpa using hs⟩, ?_⟩
    have e := r.length
    simp only [Array.length_toList] at e
    omega
theorem Inv.list_inj (I : Inv X pins σ H s) (h : SqL X.K H a xs) (h' : SqL X.K H a ys) : xs = ys := by
  obtain ⟨its, r, ⟨o, n, e, _, _, d⟩, _⟩ := I.list h
  obtain ⟨its', r', ⟨o', n', e', _, _, d'⟩, _⟩ := I.list h'
  rw [e] at e'; cases e'
  rw [d] at d'
  injection d' with d1 _
  have : its = its' := by simpa using congrArg Array.toList d1
  subst this
  exact r.inj r'
theorem Inv.tuple_inj (I : Inv X pins σ H s) (h : SqT X.K H a xs) (h' : SqT X.K H a ys) : xs = ys := by
  obtain ⟨its, r, ⟨o, e, _, n, d⟩, _⟩ := I.tuple h
  obtain ⟨its', r', ⟨o', e', _, n', d'⟩, _⟩ := I.tuple h'
  rw [e] at e'; cases e'
  rw [d] at d'
  injection d' with d1 _
  have : its = its' := by simpa using congrArg Array.toList d1
  subst this
  exact r.inj r'
end
abbrev Cx.wish (X : Cx) (E : Value → Shared → Prop) : Cx := { X with xe := E }
abbrev Cx.nox (X : Cx) : Cx := X.wish fun _ _ => False
theorem Cx.Ok.wish {X : Cx} (ok : X.Ok) (E : Value → Shared → Prop) : (X.wish E).Ok :=
  ⟨ok.mod, ok.kind, ok.glob, ok.blt, ok.above, ok.inj, ok.has, ok.cab, ok.hd, ok.frames, ok.stk, ok.exf, ok.bs, ok.bsz, ok.noex, ok.exfs, ok.funs, ok.frf⟩
theorem Cx.Ok.unwish {X : Cx} {E : Value → Shared → Prop} (ok : (X.wish E).Ok) : X.Ok :=
  ⟨ok.mod, ok.kind, ok.glob, ok.blt, ok.above, ok.inj, ok.has, ok.cab, ok.hd, ok.frames, ok.stk, ok.exf, ok.bs, ok.bsz, ok.noex, ok.exfs, ok.funs, ok.frf⟩
section
variable {X : Cx} {pins : List (Addr × Obj)} {σ : St} {H : Hp} {s : Shared} {E : Value → Shared → Prop}
theorem Inv.wish (I : Inv X pins σ H s) (E : Value → Shared → Prop) : Inv (X.wish E) pins σ H s := ⟨I.ok.wish E, I.os, I.bare, I.base, I.loc, I.cell, I.free, I.freeC, I.pin, I.hok, I.len, I.tk⟩
theorem Inv.unwish (I : Inv (X.wish E) pins σ H s) : Inv X pins σ H s := ⟨I.ok.unwish, I.os, I.bare, I.base, I.loc, I.cell, I.free, I.freeC, I.pin, I.hok, I.len, I.tk⟩
theorem SP.unwish {D : Ends} {f : Flow} {s' : Shared} (h : SP (X.wish E) pins D f s') : SP X pins D f s' := by
  cases f with
  | next => obtain ⟨σ', H', I, q⟩ := h; exact ⟨σ', H', I.unwish, q⟩
  | brk => obtain ⟨σ', H', I, q⟩ := h; exact ⟨σ', H', I.unwish, q⟩
  | cont => obtain ⟨σ', H', I, q⟩ := h; exact ⟨σ', H', I.unwish, q⟩
  | ret u => obtain ⟨v, σ', H', I, r, q⟩ := h; exact ⟨v, σ', H', I.unwish, r, q⟩
theorem PSs.nox {st : List Stmt} {t : TS} (h : PSs X.nox st t) : PSs X st t := fun pins s σ H D I hw =>
  wpAny_mono (h pins s σ H D (I.wish _) hw) (fun _ _ q => q.unwish) fun _ _ z => False.elim z
end
section
variable {X : Cx} {st : Stmt} {rest : List Stmt} {t u : TS} {e : Expr} {te : TE} {pos : Pos}
def tNext : TS := fun D σ H => D.nx σ H
def tSeq (t u : TS) : TS := fun D σ H => t { D with nx := u D } σ H
theorem pss_nil : PSs X [] tNext := fun _ _ σ H _ I h => wpAny_execs_nil ⟨σ, H, I, h⟩
theorem pss_cons (h1 : PS X st t) (h2 : PSs X rest u) : PSs X (st :: rest) (tSeq t u) := by
  intro pins s σ H D I h
  refine wpAny_execs_cons (thn (h1 pins s σ H { D with nx := u D } I h) fun f s1 q => ?_)
  cases f with
  | next =>
    obtain ⟨σ', H', I', q⟩ := q
    exact h2 pins s1 σ' H' D I' q
  | ret v => exact q
  | brk => exact q
  | cont => exact q
theorem pss_one (h1 : PS X st t) : PSs X [st] t := by
  intro pins s σ H D I h
  refine wpAny_execs_cons (thn (h1 pins s σ H D I h) fun f s1 q => ?_)
  cases f with
  | next => exact wpAny_execs_nil q
  | ret v => exact q
  | brk => exact q
  | cont => exact q
theorem Inv.quiet {pins : List (Addr × Obj)} {σ : St} {H : Hp} {s : Shared} (I : Inv X pins σ H s) : interactive X.env = false := by simp [interactive, I.ok.kind]
def tDrop (te : TE) : TS := fun D σ H => te σ H fun _ H1 => D.nx σ H1
theorem ps_expr (he : PE X e te) (hs : swapsWith e none pos.line X.env = pure false := by rfl) : PS X (.Expr e pos) (tDrop te) := by
  intro pins s σ H D I h
  exact wpAny_Expr_any (thn (he pins s σ H _ I h) fun v s1 ⟨x, H1, I1, r1, q1⟩ => ⟨σ, H1, I1, q1⟩) I.quiet hs
def tRet (te : TE) : TS := fun D σ H => te σ H D.rt
theorem ps_ret (he : PE X e te) : PS X (.Return (some e) pos) (tRet te) := by
  intro pins s σ H D I h
  exact wpAny_Return_some (thn (he pins s σ H _ I h) fun v s1 ⟨x, H1, I1, r1, q1⟩ => ⟨x, σ, H1, I1, r1, q1⟩)
def tIfS (c : TT) (t u : TS) : TS := fun D σ H => c σ H fun b H1 => if b = true then t D σ H1 else u D σ H1
theorem ps_if {c : Expr} {a b : List Stmt} {tc : TT} (hc : PT X c tc) (ha : PSs X a t) (hb : PSs X b u) : PS X (.If c a b pos) (tIfS tc t u) := by
  intro pins s σ H D I h
  refine wpAny_If (thn (hc pins s σ H _ I h) fun d s1 ⟨H1, I1, q1⟩ => ?_)
  cases d with
  | true => exact ha pins s1 σ H1 D I1 q1
  | false => exact hb pins s1 σ H1 D I1 q1
end
abbrev TG := V → St → Hp → (St → Hp → Prop) → Prop
abbrev TGs := List V → St → Hp → (St → Hp → Prop) → Prop
def PG (X : Cx) (target : Expr) (t : TG) : Prop :=
  ∀ (pins : List (Addr × Obj)) (s : Shared) (σ : St) (H : Hp) (v : V) (u : Value) (Q : St → Hp → Prop), Inv X pins σ H s → RelV v u → t v σ H Q →
    wpAny (model X.prog X.w) X.A (assign target X.env u) (fun _ s' => ∃ σ' H', Inv X pins σ' H' s' ∧ Q σ' H') X.xe s
def PGs (X : Cx) (ts : List Expr) (t : TGs) : Prop :=
  ∀ (pins : List (Addr × Obj)) (s : Shared) (σ : St) (H : Hp) (vs : List V) (us : List Value) (Q : St → Hp → Prop), Inv X pins σ H s → Vals vs us → t vs σ H Q →
    wpAny (model X.prog X.w) X.A (assignInOrder ((assignEach ts X.env).map (·.2)) us) (fun _ s' => ∃ σ' H', Inv X pins σ' H' s' ∧ Q σ' H') X.xe s
abbrev TSet := V → V → V → Hp → (Hp → Prop) → Prop
def PSet (X : Cx) (t : TSet) : Prop :=
  ∀ (pins : List (Addr × Obj)) (s : Shared) (σ : St) (H : Hp) (o i v : V) (ov iv u : Value) (Q : Hp → Prop), Inv X pins σ H s → RelV o ov → RelV i iv → RelV v u → t o i v H Q →
    wpAny (model X.prog X.w) X.A (setItem ov iv u) (fun _ s' => ∃ H', Inv X pins σ H' s' ∧ Q H') X.xe s
section
variable {X : Cx} {pos : Pos}
def gName (i : Nat) : TG := fun v σ H Q => Q (σ.set i (some v)) H
theorem pg_name {i : Nat} {x : Str} (hN : X.N.Nodup) (hi : X.N[i]? = some x) (hx : Loc X.env.scope x) (hf : X.fn x = true ∨ X.env.scope.names.lookup x = some .local := by first | exact .inl rfl | exact .inr rfl | assumption) : PG X (.Name x pos) (gName i) := by
  intro pins s σ H v u Q I r h
  exact wpAny_assign_Name (store_ok I hN hi hx r (fun s' I' => ⟨_, H, I', h⟩) hf)
def gNil : TGs := fun vs σ H Q => vs = [] ∧ Q σ H
def gCons (t : TG) (u : TGs) : TGs := fun vs σ H Q => ∃ v r, vs = v :: r ∧ t v σ H fun σ' H' => u r σ' H' Q
theorem pgs_nil : PGs X [] gNil := by
  intro pins s σ H vs us Q I r h
  obtain ⟨e, h⟩ := h
  subst e
  cases r
  exact assignInOrder_nil ⟨σ, H, I, h⟩
theorem pgs_cons {e : Expr} {es : List Expr} {t : TG} {u : TGs} (h1 : PG X e t) (h2 : PGs X es u)
    (hs : (assignEach (e :: es) X.env).map (·.2) = assign e X.env :: (assignEach es X.env).map (·.2) := by rfl) : PGs X (e :: es) (gCons t u) := by
  intro pins s σ H vs us Q I r h
  obtain ⟨v, vr, e1, h⟩ := h
  subst e1
  cases r with
  | cons r rr =>
    rw [hs]
    refine assignInOrder_cons (thn (h1 pins s σ H _ _ _ I r h) fun _ s1 ⟨σ1, H1, I1, q1⟩ => ?_)
    exact h2 pins s1 σ1 H1 _ _ Q I1 rr q1
def gTup (K : PySem.W.Frag) (n : Nat) (t : TGs) : TG := fun v σ H Q => ∃ a xs, v = .ref a ∧ SqT K H a xs ∧ xs.length = n ∧ t xs σ H Q
theorem pg_tup {es : List Expr} {k : Nat} {t : TGs} {n : Nat} (hc : X.calm = true) (h : PGs X es t)
    (hn : (assignEach es X.env).length = n := by rfl) (hst : (assignEach es X.env).findIdx? (·.1) = none := by rfl) : PG X (.Tuple es k pos) (gTup X.K n t) := by
  intro pins s σ H v u Q I r hw
  obtain ⟨a, xs, e1, hq, hl, hw⟩ := hw
  subst e1
  cases r
  obtain ⟨its, rv, ht, hz⟩ := I.tuple hq
  refine assign_Tuple_tuple (I.ok.hd hc) ht (by simp [hn, ← hl, rv.length]) hst fun h' hx => ?_
  have I1 : Inv X pins σ H { s with heap := h' } := I.kept (t' := s.toks) fun b o e => hx b o (Nat.ne_of_lt (Heap.lt_size e)) e
  exact h pins _ σ H xs _ Q I1 (by simpa using rv) hw
def gSub (to ti : TE) (t : TSet) : TG := fun v σ H Q => to σ H fun o H1 => ti σ H1 fun i H2 => t o i v H2 fun H3 => Q σ H3
theorem pg_sub {o i : Expr} {to ti : TE} {t : TSet} (ho : PE X o to) (hi : PE X i ti) (hs : PSet X t)
    (ha : ∀ v, assign (.Subscript o i pos) X.env v = (do
      let ov ← holding [v] (eval o X.env)
      let iv ← holding [v, ov] (eval i X.env)
      standAt pos
      holding [v, ov, iv] (setItem ov iv v)
      release [v, ov, iv] []) := by intro _; rfl) : PG X (.Subscript o i pos) (gSub to ti t) := by
  intro pins s σ H v u Q I r h
  rw [ha]
  refine wpAny_bind (wpAny_holding (thn (ho pins s σ H _ I h) fun ov s1 ⟨x, H1, I1, r1, q1⟩ => ?_))
  refine wpAny_bind (wpAny_holding (thn (hi pins s1 σ H1 _ I1 q1) fun iv s2 ⟨y, H2, I2, r2, q2⟩ => ?_))
  refine wpAny_bind (wpAny_standAt (wpAny_bind (wpAny_holding (thn (hs pins s2 σ H2 x y v ov iv u _ I2 r1 r2 r q2) fun _ s3 ⟨H3, I3, q3⟩ => ?_))))
  exact wpAny_release ⟨σ, H3, I3, q3⟩
def tAsg (te : TE) (g : TG) : TS := fun D σ H => te σ H fun x H1 => g x σ H1 D.nx
theorem ps_asg {tg e : Expr} {te : TE} {g : TG} (he : PE X e te) (hg : PG X tg g) (hs : swapsWithSole [tg] e pos.line X.env = pure false := by rfl) (hw : swappedStores [tg] e X.env = pure none := by rfl)
    (h1 : (assignEach [tg] X.env).map (·.2) = [assign tg X.env] := by rfl) : PS X (.Assign [tg] e pos) (tAsg te g) := by
  intro pins s σ H D I h
  refine wpAny_Assign_stores (thn (he pins s σ H _ I h) fun v s1 ⟨x, H1, I1, r1, q1⟩ => ?_) hs hw
  rw [h1]
  exact thn (hg pins s1 σ H1 x v _ I1 r1 q1) fun _ s2 q => q
theorem ps_set {i : Nat} {x : Str} {e : Expr} {te : TE} {pos' : Pos} (hN : X.N.Nodup) (hi : X.N[i]? = some x) (hx : Loc X.env.scope x) (he : PE X e te) (hs : swapsWith e (some (.Name x pos')) pos.line X.env = pure false := by rfl) (hf : X.fn x = true ∨ X.env.scope.names.lookup x = some .local := by first | exact .inl rfl | exact .inr rfl | assumption) :
    PS X (.Assign [.Name x pos'] e pos) (tAsg te (gName i)) := by
  intro pins s σ H D I h
  refine wpAny_Assign_Name (thn (he pins s σ H _ I h) fun v s1 ⟨y, H1, I1, r1, q1⟩ => ?_) hs
  exact store_ok I1 hN hi hx r1 (fun s2 I2 => ⟨_, H1, I2, q1⟩) hf
end
section
variable {X : Cx} {pos : Pos}
def tWhile (c : TT) (tb : TS) : TS := fun D σ H => ∃ W : Nat → St → Hp → Prop, (∃ m, W m σ H) ∧ ∀ m σ H, W m σ H →
  c σ H fun b H1 => if b = true then ∃ N : St → Hp → Prop, (∀ σ' H', N σ' H' → ∃ m', m' < m ∧ W m' σ' H') ∧ tb { D with nx := N, ct := N, bk := D.nx } σ H1 else D.nx σ H1
theorem ps_while {c : Expr} {body : List Stmt} {tc : TT} {tb : TS} (hp : PassesOwn (model X.prog X.w) X.A X.env X.xe) (hc : PT X c tc) (hb : PSs X body tb) : PS X (.While c body [] pos) (tWhile tc tb) := by
  intro pins s σ H D I h
  obtain ⟨W, ⟨m0, w0⟩, turn⟩ := h
  refine wpAny_While (codeAny_whileLoop (fun n s' => ∃ σ' H', Inv X pins σ' H' s' ∧ W n σ' H') ?_ m0 ⟨σ, H, I, w0⟩)
  rintro n s1 ⟨σ1, H1, I1, w1⟩
  refine wpAny_passesOwn hp (thn (hc pins s1 σ1 H1 _ I1 (turn n σ1 H1 w1)) fun b s2 ⟨H2, I2, q2⟩ => ?_)
  cases b with
  | true =>
    obtain ⟨N, hN, q2⟩ := q2
    rw [if_pos rfl]
    refine wpAny_passesOwn hp (thn (hb pins s2 σ1 H2 _ I2 q2) fun f s3 q3 => ?_)
    cases f with
    | next =>
      obtain ⟨σ3, H3, I3, n3⟩ := q3
      obtain ⟨m', hm, w3⟩ := hN σ3 H3 n3
      exact ⟨m', hm, σ3, H3, I3, w3⟩
    | cont =>
      obtain ⟨σ3, H3, I3, n3⟩ := q3
      obtain ⟨m', hm, w3⟩ := hN σ3 H3 n3
      exact ⟨m', hm, σ3, H3, I3, w3⟩
    | brk => exact q3
    | ret v => exact q3
  | false =>
    rw [if_neg Bool.false_ne_true]
    exact wpAny_execs_nil ⟨σ1, H2, I2, q2⟩
end
structure It where
  go : Nat → Hp → Prop
  yld : Nat → Hp → V → Hp → Prop
  stop : Nat → Hp → Prop
def FpOk (X : Cx) (pins : List (Addr × Obj)) (H : Hp) (b : Addr) : Prop :=
  H b = none ∧ b ≠ X.env.locals ∧ b ∉ X.fs ∧ (b ∈ X.ex ∨ X.s₀.heap.objs.size ≤ b) ∧ (∀ x c, X.env.cells.lookup x = some c → c ≠ b) ∧ ∀ p ∈ X.pn ++ pins, p.1 ≠ b
theorem Inv.fpOk {X : Cx} {pins : List (Addr × Obj)} {σ : St} {H H' : Hp} {s : Shared} {b : Addr} (I : Inv X pins σ H s) (hb : s.heap.objs.size ≤ b) (hn : H' b = none) : FpOk X pins H' b := by
  refine ⟨hn, Nat.ne_of_gt (Nat.lt_of_lt_of_le I.lt hb), I.nofs hb, .inr (Nat.le_trans I.sz hb), fun x c e z => ?_, fun p hp z => ?_⟩
  · obtain ⟨v, q⟩ := I.cell x c e
    exact absurd (Nat.lt_of_lt_of_le q.lt (by rw [z]; exact hb)) (Nat.lt_irrefl _)
  · exact absurd (Nat.lt_of_lt_of_le (Heap.lt_size (I.pin p hp).1) (by rw [z]; exact hb)) (Nat.lt_irrefl _)
structure Turn (P : Program) (w : World) (K : PySem.W.Frag) (tg : Expr) (J : It) (fp : List Addr) (it : Addr) (tn : Nat → Heap → Prop) : Prop where
  mem : it ∈ fp
  obj : ∀ i h, tn i h → ∀ b ∈ fp, ∃ o, h.get? b = some o ∧ ∀ v, o.data ≠ .cell v
  keep : ∀ i h h', tn i h → (∀ b ∈ fp, ∀ o, h.get? b = some o → h'.get? b = some o) → tn i h'
  item : ∀ (X : Cx), X.prog = P → X.w = w → X.K = K → X.calm = true → ∀ (i : Nat) (pins : List (Addr × Obj)) (s : Shared) (σ : St) (H : Hp) (E : Value → Shared → Prop), Inv X pins σ H s → (∀ b ∈ fp, FpOk X pins H b) → tn i s.heap → J.go i H →
    wpAny (model P w) X.A (pyNext (.ref it)) (fun r s1 => ∃ u, r = some u ∧
      wpAny (model P w) X.A (letOwnedTupleGo tg (.ref it) u) (fun _ s2 => ∃ x H', Inv X pins σ H' s2 ∧ RelV x u ∧ J.yld i H x H' ∧ tn (i + 1) s2.heap ∧ ∀ b ∈ fp, H' b = none) E s1) E s
  done : ∀ (X : Cx), X.prog = P → X.w = w → X.K = K → X.calm = true → ∀ (i : Nat) (pins : List (Addr × Obj)) (s : Shared) (σ : St) (H : Hp) (E : Value → Shared → Prop), Inv X pins σ H s → (∀ b ∈ fp, FpOk X pins H b) → tn i s.heap → J.stop i H →
    wpAny (model P w) X.A (pyNext (.ref it)) (fun r s1 => r = none ∧ Inv X pins σ H s1) E s
  self : ∀ (A : Around) (i : Nat) (s : Shared) (Q : Value → Shared → Prop) (E : Value → Shared → Prop), tn i s.heap → Q (.ref it) s → wpAny (model P w) A (pyIter (.ref it)) Q E s
abbrev TI := St → Hp → (It → Hp → Prop) → Prop
def PIE (X : Cx) (pins : List (Addr × Obj)) (σ : St) (tg : Expr) (R : It → Hp → Prop) (itv : Value) (s2 : Shared) : Prop :=
  ∃ (it : Addr) (fp : List Addr) (tn : Nat → Heap → Prop) (J : It) (H' : Hp), itv = .ref it ∧ Inv X pins σ H' s2 ∧ Turn X.prog X.w X.K tg J fp it tn ∧ tn 0 s2.heap ∧ (∀ b ∈ fp, FpOk X pins H' b) ∧ R J H'
def PI (X : Cx) (tg iter : Expr) (wi : TI) : Prop :=
  ∀ (pins : List (Addr × Obj)) (s : Shared) (σ : St) (H : Hp) (R : It → Hp → Prop), Inv X pins σ H s → wi σ H R →
    wpAny (model X.prog X.w) X.A (eval iter X.env) (fun v s1 => wpAny (model X.prog X.w) X.A (pyIter v) (PIE X pins σ tg R) X.xe s1) X.xe s
theorem go_of {M : Model} {A : Around} {E : Value → Shared → Prop} {s : Shared} {tg : Expr} {it : Addr} {u : Value} {o : Obj} {n : String} {vs : Array Value} {Q : Unit → Shared → Prop} (ho : s.heap.get? it = some o) (hc : o.cls = .type n) (hd : o.data = .fields vs)
    (hn : ["enumerate", "zip", "dict_itemiterator", "dict_reverseitemiterator", "odict_iterator", "itertools.zip_longest", "itertools.pairwise"].contains n = false) (hQ : Q () s) : wpAny M A (letOwnedTupleGo tg (.ref it) u) Q E s := by
  unfold letOwnedTupleGo
  cases tg <;> first
    | exact wpAny_pure hQ
    | (cases u <;> first
        | exact wpAny_pure hQ
        | (refine wpAny_bind (wpAny_load ho ?_)
           rw [hc, hd]
           show wpAny M A (if (["enumerate", "zip", "dict_itemiterator", "dict_reverseitemiterator", "odict_iterator", "itertools.zip_longest", "itertools.pairwise"].contains n && vs[0]? == some (rawInt _)) = true then _ else _) Q E s
           rw [if_neg (by intro h; rw [hn, Bool.false_and] at h; cases h)]
           exact wpAny_pure hQ))
def Itl (K : PySem.W.Frag) (a : Addr) : It :=
  ⟨fun i H => ∃ xs x, SqL K H a xs ∧ xs[i]? = some x, fun i H x H' => H' = H ∧ ∀ xs, SqL K H a xs → xs[i]? = some x, fun i H => ∃ xs, SqL K H a xs ∧ xs.length ≤ i⟩
def Itt (K : PySem.W.Frag) (a : Addr) : It :=
  ⟨fun i H => ∃ xs x, SqT K H a xs ∧ xs[i]? = some x, fun i H x H' => H' = H ∧ ∀ xs, SqT K H a xs → xs[i]? = some x, fun i H => ∃ xs, SqT K H a xs ∧ xs.length ≤ i⟩
def Itr (lo : Int) (n : Nat) : It := ⟨fun i _ => i < n, fun i H x H' => H' = H ∧ x = .int (lo + i), fun i _ => n ≤ i⟩
theorem turn_list {P : Program} {w : World} {K : PySem.W.Frag} {tg : Expr} (a it : Addr) : Turn P w K tg (Itl K a) [it] it (fun i h => h.IsListIter it a i) where
  mem := by simp
  obj := fun i h st b hb => by
    have e : b = it := by simpa using hb
    subst e
    obtain ⟨o, e, c, d⟩ := st
    exact ⟨o, e, fun v z => by rw [d] at z; cases z⟩
  keep := fun i h h' st k => st.at fun o e => k it (by simp) o e
  item := by
    intro X hP hw hK hc i pins s σ H E I hf st hg
    subst hP hw hK
    obtain ⟨xs, x, hq, hx⟩ := hg
    obtain ⟨its, rv, p, hz⟩ := I.list hq
    obtain ⟨u, hu, ru⟩ := rv.get hx
    obtain ⟨f0, f1, f2, f3, f4, f5⟩ := hf it (by simp)
    refine wpAny_pyNext_list_item st p.isList (x := u) (by simpa using hu) fun h' st' sb => ?_
    have I1 : Inv X pins σ H { s with heap := h' } := I.turned (t' := s.toks) (fun b o hb e => (sb.2 b hb).trans e) f0 f1 f3 f4 f5
    obtain ⟨o, e, c, d⟩ := id st'
    exact ⟨u, rfl, go_of (s := { s with heap := h' }) e c d (by decide) ⟨x, H, I1, ru, ⟨rfl, fun ys hy => by rw [I.list_inj hy hq]; exact hx⟩, st', fun b hb => (hf b hb).1⟩⟩
  done := by
    intro X hP hw hK hc i pins s σ H E I hf st hg
    subst hP hw hK
    obtain ⟨xs, hq, hx⟩ := hg
    obtain ⟨its, rv, p, hz⟩ := I.list hq
    obtain ⟨f0, f1, f2, f3, f4, f5⟩ := hf it (by simp)
    have hl := rv.length
    exact wpAny_pyNext_list_end (I.ok.hd hc) st p.isList (by simp; omega) fun h' eb => ⟨rfl, I.turned (t' := s.toks) (fun b o hb e => eb b o hb e) f0 f1 f3 f4 f5⟩
  self := fun _ _ _ _ _ st h => wpAny_pyIter_listiter st h
theorem turn_tuple {P : Program} {w : World} {K : PySem.W.Frag} {tg : Expr} (a it : Addr) : Turn P w K tg (Itt K a) [it] it (fun i h => h.IsTupleIter it a i) where
  mem := by simp
  obj := fun i h st b hb => by
    have e : b = it := by simpa using hb
    subst e
    obtain ⟨o, e, c, d⟩ := st
    exact ⟨o, e, fun v z => by rw [d] at z; cases z⟩
  keep := fun i h h' st k => st.at fun o e => k it (by simp) o e
  item := by
    intro X hP hw hK hc i pins s σ H E I hf st hg
    subst hP hw hK
    obtain ⟨xs, x, hq, hx⟩ := hg
    obtain ⟨its, rv, p, hz⟩ := I.tuple hq
    obtain ⟨u, hu, ru⟩ := rv.get hx
    obtain ⟨f0, f1, f2, f3, f4, f5⟩ := hf it (by simp)
    refine wpAny_pyNext_tuple_item st (show s.heap.IsTuple a its.toArray from p) (x := u) (by simpa using hu) fun h' st' sb => ?_
    have I1 : Inv X pins σ H { s with heap := h' } := I.turned (t' := s.toks) (fun b o hb e => (sb.2 b hb).trans e) f0 f1 f3 f4 f5
    obtain ⟨o, e, c, d⟩ := id st'
    exact ⟨u, rfl, go_of (s := { s with heap := h' }) e c d (by decide) ⟨x, H, I1, ru, ⟨rfl, fun ys hy => by rw [I.tuple_inj hy hq]; exact hx⟩, st', fun b hb => (hf b hb).1⟩⟩
  done := by
    intro X hP hw hK hc i pins s σ H E I hf st hg
    subst hP hw hK
    obtain ⟨xs, hq, hx⟩ := hg
    obtain ⟨its, rv, p, hz⟩ := I.tuple hq
    obtain ⟨f0, f1, f2, f3, f4, f5⟩ := hf it (by simp)
    have hl := rv.length
    exact wpAny_pyNext_tuple_end (I.ok.hd hc) st (show s.heap.IsTuple a its.toArray from p) (by simp; omega) fun h' eb => ⟨rfl, I.turned (t' := s.toks) (fun b o hb e => eb b o hb e) f0 f1 f3 f4 f5⟩
  self := fun _ _ _ _ _ st h => wpAny_pyIter_tupleiter st h
theorem turn_range {P : Program} {w : World} {K : PySem.W.Frag} {tg : Expr} (it : Addr) (lo : Int) (n : Nat) : Turn P w K tg (Itr lo n) [it] it (fun i h => IsRangeIter h it (lo + (i : Nat) * 1) ((n : Int) - (i : Nat)) 1) where
  mem := by simp
  obj := fun i h st b hb => by
    have e : b = it := by simpa using hb
    subst e
    exact ⟨_, st, fun v z => by
      have z' : Data.fields _ = Data.cell v := z
      cases z'⟩
  keep := fun i h h' st k => k it (by simp) _ st
  item := by
    intro X hP hw hK hc i pins s σ H E I hf st hg
    subst hP hw hK
    obtain ⟨f0, f1, f2, f3, f4, f5⟩ := hf it (by simp)
    have W := Walks.range (prog := X.prog) (w := X.w) (I.ok.hd hc) it lo 1 n
    refine wpAny_with_toks (n := 1) I.tk (W.item i s _ _ hg st fun v h' tk hv st' kk ht => ?_)
    have ht : 0 < tk := ht
    obtain ⟨t, rfl⟩ := hv
    have I1 : Inv X pins σ H { s with heap := h', toks := tk } := I.turned (fun b o hb e => kk b o (by simpa using hb) e) f0 f1 f3 f4 f5
    refine ⟨_, rfl, go_of (s := { s with heap := h', toks := tk }) (n := "range_iterator") st' rfl rfl (by decide) ⟨.int (lo + i), H, I1, ⟨t, ?_⟩, ⟨rfl, rfl⟩, st', fun b hb => (hf b hb).1⟩⟩
    rw [Int.mul_one]
  done := by
    intro X hP hw hK hc i pins s σ H E I hf st hg
    subst hP hw hK
    obtain ⟨f0, f1, f2, f3, f4, f5⟩ := hf it (by simp)
    exact wpAny_pyNext_range_end (I.ok.hd hc) st (by have : n ≤ i := hg; omega) fun h' eb => ⟨rfl, I.turned (t' := s.toks) (fun b o hb e => eb b o hb e) f0 f1 f3 f4 f5⟩
  self := fun _ _ _ _ _ st h => wpAny_pyIter_rangeiter st h
end L2
namespace L2
open PySem PySem.Spec PyProof.Rows
section
variable {X : Cx} {tg : Expr}
theorem range_it {pins : List (Addr × Obj)} {σ : St} {H : Hp} {s : Shared} {R : It → Hp → Prop} {E : Value → Shared → Prop} {lo hi : Int} {t u v : Tok} {tk : Nat} (I : Inv X pins σ H s) (h1 : -(2 ^ 62) ≤ lo) (h2 : lo < 2 ^ 62) (h3 : -(2 ^ 62) ≤ hi) (h4 : hi < 2 ^ 62)
    (q : R (Itr lo (hi - lo).toNat) H) (ht : 0 < tk := by first | exact Nat.succ_pos _ | assumption | exact Inv.tk ‹_› | omega) : wpAny (model X.prog X.w) X.A (pyIter (.ref s.heap.objs.size)) (PIE X pins σ tg R) E { s with heap := s.heap.push { cls := .type "range", data := .fields #[.int lo t, .int hi u, .int 1 v] }, toks := tk } := by
  refine wpAny_pyIter_range (IsRange.new ..) (small_one h1 h2 h3 h4) ?_
  have I1 : Inv X pins σ H { s with heap := s.heap.push { cls := .type "range", data := .fields #[.int lo t, .int hi u, .int 1 v] }, toks := tk } := I.kept fun b o e => Heap.get?_push_of_some _ e
  refine ⟨(s.heap.push { cls := .type "range", data := .fields #[.int lo t, .int hi u, .int 1 v] }).objs.size, [(s.heap.push { cls := .type "range", data := .fields #[.int lo t, .int hi u, .int 1 v] }).objs.size], _, _, H, rfl,
    I1.kept (t' := tk) fun b o e => Heap.get?_push_of_some _ e, turn_range _ lo (hi - lo).toNat, ?_, fun b hb => ?_, q⟩
  · have e1 : lo + ((0 : Nat) : Int) * 1 = lo := by simp
    have e2 : (((hi - lo).toNat : Nat) : Int) - ((0 : Nat) : Int) = Builtin.Range.rangeSize lo hi 1 := by rw [rangeSize_one]; split <;> omega
    show IsRangeIter _ _ (lo + ((0 : Nat) : Int) * 1) ((((hi - lo).toNat : Nat) : Int) - ((0 : Nat) : Int)) 1
    rw [e1, e2]
    exact Heap.get?_push_size _ rfl
  · have e : b = (s.heap.push { cls := .type "range", data := .fields #[.int lo t, .int hi u, .int 1 v] }).objs.size := by simpa using hb
    subst e
    exact I1.fpOk (Nat.le_refl _) (I1.hok.fresh (Nat.le_refl _))
def iRng1 (ta : TA) : TI := fun σ H R => ta σ H fun vs H1 => ∃ j : Int, vs = [.int j] ∧ -(2 ^ 62) ≤ j ∧ j < 2 ^ 62 ∧ R (Itr 0 j.toNat) H1
def iRng2 (ta : TA) : TI := fun σ H R => ta σ H fun vs H1 => ∃ i j : Int, vs = [.int i, .int j] ∧ (-(2 ^ 62) ≤ i ∧ i < 2 ^ 62 ∧ -(2 ^ 62) ≤ j ∧ j < 2 ^ 62) ∧ R (Itr i (j - i).toNat) H1
theorem pi_range1 {a : Expr} {ta : TA} {p pos : Pos} (hg : Gl X "range") (hm : X.mg "range" = none) (ha : PA X [a] ta) (hs : starEach [a] X.env = [(false, eval a X.env)] := by rfl) : PI X tg (.Call (.Name "range" p) [a] [] pos) (iRng1 ta) := by
  intro pins s σ H R I h
  refine Call_ (ld_blt I hg hm boot_range (PyProof.Rows.callWith_type1 (thn (ha pos pins s σ H _ I h) fun us s1 ⟨vs, H1, I1, r1, q1⟩ => ?_) hs rfl))
  obtain ⟨j, e, q1, q2, q⟩ := q1
  subst e
  cases r1 with
  | cons r rr =>
    cases rr
    obtain ⟨t, rfl⟩ := r
    exact call_range_1 (range_it I1 (by omega) (by omega) q1 q2 (by simpa using q))
theorem pi_range2 {a b : Expr} {ta : TA} {p pos : Pos} (hg : Gl X "range") (hm : X.mg "range" = none) (ha : PA X [a, b] ta) (hs : starEach [a, b] X.env = [(false, eval a X.env), (false, eval b X.env)] := by rfl) (hs2 : starEach [b] X.env = [(false, eval b X.env)] := by rfl) :
    PI X tg (.Call (.Name "range" p) [a, b] [] pos) (iRng2 ta) := by
  intro pins s σ H R I h
  refine Call_ (ld_blt I hg hm boot_range (PyProof.Rows.callWith_type1 (thn (ha pos pins s σ H _ I h) fun us s1 ⟨vs, H1, I1, r1, q1⟩ => ?_) (by rw [hs, hs2]) (by rw [hs2]; rfl)))
  obtain ⟨i, j, e, ⟨q1, q2, q3, q4⟩, q⟩ := q1
  subst e
  cases r1 with
  | cons r rr =>
    cases rr with
    | cons r' rr =>
      cases rr
      obtain ⟨t, rfl⟩ := r
      obtain ⟨t', rfl⟩ := r'
      exact call_range_2 (range_it I1 q1 q2 q3 q4 q)
def tFor (wi : TI) (g : TG) (tb : TS) : TS := fun D σ H => wi σ H fun J H1 => ∃ W : Nat → Nat → St → Hp → Prop, (∃ m, W 0 m σ H1) ∧ ∀ i m σ H, W i m σ H →
  (J.stop i H ∧ D.nx σ H) ∨ (J.go i H ∧ ∃ N : St → Hp → Prop, (∀ σ' H', N σ' H' → ∃ m', m' < m ∧ W (i + 1) m' σ' H') ∧ ∀ x H', J.yld i H x H' → g x σ H' fun σ2 H2 => tb { D with nx := N, ct := N, bk := D.nx } σ2 H2)
def pinsAt (fp : List Addr) (h : Heap) : List (Addr × Obj) := fp.filterMap fun b => (h.get? b).map fun o => (b, o)
theorem mem_pinsAt {fp : List Addr} {h : Heap} {b : Addr} {o : Obj} (hb : b ∈ fp) (e : h.get? b = some o) : (b, o) ∈ pinsAt fp h := List.mem_filterMap.mpr ⟨b, hb, by rw [e]; rfl⟩
theorem of_pinsAt {fp : List Addr} {h : Heap} {p : Addr × Obj} (hp : p ∈ pinsAt fp h) : p.1 ∈ fp ∧ h.get? p.1 = some p.2 := by
  obtain ⟨b, hb, e⟩ := List.mem_filterMap.mp hp
  cases q : h.get? b with
  | none => rw [q] at e; cases e
  | some o =>
    rw [q] at e
    have e' : (b, o) = p := Option.some.inj e
    subst e'
    exact ⟨hb, q⟩
theorem Inv.pinned {pins : List (Addr × Obj)} {σ : St} {H : Hp} {s : Shared} {fp : List Addr} (I : Inv X pins σ H s) (hf : ∀ b ∈ fp, FpOk X pins H b) (ho : ∀ b ∈ fp, ∃ o, s.heap.get? b = some o ∧ ∀ v, o.data ≠ .cell v) : Inv X (pins ++ pinsAt fp s.heap) σ H s :=
  I.pins_of fun p hp => (List.mem_append.mp hp).elim (fun z => I.pin p (List.mem_append_right _ z)) fun z => by
    obtain ⟨hb, e⟩ := of_pinsAt z
    obtain ⟨f0, f1, f2, _⟩ := hf p.1 hb
    obtain ⟨o, e', d⟩ := ho p.1 hb
    rw [e] at e'; cases e'
    exact ⟨e, f0, f1, f2, d⟩
theorem Inv.unpinned {pins pl : List (Addr × Obj)} {σ : St} {H : Hp} {s : Shared} (I : Inv X (pins ++ pl) σ H s) : Inv X pins σ H s := I.pins_of fun p hp => I.pin p (List.mem_append_right _ (List.mem_append_left _ hp))
theorem ps_for {iter : Expr} {body : List Stmt} {wi : TI} {g : TG} {tb : TS} {pos : Pos} (hp : PassesOwn (model X.prog X.w) X.A X.env X.xe) (hc : X.calm = true) (hi : PI X tg iter wi) (hg : PG X tg g) (hb : PSs X body tb)
    (hs : ∀ x, foldedSetIterable iter X.env x = pure x := by intro _; rfl) : PS X (.For tg iter body [] pos) (tFor wi g tb) := by
  intro pins s σ H D I h
  refine wpAny_For (thn (hi pins s σ H _ I h) fun v s1 h1 => thn h1 fun itv s2 h2 => ?_) hs
  obtain ⟨it, fp, tn, J, H2, e, I2, T, st2, f2, W, ⟨m0, w0⟩, turn⟩ := h2
  subst e
  have stat : ∀ {H' : Hp}, (∀ b ∈ fp, H' b = none) → ∀ b ∈ fp, FpOk X pins H' b := fun hn b hb => ⟨hn b hb, (f2 b hb).2⟩
  refine codeAny_forLoop_any (fun n s' => ∃ i σ' H', Inv X pins σ' H' s' ∧ tn i s'.heap ∧ (∀ b ∈ fp, H' b = none) ∧ W i n σ' H') ?_ m0 ⟨0, σ, H2, I2, st2, fun b hb => (f2 b hb).1, w0⟩
  rintro n s3 ⟨i, σ3, H3, I3, st3, fr3, w3⟩
  rcases turn i n σ3 H3 w3 with ⟨stop, qn⟩ | ⟨go, N, hN, step⟩
  · refine wpAny_passesOwn hp (thn (T.done X rfl rfl rfl hc i pins s3 σ3 H3 X.xe I3 (stat fr3) st3 stop) fun r s4 ⟨hr, I4⟩ => ?_)
    subst hr
    exact wpAny_execs_nil ⟨σ3, H3, I4, qn⟩
  · refine wpAny_passesOwn hp (thn (T.item X rfl rfl rfl hc i pins s3 σ3 H3 X.xe I3 (stat fr3) st3 go) fun r s4 ⟨u, hr, h4⟩ => ?_)
    subst hr
    refine wpAny_passesOwn hp (thn h4 fun _ s5 ⟨x, H5, I5, r5, y5, st5, fr5⟩ => ?_)
    have I5' := I5.pinned (stat fr5) (T.obj _ _ st5)
    refine wpAny_passesOwn hp (thn (hg _ s5 σ3 H5 x u _ I5' r5 (step x H5 y5)) fun _ s6 ⟨σ6, H6, I6, q6⟩ => ?_)
    refine wpAny_passesOwn hp (thn (hb _ s6 σ6 H6 _ I6 q6) fun f s7 q7 => ?_)
    have again : ∀ {σ7 : St} {H7 : Hp}, Inv X (pins ++ pinsAt fp s5.heap) σ7 H7 s7 → N σ7 H7 → ∃ m, m < n ∧ ∃ i σ' H', Inv X pins σ' H' s7 ∧ tn i s7.heap ∧ (∀ b ∈ fp, H' b = none) ∧ W i m σ' H' := fun {σ7 H7} I7 n7 => by
      obtain ⟨m', hm, w7⟩ := hN σ7 H7 n7
      refine ⟨m', hm, i + 1, σ7, H7, I7.unpinned, T.keep _ _ _ st5 fun b hb o e => (I7.pin (b, o) (List.mem_append_right _ (List.mem_append_right _ (mem_pinsAt hb e)))).1, fun b hb => ?_, w7⟩
      obtain ⟨o, e, d⟩ := T.obj _ _ st5 b hb
      exact (I7.pin (b, o) (List.mem_append_right _ (List.mem_append_right _ (mem_pinsAt hb e)))).2.1
    cases f with
    | next => obtain ⟨σ7, H7, I7, n7⟩ := q7; exact again I7 n7
    | cont => obtain ⟨σ7, H7, I7, n7⟩ := q7; exact again I7 n7
    | brk => obtain ⟨σ7, H7, I7, q7⟩ := q7; exact ⟨σ7, H7, I7.unpinned, q7⟩
    | ret v => obtain ⟨x7, σ7, H7, I7, r7, q7⟩ := q7; exact ⟨x7, σ7, H7, I7.unpinned, r7, q7⟩
end
@[reducible] def PAt {α : Type} (P : Nat → α → Hp → Prop) (i : Nat) : α → Hp → Prop := P i
theorem for_list {K : PySem.W.Frag} {a : Addr} {xs : List V} {g : TG} {tb : TS} {D : Ends} {σ : St} {H : Hp} (Pv : Nat → St → Hp → Prop) (h0 : Pv 0 σ H) (hl : ∀ i σ H, i ≤ xs.length → Pv i σ H → SqL K H a xs)
    (hs : ∀ i x σ H, xs[i]? = some x → Pv i σ H → g x σ H fun σ2 H2 => tb { D with nx := PAt Pv (i + 1), ct := PAt Pv (i + 1), bk := D.nx } σ2 H2) (hd : ∀ σ H, Pv xs.length σ H → D.nx σ H) :
    ∃ W : Nat → Nat → St → Hp → Prop, (∃ m, W 0 m σ H) ∧ ∀ i m σ H, W i m σ H →
      ((Itl K a).stop i H ∧ D.nx σ H) ∨ ((Itl K a).go i H ∧ ∃ N : St → Hp → Prop, (∀ σ' H', N σ' H' → ∃ m', m' < m ∧ W (i + 1) m' σ' H') ∧ ∀ x H', (Itl K a).yld i H x H' → g x σ H' fun σ2 H2 => tb { D with nx := N, ct := N, bk := D.nx } σ2 H2) := by
  refine ⟨fun i m σ H => m = xs.length - i ∧ i ≤ xs.length ∧ Pv i σ H, ⟨xs.length, by simp, Nat.zero_le _, h0⟩, ?_⟩
  rintro i m σ H ⟨rfl, hi, p⟩
  have q := hl i σ H hi p
  by_cases hlt : i < xs.length
  · refine .inr ⟨⟨xs, xs[i], q, by simp [hlt]⟩, Pv (i + 1), fun σ' H' p' => ⟨xs.length - (i + 1), by omega, rfl, hlt, p'⟩, fun x H' y => ?_⟩
    obtain ⟨e, y⟩ := y
    subst e
    exact hs i x σ _ (y xs q) p
  · have e : i = xs.length := by omega
    subst e
    exact .inl ⟨⟨xs, q, Nat.le_refl _⟩, hd σ H p⟩
theorem for_tup {K : PySem.W.Frag} {a : Addr} {xs : List V} {g : TG} {tb : TS} {D : Ends} {σ : St} {H : Hp} (Pv : Nat → St → Hp → Prop) (h0 : Pv 0 σ H) (hl : ∀ i σ H, i ≤ xs.length → Pv i σ H → SqT K H a xs)
    (hs : ∀ i x σ H, xs[i]? = some x → Pv i σ H → g x σ H fun σ2 H2 => tb { D with nx := PAt Pv (i + 1), ct := PAt Pv (i + 1), bk := D.nx } σ2 H2) (hd : ∀ σ H, Pv xs.length σ H → D.nx σ H) :
    ∃ W : Nat → Nat → St → Hp → Prop, (∃ m, W 0 m σ H) ∧ ∀ i m σ H, W i m σ H →
      ((Itt K a).stop i H ∧ D.nx σ H) ∨ ((Itt K a).go i H ∧ ∃ N : St → Hp → Prop, (∀ σ' H', N σ' H' → ∃ m', m' < m ∧ W (i + 1) m' σ' H') ∧ ∀ x H', (Itt K a).yld i H x H' → g x σ H' fun σ2 H2 => tb { D with nx := N, ct := N, bk := D.nx } σ2 H2) := by
  refine ⟨fun i m σ H => m = xs.length - i ∧ i ≤ xs.length ∧ Pv i σ H, ⟨xs.length, by simp, Nat.zero_le _, h0⟩, ?_⟩
  rintro i m σ H ⟨rfl, hi, p⟩
  have q := hl i σ H hi p
  by_cases hlt : i < xs.length
  · refine .inr ⟨⟨xs, xs[i], q, by simp [hlt]⟩, Pv (i + 1), fun σ' H' p' => ⟨xs.length - (i + 1), by omega, rfl, hlt, p'⟩, fun x H' y => ?_⟩
    obtain ⟨e, y⟩ := y
    subst e
    exact hs i x σ _ (y xs q) p
  · have e : i = xs.length := by omega
    subst e
    exact .inl ⟨⟨xs, q, Nat.le_refl _⟩, hd σ H p⟩
theorem for_range {lo : Int} {n : Nat} {g : TG} {tb : TS} {D : Ends} {σ : St} {H : Hp} (Pv : Nat → St → Hp → Prop) (h0 : Pv 0 σ H)
    (hs : ∀ i σ H, i < n → Pv i σ H → g (.int (lo + i)) σ H fun σ2 H2 => tb { D with nx := PAt Pv (i + 1), ct := PAt Pv (i + 1), bk := D.nx } σ2 H2) (hd : ∀ σ H, Pv n σ H → D.nx σ H) :
    ∃ W : Nat → Nat → St → Hp → Prop, (∃ m, W 0 m σ H) ∧ ∀ i m σ H, W i m σ H →
      ((Itr lo n).stop i H ∧ D.nx σ H) ∨ ((Itr lo n).go i H ∧ ∃ N : St → Hp → Prop, (∀ σ' H', N σ' H' → ∃ m', m' < m ∧ W (i + 1) m' σ' H') ∧ ∀ x H', (Itr lo n).yld i H x H' → g x σ H' fun σ2 H2 => tb { D with nx := N, ct := N, bk := D.nx } σ2 H2) := by
  refine ⟨fun i m σ H => m = n - i ∧ i ≤ n ∧ Pv i σ H, ⟨n, by simp, Nat.zero_le _, h0⟩, ?_⟩
  rintro i m σ H ⟨rfl, hi, p⟩
  by_cases hlt : i < n
  · refine .inr ⟨hlt, Pv (i + 1), fun σ' H' p' => ⟨n - (i + 1), by omega, rfl, hlt, p'⟩, fun x H' y => ?_⟩
    obtain ⟨e, y⟩ := y
    subst e y
    exact hs i σ _ hlt p
  · have e : i = n := by omega
    subst e
    exact .inl ⟨Nat.le_refl _, hd σ H p⟩
end L2
namespace L2
open PySem PySem.Spec PyProof.Rows
abbrev R2 := V → V → Hp → VK → Prop
def OpR (X : Cx) (f : Value → Value → Sem Value) (r : R2) : Prop :=
  ∀ (pins : List (Addr × Obj)) (s : Shared) (σ : St) (H : Hp) (x y : V) (v u : Value) (Q : VK), Inv X pins σ H s → RelV x v → RelV y u → r x y H Q →
    wpAny (model X.prog X.w) X.A (f v u) (EP X pins σ Q) X.xe s
def UnR (X : Cx) (f : Value → Sem Value) (r : V → Hp → VK → Prop) : Prop :=
  ∀ (pins : List (Addr × Obj)) (s : Shared) (σ : St) (H : Hp) (x : V) (v : Value) (Q : VK), Inv X pins σ H s → RelV x v → r x H Q →
    wpAny (model X.prog X.w) X.A (f v) (EP X pins σ Q) X.xe s
def CallR (X : Cx) (f : Value) (r : List V → Hp → VK → Prop) : Prop :=
  ∀ (pins : List (Addr × Obj)) (s : Shared) (σ : St) (H : Hp) (xs : List V) (us : List Value) (Q : VK), Inv X pins σ H s → Vals xs us → r xs H Q →
    wpAny (model X.prog X.w) X.A (call f us) (EP X pins σ Q) X.xe s
def tOp (r : R2) (ta tb : TE) : TE := fun σ H Q => ta σ H fun x H1 => tb σ H1 fun y H2 => r x y H2 Q
def tUn (r : V → Hp → VK → Prop) (ta : TE) : TE := fun σ H Q => ta σ H fun x H1 => r x H1 Q
def rI (C : Int → Int → Prop) (g : Int → Int → V) : R2 := fun x y H Q => ∃ i j, x = .int i ∧ y = .int j ∧ C i j ∧ Q (g i j) H
def rI0 (g : Int → Int → V) : R2 := fun x y H Q => ∃ i j, x = .int i ∧ y = .int j ∧ Q (g i j) H
def rU (g : Int → V) : V → Hp → VK → Prop := fun x H Q => ∃ i, x = .int i ∧ Q (g i) H
section
variable {X : Cx} {a b c : Expr} {ta tb tc : TE} {pos : Pos}
theorem binT (ha : PE X a ta) (hb : PE X b tb) {pins : List (Addr × Obj)} {s : Shared} {σ : St} {H : Hp} {R : V → V → Hp → Prop} (I : Inv X pins σ H s)
    (h : ta σ H fun x H1 => tb σ H1 fun y H2 => R x y H2) {Q : Value → Shared → Prop} {f : Value → Value → Sem Value}
    (hf : ∀ v u s2 x y H2, Inv X pins σ H2 s2 → RelV x v → RelV y u → R x y H2 → wpAny (model X.prog X.w) X.A (f v u) Q X.xe s2) :
    wpAny (model X.prog X.w) X.A (eval a X.env) (fun v s₁ => wpAny (model X.prog X.w) X.A (eval b X.env) (fun u s₂ => wpAny (model X.prog X.w) X.A (f v u) Q X.xe s₂) X.xe s₁) X.xe s := by
  refine thn (ha pins s σ H _ I h) fun v s1 ⟨x, H1, I1, r1, q1⟩ => ?_
  refine thn (hb pins s1 σ H1 _ I1 q1) fun u s2 ⟨y, H2, I2, r2, q2⟩ => ?_
  exact hf v u s2 x y H2 I2 r1 r2 q2
theorem pe_op {op : Operator} {r : R2} (ho : OpR X (binaryOp op) r) (ha : PE X a ta) (hb : PE X b tb) : PE X (.BinOp a op b pos) (tOp r ta tb) := by
  intro pins s σ H Q I h
  exact wpAny_BinOp (binT ha hb I h fun v u s2 x y H2 I2 rx ry q => ho pins s2 σ H2 x y v u Q I2 rx ry q)
theorem pe_un {op : UnaryOp} {r : V → Hp → VK → Prop} (ho : UnR X (unaryOp op) r) (ha : PE X a ta) : PE X (.UnaryOp op a pos) (tUn r ta) := by
  intro pins s σ H Q I h
  exact UnaryOp_ (thn (ha pins s σ H _ I h) fun v s1 ⟨x, H1, I1, r1, q1⟩ => ho pins s1 σ H1 x v Q I1 r1 q1)
theorem opI {f : Value → Value → Sem Value} {C : Int → Int → Prop} {g : Int → Int → Int}
    (rule : ∀ (i j : Int) (t u : Tok) (s : Shared) (Q : Value → Shared → Prop) (E : Value → Shared → Prop), C i j → Q (.int (g i j) s.toks) { s with toks := s.toks + 1 } → wpAny (model X.prog X.w) X.A (f (.int i t) (.int j u)) Q E s) :
    OpR X f (rI C fun i j => .int (g i j)) := by
  intro pins s σ H x y v u Q I rx ry h
  obtain ⟨i, j, rfl, rfl, hc, q⟩ := h
  obtain ⟨t, rfl⟩ := rx
  obtain ⟨t', rfl⟩ := ry
  exact rule i j t t' s _ _ hc ⟨.int (g i j), H, I.tok _, ⟨_, rfl⟩, q⟩
theorem opI0 {f : Value → Value → Sem Value} {g : Int → Int → Int}
    (rule : ∀ (i j : Int) (t u : Tok) (s : Shared) (Q : Value → Shared → Prop) (E : Value → Shared → Prop), Q (.int (g i j) s.toks) { s with toks := s.toks + 1 } → wpAny (model X.prog X.w) X.A (f (.int i t) (.int j u)) Q E s) :
    OpR X f (rI0 fun i j => .int (g i j)) := by
  intro pins s σ H x y v u Q I rx ry h
  obtain ⟨i, j, rfl, rfl, q⟩ := h
  obtain ⟨t, rfl⟩ := rx
  obtain ⟨t', rfl⟩ := ry
  exact rule i j t t' s _ _ ⟨.int (g i j), H, I.tok _, ⟨_, rfl⟩, q⟩
theorem opB0 {f : Value → Value → Sem Value} {g : Int → Int → Bool}
    (rule : ∀ (i j : Int) (t u : Tok) (s : Shared) (Q : Value → Shared → Prop) (E : Value → Shared → Prop), Q (.bool (g i j)) s → wpAny (model X.prog X.w) X.A (f (.int i t) (.int j u)) Q E s) :
    OpR X f (rI0 fun i j => .bl (g i j)) := by
  intro pins s σ H x y v u Q I rx ry h
  obtain ⟨i, j, rfl, rfl, q⟩ := h
  obtain ⟨t, rfl⟩ := rx
  obtain ⟨t', rfl⟩ := ry
  exact rule i j t t' s _ _ ⟨.bl (g i j), H, I, rfl, q⟩
def CDiv (i j : Int) : Prop := 0 < j ∧ j < 1073741824
def CPow (i j : Int) : Prop := 0 ≤ j ∧ j ≤ 1000000 ∧ i.natAbs < 2 ^ 64
def CMul (i j : Int) : Prop := (-(2 ^ 64) < i ∧ i < 2 ^ 64) ∨ (-(2 ^ 64) < j ∧ j < 2 ^ 64)
theorem CMul.ok {i j : Int} (h : CMul i j) : IntMulOk i j := by
  rcases h with ⟨h1, h2⟩ | ⟨h1, h2⟩
  · exact .of_left (intBits_le_64 h1 h2)
  · exact .of_right (intBits_le_64 h1 h2)
theorem op_add : OpR X (binaryOp .Add) (rI0 fun i j => .int (i + j)) := opI0 fun _ _ _ _ _ _ _ q => add_int q
theorem op_mul : OpR X (binaryOp .Mult) (rI CMul fun i j => .int (i * j)) := opI fun _ _ _ _ _ _ _ hc q => mul_int q hc.ok
theorem op_fdiv : OpR X (binaryOp .FloorDiv) (rI CDiv fun i j => .int (i / j)) := opI fun i j _ _ _ _ _ hc q => by
  have h1 : (0 : Int) < j := hc.1
  have h2 : j < 1073741824 := hc.2
  exact floordiv_int (by omega) (by rw [Int.fdiv_eq_ediv_of_nonneg i (by omega)]; exact q) (.inl (PyProof.noPylong_small (by omega)))
theorem op_mod : OpR X (binaryOp .Mod) (rI (fun _ j => 0 < j) fun i j => .int (i % j)) := opI fun i j _ _ _ _ _ hc q => by
  have h1 : (0 : Int) < j := hc
  exact mod_int' (by omega) (by rw [Int.fmod_eq_emod_of_nonneg i (by omega)]; exact q)
theorem op_pow : OpR X (binaryOp .Pow) (rI CPow fun i j => .int (i ^ j.toNat)) := opI fun _ _ _ _ _ _ _ hc q => pow_int_small hc.1 hc.2.1 hc.2.2 q
theorem unI {f : Value → Sem Value} {g : Int → Int}
    (rule : ∀ (i : Int) (t : Tok) (s : Shared) (Q : Value → Shared → Prop) (E : Value → Shared → Prop), Q (.int (g i) s.toks) { s with toks := s.toks + 1 } → wpAny (model X.prog X.w) X.A (f (.int i t)) Q E s) :
    UnR X f (rU fun i => .int (g i)) := by
  intro pins s σ H x v Q I rx h
  obtain ⟨i, rfl, q⟩ := h
  obtain ⟨t, rfl⟩ := rx
  exact rule i t s _ _ ⟨.int (g i), H, I.tok _, ⟨_, rfl⟩, q⟩
theorem un_neg : UnR X (unaryOp .USub) (rU fun i => .int (-i)) := unI fun _ _ _ _ _ q => neg_int q
end
def scal : V → V → Bool
  | .non, .non => true | .non, .int _ => true | .int _, .non => true | .non, .bl _ => true | .bl _, .non => true | .non, .str _ => true | .str _, .non => true
  | .int _, .int _ => true | .bl _, .bl _ => true | .str _, .str _ => true | .byt _, .byt _ => true
  | .int _, .str _ => true | .str _, .int _ => true | .bl _, .str _ => true | .str _, .bl _ => true
  | _, _ => false
def rEq : R2 := fun x y H Q => scal x y = true ∧ Q (.bl (decide (x = y))) H
def rNe : R2 := fun x y H Q => scal x y = true ∧ Q (.bl (!decide (x = y))) H
theorem dec_int {i j : Int} : decide (V.int i = V.int j) = (i == j) := by
  rw [Bool.eq_iff_iff]
  simp
theorem dec_bl {i j : Bool} : decide (V.bl i = V.bl j) = (i == j) := by
  rw [Bool.eq_iff_iff]
  simp
theorem dec_str {i j : Str} : decide (V.str i = V.str j) = (i == j) := by
  rw [Bool.eq_iff_iff]
  simp
theorem dec_byt {i j : Array UInt8} : decide (V.byt i = V.byt j) = (i.toList == j.toList) := by
  rw [Bool.eq_iff_iff]
  cases i
  cases j
  simp
section
variable {X : Cx} {a b c : Expr} {ta tb tc : TE} {pos : Pos}
theorem fin_bl {pins : List (Addr × Obj)} {σ : St} {H : Hp} {s : Shared} {Q : VK} {k k' : Bool} (I : Inv X pins σ H s) (q : Q (.bl k) H) (e : k = k') : EP X pins σ Q (.bool k') s := by
  subst e
  exact ⟨.bl k, H, I, rfl, q⟩
theorem op_eq : OpR X (compareOp .Eq) rEq := by
  intro pins s σ H x y v u Q I rx ry h
  obtain ⟨hs, q⟩ := h
  cases x with
  | non =>
    cases rx
    cases y with
    | non => cases ry; exact PySem.EqNone.eq_none_none (fin_bl I q (by simp))
    | bl j => cases ry; exact PySem.EqNone.eq_none_bool (fin_bl I q (by simp))
    | int j => obtain ⟨t', rfl⟩ := ry; exact PySem.EqNone.eq_none_int (fin_bl I q (by simp))
    | str j => obtain ⟨t', rfl⟩ := ry; exact PySem.EqNone.eq_none_str (fin_bl I q (by simp))
    | _ => exact absurd (show false = true from hs) Bool.false_ne_true
  | bl i =>
    cases rx
    cases y with
    | non => cases ry; exact PySem.EqNone.eq_bool_none (fin_bl I q (by simp))
    | bl j => cases ry; exact eq_bool (fin_bl I q dec_bl)
    | str j => obtain ⟨t', rfl⟩ := ry; exact PySem.EqMixed.eq_bool_str (fin_bl I q (by simp))
    | _ => exact absurd (show false = true from hs) Bool.false_ne_true
  | int i =>
    obtain ⟨t, rfl⟩ := rx
    cases y with
    | non => cases ry; exact PySem.EqNone.eq_int_none (fin_bl I q (by simp))
    | int j => obtain ⟨t', rfl⟩ := ry; exact eq_int (fin_bl I q dec_int)
    | str j => obtain ⟨t', rfl⟩ := ry; exact PySem.EqMixed.eq_int_str (fin_bl I q (by simp))
    | _ => exact absurd (show false = true from hs) Bool.false_ne_true
  | str i =>
    obtain ⟨t, rfl⟩ := rx
    cases y with
    | non => cases ry; exact PySem.EqNone.eq_str_none (fin_bl I q (by simp))
    | bl j => cases ry; exact PySem.EqMixed.eq_str_bool (fin_bl I q (by simp))
    | int j => obtain ⟨t', rfl⟩ := ry; exact PySem.EqMixed.eq_str_int (fin_bl I q (by simp))
    | str j => obtain ⟨t', rfl⟩ := ry; exact eq_str (fin_bl I q dec_str)
    | _ => exact absurd (show false = true from hs) Bool.false_ne_true
  | byt i =>
    obtain ⟨t, rfl⟩ := rx
    cases y with
    | byt j => obtain ⟨t', rfl⟩ := ry; exact PySem.W.eq_bytes (fin_bl I q dec_byt)
    | _ => exact absurd (show false = true from hs) Bool.false_ne_true
  | _ => cases y <;> exact absurd (show false = true from hs) Bool.false_ne_true
theorem op_ne : OpR X (compareOp .NotEq) rNe := by
  intro pins s σ H x y v u Q I rx ry h
  obtain ⟨hs, q⟩ := h
  cases x with
  | non =>
    cases rx
    cases y with
    | non => cases ry; exact PySem.EqNone.ne_none_none (fin_bl I q (by simp))
    | bl j => cases ry; exact PySem.EqNone.ne_none_bool (fin_bl I q (by simp))
    | int j => obtain ⟨t', rfl⟩ := ry; exact PySem.EqNone.ne_none_int (fin_bl I q (by simp))
    | str j => obtain ⟨t', rfl⟩ := ry; exact PySem.EqNone.ne_none_str (fin_bl I q (by simp))
    | _ => exact absurd (show false = true from hs) Bool.false_ne_true
  | bl i =>
    cases rx
    cases y with
    | non => cases ry; exact PySem.EqNone.ne_bool_none (fin_bl I q (by simp))
    | bl j => cases ry; exact ne_bool (fin_bl I q (congrArg not dec_bl))
    | str j => obtain ⟨t', rfl⟩ := ry; exact PySem.EqMixed.ne_bool_str (fin_bl I q (by simp))
    | _ => exact absurd (show false = true from hs) Bool.false_ne_true
  | int i =>
    obtain ⟨t, rfl⟩ := rx
    cases y with
    | non => cases ry; exact PySem.EqNone.ne_int_none (fin_bl I q (by simp))
    | int j => obtain ⟨t', rfl⟩ := ry; exact ne_int (fin_bl I q (congrArg not dec_int))
    | str j => obtain ⟨t', rfl⟩ := ry; exact PySem.EqMixed.ne_int_str (fin_bl I q (by simp))
    | _ => exact absurd (show false = true from hs) Bool.false_ne_true
  | str i =>
    obtain ⟨t, rfl⟩ := rx
    cases y with
    | non => cases ry; exact PySem.EqNone.ne_str_none (fin_bl I q (by simp))
    | bl j => cases ry; exact PySem.EqMixed.ne_str_bool (fin_bl I q (by simp))
    | int j => obtain ⟨t', rfl⟩ := ry; exact PySem.EqMixed.ne_str_int (fin_bl I q (by simp))
    | str j => obtain ⟨t', rfl⟩ := ry; exact ne_str (fin_bl I q (congrArg not dec_str))
    | _ => exact absurd (show false = true from hs) Bool.false_ne_true
  | byt i =>
    obtain ⟨t, rfl⟩ := rx
    cases y with
    | byt j => obtain ⟨t', rfl⟩ := ry; exact PySem.W.ne_bytes (fin_bl I q (congrArg not dec_byt))
    | _ => exact absurd (show false = true from hs) Bool.false_ne_true
  | _ => cases y <;> exact absurd (show false = true from hs) Bool.false_ne_true
theorem op_lt : OpR X (compareOp .Lt) (rI0 fun i j => .bl (decide (i < j))) := opB0 fun _ _ _ _ _ _ _ q => lt_int q
theorem op_gt : OpR X (compareOp .Gt) (rI0 fun i j => .bl (decide (j < i))) := opB0 fun _ _ _ _ _ _ _ q => gt_int q
theorem op_lt_str : OpR X (compareOp .Lt) (fun x y H Q => ∃ i j, x = .str i ∧ y = .str j ∧ Q (.bl (decide (i.cps.toList < j.cps.toList))) H) := by
  intro pins s σ H x y v u Q I rx ry h
  obtain ⟨i, j, rfl, rfl, q⟩ := h
  obtain ⟨t, rfl⟩ := rx
  obtain ⟨t', rfl⟩ := ry
  exact lt_str (fin_bl I q rfl)
theorem op_in_str : OpR X (compareOp .In) (fun x y H Q => ∃ i j, x = .str i ∧ y = .str j ∧ Q (.bl (!(Builtin.Str.occurrences j i 0 j.length 1).isEmpty)) H) := by
  intro pins s σ H x y v u Q I rx ry h
  obtain ⟨i, j, rfl, rfl, q⟩ := h
  obtain ⟨t, rfl⟩ := rx
  obtain ⟨t', rfl⟩ := ry
  exact in_str (fin_bl I q rfl)
theorem op_isN : OpR X (compareOp .Is) (fun x y H Q => y = .non ∧ Q (.bl (decide (x = .non))) H) := by
  intro pins s σ H x y v u Q I rx ry h
  obtain ⟨rfl, q⟩ := h
  cases ry
  refine is_none_gen (fin_bl I q ?_)
  cases x <;> first
    | (cases rx; rfl)
    | (obtain ⟨t, rfl⟩ := rx; rfl)
theorem OpR.or {f : Value → Value → Sem Value} {r r' : R2} (h : OpR X f r) (h' : OpR X f r') : OpR X f (fun x y H Q => r x y H Q ∨ r' x y H Q) := by
  intro pins s σ H x y v u Q I rx ry q
  rcases q with q | q
  · exact h pins s σ H x y v u Q I rx ry q
  · exact h' pins s σ H x y v u Q I rx ry q
theorem nomark (b : Expr) {op : CmpOp} (h : op ≠ .In := by decide) (h2 : op ≠ .NotIn := by decide) : behindInMarks op b = false := by
  have e1 : (op == CmpOp.In) = false := by cases op <;> first | rfl | exact absurd rfl h
  have e2 : (op == CmpOp.NotIn) = false := by cases op <;> first | rfl | exact absurd rfl h2
  cases b <;> simp [behindInMarks, e1, e2]
theorem pe_cmpR {op : CmpOp} {r : R2} (ho : OpR X (compareOp op) r) (ha : PE X a ta) (hb : PE X b tb) (hm : behindInMarks op b = false) : PE X (.Compare a [op] [b] pos) (tOp r ta tb) := by
  intro pins s σ H Q I h
  exact wpAny_Compare1 (binT ha hb I h fun v u s2 x y H2 I2 rx ry q => ho pins s2 σ H2 x y v u Q I2 rx ry q) hm
def tTest (t : TE) : TT := fun σ H Q => t σ H fun x H' => ∃ k, x = .bl k ∧ Q k H'
theorem pt_cmpR {op : CmpOp} {r : R2} (ho : OpR X (compareOp op) r) (ha : PE X a ta) (hb : PE X b tb) (hm : behindInMarks op b = false) : PT X (.Compare a [op] [b] pos) (tTest (tOp r ta tb)) := by
  intro pins s σ H Q I h
  refine wpAny_isTrue_Compare1 (thn (ha pins s σ H _ I h) fun v s1 ⟨x, H1, I1, r1, q1⟩ => thn (hb pins s1 σ H1 _ I1 q1) fun u s2 ⟨y, H2, I2, r2, q2⟩ =>
    thn (ho pins s2 σ H2 x y v u _ I2 r1 r2 q2) fun c s3 ⟨z, H3, I3, r3, k, e, q3⟩ => ?_) hm
  subst e
  cases r3
  exact wpAny_truthy_bool ⟨H3, I3, q3⟩
theorem line63 : (sizeLine : Nat) < 2 ^ 63 := by rw [sizeLine_eq]; decide
theorem op_add_str : OpR X (binaryOp .Add) (fun x y H Q => ∃ i j, x = .str i ∧ y = .str j ∧ i.length + j.length ≤ sizeLine ∧ Q (.str (i ++ j)) H) := by
  intro pins s σ H x y v u Q I rx ry h
  obtain ⟨i, j, rfl, rfl, hz, q⟩ := h
  obtain ⟨t, rfl⟩ := rx
  obtain ⟨t', rfl⟩ := ry
  exact wpAny_with_toks (n := 1) I.tk (add_str (fun t' tk ht => ⟨.str (i ++ j), H, I.tok _ ht, ⟨_, rfl⟩, q⟩) hz)
theorem vals1 {x : V} {us : List Value} (r : Vals [x] us) : ∃ u, us = [u] ∧ RelV x u := by
  cases r with
  | cons r1 r2 => cases r2; exact ⟨_, rfl, r1⟩
theorem vals2 {x y : V} {us : List Value} (r : Vals [x, y] us) : ∃ u w', us = [u, w'] ∧ RelV x u ∧ RelV y w' := by
  cases r with
  | cons r1 r2 =>
    cases r2 with
    | cons r3 r4 => cases r4; exact ⟨_, _, rfl, r1, r3⟩
theorem call_int1 : CallR X (.type "int") (fun xs H Q => (∃ i, xs = [.int i] ∧ Q (.int i) H) ∨ ∃ k, xs = [.bl k] ∧ Q (.int (if k then 1 else 0)) H) := by
  intro pins s σ H xs us Q I r h
  rcases h with ⟨i, rfl, q⟩ | ⟨k, rfl, q⟩
  · obtain ⟨u, rfl, t, rfl⟩ := vals1 r
    exact call_int_int ⟨.int i, H, I, ⟨_, rfl⟩, q⟩
  · obtain ⟨u, rfl, r1⟩ := vals1 r
    cases r1
    exact call_int_bool ⟨.int (if k then 1 else 0), H, I.tok _, ⟨_, rfl⟩, q⟩
end
end L2
namespace L2
open PySem PySem.Spec PyProof.Rows
structure ObjM (h : Heap) (x dx C : Addr) (mA : Str → Option Value) : Prop where
  obj : h.get? x = some (PySem.W.instObj C dx)
  ns : h.Ns1 dx mA
  ne : dx ≠ x
theorem lookIn_ns {h : Heap} {dx : Addr} {mA : Str → Option Value} (n : h.Ns1 dx mA) : ∃ od, h.get? dx = some od ∧ ∀ name, PySem.W.lookIn name od = some (mA name) := by
  obtain ⟨o, es, ep, ho, hd, hk, _, hm⟩ := n
  refine ⟨o, ho, fun name => ?_⟩
  have e := hm name
  unfold nsFind findBy at e
  rw [← Array.find?_toList] at e
  unfold PySem.W.lookIn
  rw [hd]
  dsimp only
  split
  · rename_i y q
    rw [q] at e
    exact congrArg some e
  · rename_i q
    rw [q] at e
    have a : es.toList.any (·.refKey) = false := by
      rw [List.any_eq_false]
      intro y hy
      obtain ⟨z, t, hkey⟩ := hk y (Array.mem_toList_iff.mp hy)
      simp [DictEntry.refKey, hkey]
    have a' : ¬ es.toList.any (·.refKey) = true := by rw [a]; exact Bool.false_ne_true
    rw [if_neg a']
    exact congrArg some e
theorem ObjM.look {h : Heap} {x dx C : Addr} {mA : Str → Option Value} (I : ObjM h x dx C mA) : ∃ od, PySem.W.InstAt h x (PySem.W.instObj C dx) C (some od) ∧ ∀ name, PySem.W.lookIn name od = some (mA name) :=
  let ⟨od, ho, hl⟩ := lookIn_ns I.ns
  ⟨od, ⟨I.obj, rfl, rfl, ho⟩, hl⟩
section
variable {prog : Program} {w : World} {A : Around} {E : Value → Shared → Prop} {s : Shared} {K : PySem.W.Frag} {x dx C f : Addr} {mA : Str → Option Value} {name : Str} {v : Value}
end
theorem RelO.some_of {v : V} {o : Option Value} (r : RelO (some v) o) : ∃ u, o = some u ∧ RelV v u := by
  cases o with
  | none => exact (show False from r).elim
  | some u => exact ⟨u, rfl, r⟩
section
variable {P : Program} {w : World} {H H' : Hp} {h h' : Heap} {a C dx : Addr} {fs fs' : List (Str × V)}
theorem ins_get (hok : HOk P w H h) (e : H a = some (.ins C dx fs)) : ∃ mA, ObjM h a dx C mA ∧ (∀ f, RelO (fs.lookup f) (mA f)) ∧ PySem.Within mA (fs.map (·.1)) ∧ fs.length ≤ 1000 ∧ H dx = some (.own a) := by
  obtain ⟨d, z, ne, ob, mA, n, r, q⟩ := (show ObjOk P w H h a (.ins C dx fs) from hok a _ e)
  exact ⟨mA, ⟨ob, n, ne⟩, r, q, z, d⟩
end
structure Cls (K : PySem.W.Frag) (C : Addr) : Prop where
  pg : PySem.W.plainGet K C Str.empty = true
  hd : PySem.W.hasDictIn K C = true
  po : PySem.W.plainOver K C = true
  sa : PySem.W.findIn K (.ref C) "__setattr__" = some (some (.builtin "object.__setattr__"))
theorem Cls.get {K : PySem.W.Frag} {C : Addr} (c : Cls K C) (f : Str) : PySem.W.plainGet K C f = true := c.pg
section
variable {X : Cx} {pins : List (Addr × Obj)} {σ : St} {H : Hp} {s : Shared} {a C dx : Addr} {fs : List (Str × V)} {f : Str} {v : V} {A : Around} {E : Value → Shared → Prop}
end
section
variable {X : Cx} {o e value : Expr} {f : Str} {pos pos' tpos : Pos} {ta tv : TE}
end
section
variable {X : Cx} {pins : List (Addr × Obj)} {σ : St} {H : Hp} {s : Shared} {A : Around} {E : Value → Shared → Prop} {Q : Value → Shared → Prop} {c : Value} {b : Bool}
inductive TyOf (K : PySem.W.Frag) (H : Hp) : V → Value → Prop where
  | non : TyOf K H .non (.type "NoneType")
  | bl (x : Bool) : TyOf K H (.bl x) (.type "bool")
  | int (i : Int) : TyOf K H (.int i) (.type "int")
  | str (x : Str) : TyOf K H (.str x) (.type "str")
  | flt (x : UInt64) : TyOf K H (.flt x) (.type "float")
  | lst {a : Addr} {xs : List V} (e : H a = some (.lst xs)) : TyOf K H (.ref a) (.type "list")
  | frz {a : Addr} {o : Obj} {xs : List V} (e : H a = some (.frz o (.lst xs))) : TyOf K H (.ref a) (.type "list")
  | tup {a : Addr} {xs : List V} (e : H a = some (.tup xs)) : TyOf K H (.ref a) (.type "tuple")
  | dK {a : Addr} {kvs : List (Key × V)} (e : H a = some (.dK kvs)) : TyOf K H (.ref a) (.type "dict")
  | dT {a : Addr} {kvs : List (List Key × V)} (e : H a = some (.dT kvs)) : TyOf K H (.ref a) (.type "dict")
  | ins {a C dx : Addr} {fs : List (Str × V)} (e : H a = some (.ins C dx fs)) (cl : Cls K C) (ha : PySem.W.findIn K (.ref C) "__class__" = some (some (.builtin "object.__class__")))
      (hn : PySem.W.specialIn K (.builtin "object.__class__") "__get__" = some (some (.builtin "getset_descriptor.__get__"))) (htk : PySem.W.takesIn K (.builtin "object.__class__") = some true)
      (hm : PySem.W.mroIn K C (.type "object") = some true) : TyOf K H (.ref a) (.ref C)
theorem isinst_ok {x : V} {u t : Value} (I : Inv X pins σ H s) (rx : RelV x u) (ty : TyOf X.K H x t) (e : PySem.W.kitOne X.K t c = some b) (h : ∀ tk, Q (.bool b) { s with toks := tk }) :
    wpAny (model X.prog X.w) A (call (.builtin "isinstance") [u, c]) Q E s := by
  cases ty with
  | non => cases (show u = Value.none from rx); exact PySem.W.kia_one PySem.W.kitx_none I.kIn True.intro e (fun z => nomatch z) h
  | bl y => cases (show u = Value.bool y from rx); exact PySem.W.kia_one PySem.W.kitx_bool I.kIn True.intro e (fun z => nomatch z) h
  | int i => obtain ⟨t, q⟩ := (show ∃ t, u = Value.int i t from rx); cases q; exact PySem.W.kia_one PySem.W.kitx_int I.kIn True.intro e (fun z => nomatch z) h
  | str y => obtain ⟨t, q⟩ := (show ∃ t, u = Value.str y t from rx); cases q; exact PySem.W.kia_one PySem.W.kitx_str I.kIn True.intro e (fun z => nomatch z) h
  | flt y => obtain ⟨t, q⟩ := (show ∃ t, u = Value.float y t from rx); cases q; exact PySem.W.kia_one PySem.W.kitx_float I.kIn True.intro e (fun z => nomatch z) h
  | @lst a xs ea =>
    cases (show u = Value.ref a from rx)
    obtain ⟨_, _, n, _, h1⟩ := (show ObjOk X.prog X.w H s.heap a (.lst xs) from I.hok a _ ea)
    exact PySem.W.kia_one PySem.W.kitx_list I.kIn ⟨_, h1, rfl⟩ e (fun z => nomatch z) h
  | @frz a ob xs ea =>
    cases (show u = Value.ref a from rx)
    obtain ⟨_, _, _, n, _, h1⟩ := (show ObjOk X.prog X.w H s.heap a (.frz ob (.lst xs)) from I.hok a _ ea)
    exact PySem.W.kia_one PySem.W.kitx_list I.kIn ⟨_, h1, rfl⟩ e (fun z => nomatch z) h
  | @tup a xs ea =>
    cases (show u = Value.ref a from rx)
    obtain ⟨_, _, _, p⟩ := (show ObjOk X.prog X.w H s.heap a (.tup xs) from I.hok a _ ea)
    obtain ⟨o, h1, h2, _⟩ := p
    exact PySem.W.kia_one PySem.W.kitx_tuple I.kIn ⟨o, h1, h2⟩ e (fun z => nomatch z) h
  | @dK a kvs ea =>
    cases (show u = Value.ref a from rx)
    obtain ⟨_, _, vs, _, p⟩ := (show ObjOk X.prog X.w H s.heap a (.dK kvs) from I.hok a _ ea)
    obtain ⟨o, es, ep, h1, h2, _⟩ := p
    exact PySem.W.kia_one PySem.W.kitx_dict I.kIn ⟨o, h1, h2.1⟩ e (fun z => nomatch z) h
  | @dT a kvs ea =>
    cases (show u = Value.ref a from rx)
    obtain ⟨_, _, xs, _, o, es, ep, h1, h2, _⟩ := (show ObjOk X.prog X.w H s.heap a (.dT kvs) from I.hok a _ ea)
    exact PySem.W.kia_one PySem.W.kitx_dict I.kIn ⟨o, h1, h2.1⟩ e (fun z => nomatch z) h
  | @ins a C dx fs ea cl ha hn htk hm =>
    cases (show u = Value.ref a from rx)
    obtain ⟨mA, O, _⟩ := ins_get I.hok ea
    obtain ⟨od, J, _⟩ := O.look
    exact PySem.W.kia_one (PySem.W.kitx_own (cl.get _) cl.hd ha hn htk hm) I.kIn J e (fun z => nomatch z) h
end
end L2
namespace L2
open PySem PySem.Spec PyProof.Rows
structure Room (k : Nat) (A : Around) : Prop where
  hd : A.handled = none
  dp : A.depth + 3 * k + 5 < recursionLimit
  un : A.units + 16 * k + 200 < cLine
theorem Room.mono {j k : Nat} {A : Around} (r : Room k A) (h : j ≤ k) : Room j A := ⟨r.hd, by have := r.dp; omega, by have := r.un; omega⟩
theorem Room.deeper {k : Nat} {A : Around} (r : Room (k + 1) A) (env : Env) : Room k (A.deeper env) :=
  ⟨r.hd, by have := r.dp; show A.depth + 1 + 3 * k + 5 < _; omega, by have := r.un; show A.units + 3 + 16 * k + 200 < _; omega⟩
theorem Room.depth {k : Nat} {A : Around} (r : Room k A) : A.depth < recursionLimit := by have := r.dp; omega
theorem Room.units {k : Nat} {A : Around} (r : Room k A) : A.units + 64 < cLine := by have := r.un; omega
def tNil : TA := fun _ H Q => Q [] H
def tCons (ta : TE) (tr : TA) : TA := fun σ H Q => ta σ H fun x H1 => tr σ H1 fun xs H2 => Q (x :: xs) H2
section
variable {X : Cx} {e : Expr} {es : List Expr} {te : TE} {t : TA} {pos : Pos}
theorem pa_nil : PA X [] tNil := fun _ _ _ _ H Q I h => Calls.spliced_nil ⟨[], H, I, .nil, h⟩
theorem pa_cons (ha : PE X e te) (hr : PA X es t) (hs : starEach (e :: es) X.env = (false, eval e X.env) :: starEach es X.env := by rfl) : PA X (e :: es) (tCons te t) := by
  intro pos pins s σ H Q I h
  rw [hs]
  show wpAny _ _ (spliced ((false, eval e X.env) :: backTo pos (starEach es X.env))) _ _ s
  refine Calls.spliced_cons (thn (ha pins s σ H _ I h) fun u s1 ⟨x, H1, I1, r1, q1⟩ => ?_)
  exact thn (hr pos pins s1 σ H1 _ I1 q1) fun us s2 ⟨xs, H2, I2, r2, q2⟩ => ⟨x :: xs, H2, I2, .cons r1 r2, q2⟩
def tTup (t : TA) : TE := fun σ H Q => t σ H fun xs H1 => xs.length ≤ sizeLine ∧ ∀ p, H1 p = none → Q (.ref p) (upd H1 p (.tup xs))
def tLst (t : TA) : TE := fun σ H Q => t σ H fun xs H1 => xs.length ≤ sizeLine ∧ ∀ p, H1 p = none → Q (.ref p) (upd H1 p (.lst xs))
theorem pe_tup {x1} (h : PA X es t) : PE X (.Tuple es x1 pos) (tTup t) := by
  intro pins s σ H Q I hq
  refine wpAny_Tuple_spliced (thn (h pos pins s σ H _ I hq) fun us s1 ⟨xs, H1, I1, r, z, q⟩ => ⟨by rw [← r.length]; exact z, ?_⟩)
  have hf : H1 s1.heap.objs.size = none := I1.hok.fresh (Nat.le_refl _)
  refine ⟨.ref s1.heap.objs.size, upd H1 s1.heap.objs.size (.tup xs), I1.laid (t' := s1.toks) (fun b u e => Heap.get?_push_of_some _ e) (Nat.le_refl _) ?_, rfl, q _ hf⟩
  exact ⟨z, us, r, ⟨_, Heap.get?_push_size _ rfl, rfl, _, rfl⟩⟩
theorem pe_lst (h : PA X es t) : PE X (.List es pos) (tLst t) := by
  intro pins s σ H Q I hq
  refine wpAny_List_spliced (thn (h pos pins s σ H _ I hq) fun us s1 ⟨xs, H1, I1, r, z, q⟩ => ⟨by rw [← r.length]; exact z, ?_⟩)
  have hf : H1 s1.heap.objs.size = none := I1.hok.fresh (Nat.le_refl _)
  refine ⟨.ref s1.heap.objs.size, upd H1 s1.heap.objs.size (.lst xs), I1.laid (t' := s1.toks) (fun b u e => Heap.get?_push_of_some _ e) (Nat.le_refl _) ?_, rfl, q _ hf⟩
  exact ⟨z, us, 0, r, Heap.get?_push_size _ rfl⟩
end
abbrev Sp := List V → Hp → VK → XK → Prop
abbrev CXT := List Env → Hp → Shared → XK → Value → Shared → Prop
structure Env0 (P : Program) (w : World) (K : PySem.W.Frag) (mg : Str → Option Value) (base : Heap) (A : Around) (outer : List Env) (s : Shared) (H : Hp) : Prop where
  frames : A.frames = some outer
  mod : Mod K mg base
  bs : ∀ b o, base.get? b = some o → s.heap.get? b = some o ∧ H b = none
  bsz : base.objs.size ≤ s.heap.objs.size
  funs : s.heap.FunFrames base outer
  frf : ∀ b ∈ frs outer, H b = none
  hok : HOk P w H s.heap
  bare : AllBare s.gens
  tk : 0 < s.toks
def CE (outer : List Env) (P : Program) (w : World) (H : Hp) (s : Shared) (Q : VK) (u : Value) (s' : Shared) : Prop :=
  ∃ v H', 0 < s'.toks ∧ s'.os = s.os ∧ AllBare s'.gens ∧ Un (frs outer) [] H H' s.heap s'.heap ∧ HOk P w H' s'.heap ∧ RelV v u ∧ Q v H'
def CR (CX : CXT) (outer : List Env) (P : Program) (w : World) (H : Hp) (s : Shared) (Q : VK) (E : XK) (r : Result) (s' : Shared) : Prop :=
  match r with
  | .ok (.ret u) => CE outer P w H s Q u s'
  | .ok _ => False
  | .error e => CX outer H s E e s'
structure FnOk (P : Program) (w : World) (K : PySem.W.Frag) (mg : Str → Option Value) (base : Heap) (CX : CXT) (k : Nat) (f : Addr) (fd : FuncData) (ps : List Str) (sp : Sp) : Prop where
  len : ∀ vs H Q E, sp vs H Q E → vs.length = ps.length
  run : ∀ (A : Around) (outer : List Env) (s : Shared) (H : Hp) (args : Args) (us : List Value) (vs : List V) (Q : VK) (E : XK), Room k A → Env0 P w K mg base A outer s H → BindsTo s fd args (ps.zip us) → Vals vs us → sp vs H Q E →
    codeAny (model P w) A (.call (.ref f) args) (CR CX outer P w H s Q E) s
section
variable {X : Cx} {pins : List (Addr × Obj)} {σ : St} {H : Hp} {s s' : Shared}
theorem Inv.env0 (I : Inv X pins σ H s) : Env0 X.prog X.w X.K X.mg X.base X.A X.stack s H :=
  ⟨I.ok.frames, I.ok.mod, I.bs, Nat.le_trans I.ok.bsz I.sz, I.stack, I.stkFree, I.hok, I.bare, I.tk⟩
theorem Inv.after {Q : VK} {u : Value} (I : Inv X pins σ H s) (h : CE X.stack X.prog X.w H s Q u s') : EP X pins σ Q u s' := by
  obtain ⟨v, H', ht, os, bare, un, hok, r, q⟩ := h
  obtain ⟨hh, g, d, t, os'⟩ := s'
  obtain rfl : os' = s.os := os
  exact ⟨v, H', I.call (h' := hh) (g' := g) (d' := d) (t' := t) (ch := []) un hok bare (fun b z => absurd z (by simp)) ht, r, q⟩
end
def tCall (sp : Sp) (dvs : List V) (E : XK) (t : TA) : TE := fun σ H Q => t σ H fun vs H1 => sp (vs ++ dvs) H1 Q E
def Binds (K : PySem.W.Frag) (fd : FuncData) (ps : List Str) (ds : List Value) : Prop :=
  ∀ (s : Shared) (us : List Value), K.In s.heap → (us ++ ds).length = ps.length → BindsTo s fd ⟨us, []⟩ (ps.zip (us ++ ds))
theorem Binds.all {K : PySem.W.Frag} {fd : FuncData} {ps : List Str} (h : ∀ us : List Value, us.length = ps.length → bindArgs fd ⟨us, []⟩ = pure (ps.zip us)) : Binds K fd ps [] := fun s us _ hl => by
  rw [List.append_nil] at hl ⊢
  exact .of_eq (h us hl)
def Passes (CX : CXT) (X : Cx) (E : XK) : Prop := ∀ (pins : List (Addr × Obj)) (σ : St) (H : Hp) (s : Shared) (e : Value) (s' : Shared), Inv X pins σ H s → CX X.stack H s E e s' → X.xe e s'
section
variable {X : Cx} {CX : CXT} {k : Nat} {f C : Addr} {fd : FuncData} {ps : List Str} {sp : Sp} {dvs : List V} {ds : List Value} {E : XK} {x m : Str} {p pos apos : Pos} {e o : Expr} {es : List Expr} {ta : TE} {t : TA}
theorem run_fn {pins : List (Addr × Obj)} {σ : St} {H : Hp} {s : Shared} {Q : VK} {us : List Value} {vs : List V} (F : FnOk X.prog X.w X.K X.mg X.base CX k f fd ps sp) (hr : Room k X.A) (hb : Binds X.K fd ps ds) (hd : Vals dvs ds) (hx : Passes CX X E)
    (I : Inv X pins σ H s) (r : Vals vs us) (h : sp (vs ++ dvs) H Q E) : wpAny (model X.prog X.w) X.A (call (.ref f) us) (EP X pins σ Q) X.xe s := by
  have r2 : Vals (vs ++ dvs) (us ++ ds) := r.append hd
  have hl : (us ++ ds).length = ps.length := by rw [← r2.length]; exact F.len _ _ _ _ h
  refine wpAny_call (codeAny_mono (F.run X.A X.stack s H ⟨us, []⟩ (us ++ ds) (vs ++ dvs) Q E hr I.env0 (hb s us I.kIn hl) r2 h) fun r s' hq => ?_)
  cases r with
  | error e => exact hx pins σ H s e s' I hq
  | ok fl =>
    cases fl with
    | ret u => exact I.after hq
    | next => exact False.elim hq
    | brk => exact False.elim hq
    | cont => exact False.elim hq
theorem pe_call (F : FnOk X.prog X.w X.K X.mg X.base CX k f fd ps sp) (hr : Room k X.A) (hg : Gl X x) (hm : X.mg x = some (.ref f)) (hk : PySem.W.keepIn X.K (.ref f) = true) (hb : Binds X.K fd ps ds) (hd : Vals dvs ds) (hx : Passes CX X E)
    (ha : PA X (e :: es) t) (hdb : (x == ("__debug__" : Str)) = false := by decide) (he : starEach (e :: es) X.env = (false, eval e X.env) :: starEach es X.env := by rfl) (hpl : (backTo pos (starEach es X.env)).any (·.1) = false := by rfl) :
    PE X (.Call (.Name x p) (e :: es) [] pos) (tCall sp dvs E t) := by
  intro pins s σ H Q I h
  refine wpAny_Call_Name_kw (ld_glob I hg hm ?_ hdb)
  refine PySem.W.callWith_K (h₀ := X.base) I.ok.mod.kin hk (thn (ha pos pins s σ H _ I h) fun us s1 ⟨vs, H1, I1, r, q⟩ => ⟨I1.kIn, ?_⟩) he hpl
  exact run_fn F hr hb hd hx I1 r q
end
section
variable {X : Cx} {CX : CXT} {k : Nat} {f C : Addr} {fd : FuncData} {ps ks : List Str} {sp : Sp} {E : XK} {x m : Str} {p pos apos kpos : Pos} {e o : Expr} {es : List Expr} {kws : List Keyword} {te ta : TE} {t tk : TA} {nm : Option Str}
variable {g : List Value → List Value → List Value} {gV : List V → List V → List V}
end
structure FnScope (N P : List Str) (sc : Scope) : Prop where
  kind : sc.kind = .function
  co : sc.isCoroutine = false
  gen : sc.isGenerator = false
  nd : N.Nodup
  pre : N.take P.length = P
  par : ∀ x ∈ P, sc.names.lookup x = some .local ∨ sc.names.lookup x = some .cell
  nofree : ∀ y ∈ sc.names, y.2 ≠ .free
theorem bindL_out {kindOf : Str → Option NameKind} {x : Str} : ∀ {binds : List (Str × Value)} {m : Str → Option Value}, (∀ v, (x, v) ∉ binds) → bindL kindOf binds m x = m x
  | [], _, _ => rfl
  | (n, v) :: r, m, h => by
    unfold bindL
    rw [bindL_out fun w hw => h w (List.mem_cons_of_mem _ hw)]
    split
    · have : x ≠ n := by rintro rfl; exact h v List.mem_cons_self
      simp [this]
    · rfl
theorem bindC_out {kindOf : Str → Option NameKind} {x : Str} : ∀ {binds : List (Str × Value)} {m : Str → Option Value}, (∀ v, (x, v) ∉ binds) → bindC kindOf binds m x = m x
  | [], _, _ => rfl
  | (n, v) :: r, m, h => by
    unfold bindC
    rw [bindC_out fun w hw => h w (List.mem_cons_of_mem _ hw)]
    split
    · rfl
    · have : x ≠ n := by rintro rfl; exact h v List.mem_cons_self
      simp [this]
theorem bindL_get {kindOf : Str → Option NameKind} {x : Str} {v : Value} : ∀ {P : List Str} {vs : List Value} {i : Nat} {m : Str → Option Value}, P.Nodup → P[i]? = some x → vs[i]? = some v → kindOf x = some .local →
    bindL kindOf (P.zip vs) m x = some v
  | [], _, _, _, _, h, _, _ => by simp at h
  | _ :: _, [], _, _, _, _, h, _ => by simp at h
  | p :: P, w :: vs, 0, m, nd, h1, h2, hk => by
    simp at h1 h2; subst h1; subst h2
    show bindL kindOf ((p, w) :: P.zip vs) m p = _
    unfold bindL
    rw [bindL_out fun v hv => (List.nodup_cons.mp nd).1 (List.of_mem_zip hv).1, if_pos hk]
    simp
  | p :: P, w :: vs, i + 1, m, nd, h1, h2, hk => by
    show bindL kindOf ((p, w) :: P.zip vs) m x = _
    unfold bindL
    exact bindL_get (i := i) (List.nodup_cons.mp nd).2 (by simpa using h1) (by simpa using h2) hk
theorem bindC_get {kindOf : Str → Option NameKind} {x : Str} {v : Value} : ∀ {P : List Str} {vs : List Value} {i : Nat} {m : Str → Option Value}, P.Nodup → P[i]? = some x → vs[i]? = some v → kindOf x ≠ some .local →
    bindC kindOf (P.zip vs) m x = some v
  | [], _, _, _, _, h, _, _ => by simp at h
  | _ :: _, [], _, _, _, _, h, _ => by simp at h
  | p :: P, w :: vs, 0, m, nd, h1, h2, hk => by
    simp at h1 h2; subst h1; subst h2
    show bindC kindOf ((p, w) :: P.zip vs) m p = _
    unfold bindC
    rw [bindC_out fun v hv => (List.nodup_cons.mp nd).1 (List.of_mem_zip hv).1, if_neg hk]
    simp
  | p :: P, w :: vs, i + 1, m, nd, h1, h2, hk => by
    show bindC kindOf ((p, w) :: P.zip vs) m x = _
    unfold bindC
    exact bindC_get (i := i) (List.nodup_cons.mp nd).2 (by simpa using h1) (by simpa using h2) hk
def start (N : List Str) (vs : List V) : St := vs.map some ++ List.replicate (N.length - vs.length) none
def cxOf (CX : CXT) (P : Program) (w : World) (K : PySem.W.Frag) (mg : Str → Option Value) (base : Heap) (N : List Str) (qual : Str) (scope : Scope) (f : Addr) (cd : Value) (A : Around) (outer : List Env) (s : Shared) (H : Hp) (E : XK) : Cx where
  prog := P
  w := w
  K := K
  mg := mg
  base := base
  A := A.deeper (envOfC qual scope s.heap.objs.size f cd)
  N := N
  s₀ := s
  H₀ := H
  env := envOfC qual scope s.heap.objs.size f cd
  outer := outer
  stack := envOfC qual scope s.heap.objs.size f cd :: outer
  ex := []
  calm := true
  fn := fun _ => true
  pn := []
  xe := fun e s' => wpAny (model P w) (A.deeper (envOfC qual scope s.heap.objs.size f cd)) (leaving (envOfC qual scope s.heap.objs.size f cd) e) (fun _ s'' => CX outer H s E e s'') (fun e' s'' => CX outer H s E e' s'') s'
theorem cell_has {sc : Scope} {n : Nat} {x : Str} (h : sc.names.lookup x = some .cell) : ∃ c, (cellsFrom n sc.names []).lookup x = some c := by
  have q := PySem.W.cellsFrom_some sc.names n [] (.inl h)
  exact Option.isSome_iff_exists.mp q
theorem inv_start {CX : CXT} {P : Program} {w : World} {K : PySem.W.Frag} {mg : Str → Option Value} {base : Heap} {N ps : List Str} {qual : Str} {scope : Scope} {f : Addr} {cd : Value} {A : Around} {outer : List Env} {s s1 : Shared} {H : Hp} {E : XK} {us : List Value} {vs : List V}
    (S : FnScope N ps scope) (hd : A.handled = none) (e0 : Env0 P w K mg base A outer s H) (hl : vs.length = ps.length) (r : Vals vs us)
    (x : InCallC s s.heap.objs.size (bindL (envOfC qual scope s.heap.objs.size f cd).kindOf (ps.zip us) fun _ => none) (cellsFrom (s.heap.objs.size + 1) scope.names []) (bindC (envOfC qual scope s.heap.objs.size f cd).kindOf (ps.zip us) fun _ => none) s1) (ht : 0 < s1.toks) :
    Inv (cxOf CX P w K mg base N qual scope f cd A outer s H E) [] (start N vs) H s1 := by
  have hpl : ps.length ≤ N.length := by have := congrArg List.length S.pre; rw [List.length_take] at this; omega
  obtain ⟨h1, tk, rfl, hk⟩ := x.done
  have noA : ∀ b : Addr, b ∉ (cxOf CX P w K mg base N qual scope f cd A outer s H E).ex := fun b z => absurd (show b ∈ ([] : List Addr) from z) (by simp)
  refine ⟨⟨e0.mod, S.kind, rfl, rfl, Nat.le_refl _, fun y z c h1 h2 => ?_, fun y hy => ?_, fun y c _ h => ?_, fun _ => hd, Around.frames_deeper e0.frames, .inr ⟨rfl, rfl⟩, fun b z => absurd z (noA b), e0.bs, e0.bsz, fun b _ _ => noA b, fun b z => absurd z (noA b), e0.funs, e0.frf⟩,
    rfl, e0.bare, Un.kept hk, ⟨_, x.toInCall.ns, fun i y v h1 h2 h3 => ?_⟩, fun y c h => ⟨_, x.cell y c h⟩, e0.hok.fresh (Nat.le_refl _), fun y c h => ?_, fun p hp => absurd (show p ∈ ([] : List (Addr × Obj)) from hp) (by simp), e0.hok.kept hk, ?_, ht⟩
  · exact name_of_addr x.apart (PySem.mem_of_lookup h1) (PySem.mem_of_lookup h2)
  · have hy : scope.names.lookup y = some .cell ∨ scope.names.lookup y = some .free := hy
    rcases hy with hy | hy
    · exact cell_has hy
    · exact absurd rfl (S.nofree _ (PySem.mem_of_lookup hy))
  · exact Nat.le_of_lt (x.above y c (PySem.mem_of_lookup h))
  · have hi : i < vs.length := by
      unfold start at h2
      by_cases hi : i < vs.length
      · exact hi
      · rw [List.getElem?_append_right (by simpa using hi)] at h2
        rw [List.getElem?_replicate] at h2
        split at h2 <;> cases h2
    have ha : vs[i]? = some v := by
      unfold start at h2
      rw [List.getElem?_append_left (by simpa using hi), List.getElem?_map] at h2
      cases e : vs[i]? with
      | none => rw [e] at h2; cases h2
      | some a => rw [e] at h2; cases h2; rfl
    obtain ⟨u, hu, rv⟩ := r.get ha
    have hp : ps[i]? = some y := by
      rw [← S.pre, List.getElem?_take_of_lt (by omega)]; exact h1
    have ndP : ps.Nodup := by rw [← S.pre]; exact S.nd.sublist (List.take_sublist _ _)
    refine ⟨u, rv, ?_⟩
    rcases S.par y (List.mem_of_getElem? hp) with k | k
    · exact .inl ⟨k, bindL_get ndP hp hu k⟩
    · obtain ⟨c, e⟩ := cell_has (n := s.heap.objs.size + 1) k
      refine .inr ⟨.inl k, c, e, ?_⟩
      have q := x.cell y c e
      rw [bindC_get ndP hp hu (by show scope.names.lookup y ≠ _; rw [k]; decide)] at q
      exact q
  · exact e0.hok.fresh (Nat.le_of_lt (x.above y c (PySem.mem_of_lookup h)))
  · unfold start
    show _ = N.length
    rw [List.length_append, List.length_map, List.length_replicate]
    omega
theorem fn_of {CX : CXT} {P : Program} {w : World} {K : PySem.W.Frag} {mg : Str → Option Value} {base : Heap} {k : Nat} {f : Addr} {name qual : Str} {params : Arguments} {body : List Stmt} {scope : Scope} {dV kV doc pm cdv ct oc : Value} {an od : Option Addr}
    {osl : Array (Option Value)} {N ps : List Str} {sp : Sp} (lk : K.lookup f = some ⟨oc, od, .func (PySem.W.fnOf name qual params body scope dV kV doc pm an cdv ct), osl⟩) (hcd : PySem.W.codeIn K cdv qual = true) (S : FnScope N ps scope)
    (len : ∀ vs H Q E, sp vs H Q E → vs.length = ps.length)
    (hbody : ∀ (A : Around) (outer : List Env) (s : Shared) (H : Hp) (vs : List V) (Q : VK) (E : XK), Room k (A.deeper (envOfC qual scope s.heap.objs.size f cdv)) → sp vs H Q E →
      ∃ t, PSs (cxOf CX P w K mg base N qual scope f cdv A outer s H E) body t ∧ t { nx := fun _ H' => Q .non H', rt := Q } (start N vs) H) :
    FnOk P w K mg base CX (k + 1) f (PySem.W.fnOf name qual params body scope dV kV doc pm an cdv ct) ps sp := by
  refine ⟨len, fun A outer s H args us vs Q E hr e0 hb r hsp => ?_⟩
  have hl := len _ _ _ _ hsp
  have KX : K.In s.heap := e0.mod.kin.keeps fun b o e => (e0.bs b o e).1
  have lim : s.heap.NoLimit := e0.mod.nolimit.keeps fun b o e => (e0.bs b o e).1
  have hkind : ∀ y ∈ ps.zip us, scope.names.lookup y.1 = some .local ∨ (scope.names.lookup y.1 = some .cell ∧ ((cellsFrom (s.heap.objs.size + 1) scope.names []).lookup y.1).isSome = true) := fun ⟨n, v⟩ hy => by
    rcases S.par n (List.of_mem_zip hy).1 with q | q
    · exact .inl q
    · exact .inr ⟨q, PySem.W.cellsFrom_some _ _ _ (.inl q)⟩
  refine codeAny_call_function hr.depth (KX _ _ lk) rfl S.co S.gen rfl (PySem.W.codeRec_of KX hcd) (hb _ _ _ _ ?_)
  refine wpAny_with_toks (n := 1) e0.tk (wpAny_newFunctionEnv_cells S.kind hkind fun env he s1 x htk => ?_)
  subst he
  refine ⟨lim.keeps x.toInCall.keep, codeAny_func ?_⟩
  obtain ⟨t, ht, hq⟩ := hbody A outer s H vs Q E (hr.deeper _) hsp
  have I : Inv (cxOf CX P w K mg base N qual scope f cdv A outer s H E) [] (start N vs) H s1 := inv_start S hr.hd e0 hl r x htk
  refine wpAny_mono (ht [] s1 (start N vs) H _ I hq) (fun fl s' hs => ?_) fun e s' hs => hs
  have fin : ∀ {σ' : St} {H' : Hp} {v : V} {u : Value}, Inv (cxOf CX P w K mg base N qual scope f cdv A outer s H E) [] σ' H' s' → RelV v u → Q v H' → CE outer P w H s Q u s' :=
    fun {σ' H' v u} J rv q => ⟨v, H', J.tk, J.os, J.bare, J.base, J.hok, rv, q⟩
  cases fl with
  | ret u =>
    obtain ⟨v, σ', H', J, rv, q⟩ := hs
    exact fin J rv q
  | next =>
    obtain ⟨σ', H', J, q⟩ := hs
    exact fin (v := V.non) (u := Value.none) J rfl q
  | brk =>
    obtain ⟨_, _, _, q⟩ := hs
    exact False.elim q
  | cont =>
    obtain ⟨_, _, _, q⟩ := hs
    exact False.elim q
end L2
namespace L2
open PySem PySem.Spec PyProof.Rows
section
variable {X : Cx} {x : Str} {p pos : Pos} {e : Expr} {es : List Expr} {t : TA} {id T : String} {r : List V → Hp → VK → Prop}
def tCB (r : List V → Hp → VK → Prop) (t : TA) : TE := fun σ H Q => t σ H fun vs H1 => r vs H1 Q
theorem pe_callB (hc : CallR X (.builtin id) r) (hg : Gl X x) (hm : X.mg x = none) (hv : bootBuiltins x = some (.builtin id)) (ha : PA X (e :: es) t) (hn : x ≠ "__name__" := by decide) (hdb : (x == ("__debug__" : Str)) = false := by decide)
    (he : starEach (e :: es) X.env = (false, eval e X.env) :: starEach es X.env := by rfl) (hpl : (backTo pos (starEach es X.env)).any (·.1) = false := by rfl) : PE X (.Call (.Name x p) (e :: es) [] pos) (tCB r t) := by
  intro pins s σ H Q I h
  refine wpAny_Call_Name_kw (ld_blt I hg hm hv ?_ hn hdb)
  exact PyProof.Rows.callWith_builtin1 (thn (ha pos pins s σ H _ I h) fun us s1 ⟨vs, H1, I1, r1, q1⟩ => hc pins s1 σ H1 vs us Q I1 r1 q1) he hpl
theorem pe_callTy (hc : CallR X (.type T) r) (hg : Gl X x) (hm : X.mg x = none) (hv : bootBuiltins x = some (.type T)) (ha : PA X (e :: es) t) (hn : x ≠ "__name__" := by decide) (hdb : (x == ("__debug__" : Str)) = false := by decide)
    (he : starEach (e :: es) X.env = (false, eval e X.env) :: starEach es X.env := by rfl) (hpl : (backTo pos (starEach es X.env)).any (·.1) = false := by rfl) : PE X (.Call (.Name x p) (e :: es) [] pos) (tCB r t) := by
  intro pins s σ H Q I h
  refine wpAny_Call_Name_kw (ld_blt I hg hm hv ?_ hn hdb)
  exact PyProof.Rows.callWith_type1 (thn (ha pos pins s σ H _ I h) fun us s1 ⟨vs, H1, I1, r1, q1⟩ => hc pins s1 σ H1 vs us Q I1 r1 q1) he hpl
end
end L2
namespace HT
open PySem PyProof.Rows
section
open PySem.SeqAt
open PySem.AutoSeq1 (wpAny_loadPart')
open PySem.MeetsSeq PySem.MeetsSeq2 PySem.MeetsSeq3
end
section
variable {prog : Program} {w : World} {A : Around} {E : Value → Shared → Prop} {s : Shared}
theorem cat_tup {t b : Addr} {vs ws : List Value} {Q : Value → Shared → Prop} (ht : IsTup s.heap t vs.toArray) (hb : IsTup s.heap b ws.toArray) (hv : vs ≠ [])
    (h1 : ws = [] → Q (.ref t) s) (h2 : ws ≠ [] → Q (.ref s.heap.objs.size) { s with heap := s.heap.push { cls := .type "tuple", data := .seq (vs ++ ws).toArray } })
    (hsz : vs.length + ws.length ≤ sizeLine) : wpAny (model prog w) A (binaryOp .Add (.ref t) (.ref b)) Q E s := by
  obtain ⟨⟨cls, dd, data, sl⟩, ho, hc, n, hd⟩ := id ht
  obtain ⟨⟨cls2, dd2, data2, sl2⟩, ho2, hc2, n2, hd2⟩ := id hb
  simp only at hc hd hc2 hd2
  subst hc hd hc2 hd2
  have e : vs.toArray ++ ws.toArray = (vs ++ ws).toArray := by simp
  by_cases hw : ws = []
  · exact concat_meets ⟨_, ho, rfl⟩ ⟨_, ho2, rfl⟩ noFill_tuple_add seq_tuple_add PySem.F.slot_tuple_add PySem.F.entry_tuple_add (PySem.F.args_tuple_add_2 _ _)
      (tuple_addW1 t b vs.toArray ws.toArray n n2 dd dd2 sl sl2 (by simpa using hv) (by simp [hw])) ⟨ho, ho2, h1 hw⟩
  · refine concat_meets ⟨_, ho, rfl⟩ ⟨_, ho2, rfl⟩ noFill_tuple_add seq_tuple_add PySem.F.slot_tuple_add PySem.F.entry_tuple_add (PySem.F.args_tuple_add_2 _ _)
      (tuple_addW2 t b vs.toArray ws.toArray n n2 dd dd2 sl sl2 (by simpa using hv) (by simpa using hw) (by rw [List.size_toArray, List.size_toArray]; exact hsz)) ⟨ho, ho2, ?_⟩
    rw [e]
    exact h2 hw
def sIx (n d : Nat) : Option Int → Nat
  | none => d
  | some v => if v < 0 then (v + (n : Int)).toNat else min v.toNat n
theorem sIx_nat (n d k : Nat) : sIx n d (some (k : Int)) = min k n := by
  show (if (k : Int) < 0 then ((k : Int) + (n : Int)).toNat else min (k : Int).toNat n) = min k n
  rw [if_neg (by omega), Int.toNat_natCast]
theorem sIx_le (n d : Nat) (hd : d ≤ n) (o : Option Int) : sIx n d o ≤ n := by
  cases o with
  | none => exact hd
  | some v =>
    show (if v < 0 then (v + (n : Int)).toNat else min v.toNat n) ≤ n
    by_cases hv : v < 0
    · rw [if_pos hv]; omega
    · rw [if_neg hv]; exact Nat.min_le_right _ _
theorem clip_eq (v : Int) (n d : Nat) : (if v < 0 then max (v + (n : Int)) 0 else min v (n : Int)) = ((sIx n d (some v) : Nat) : Int) := by
  show (if v < 0 then max (v + (n : Int)) 0 else min v (n : Int)) = (((if v < 0 then (v + (n : Int)).toNat else min v.toNat n) : Nat) : Int)
  by_cases hv : v < 0
  · simp only [if_pos hv]; omega
  · simp only [if_neg hv]; omega
theorem adjust_gen (lo hi : Option Int) (n : Nat) : Builtin.Slice.sliceAdjust lo hi 1 (n : Int) = (((sIx n 0 lo : Nat) : Int), ((sIx n n hi : Nat) : Int)) := by
  have h1 : ¬ ((1 : Int) < 0) := by omega
  unfold Builtin.Slice.sliceAdjust
  simp only [h1, if_false]
  refine Prod.ext ?_ ?_
  · cases lo with
    | none => rfl
    | some v => exact clip_eq v n 0
  · cases hi with
    | none => rfl
    | some v => exact clip_eq v n n
theorem places_gen (i j : Nat) : Builtin.Slice.slicePlaces (i : Int) (j : Int) 1 = j - i := by
  unfold Builtin.Slice.slicePlaces
  have h1 : (1 : Int) > 0 := by omega
  simp only [h1, if_true, Int.ediv_one]
  split <;> omega
theorem slicePart_ {v : Value} {o : Option Int} {Q : Option Int → Shared → Prop} (p : IsPart v o) (h : Q o s) : wpAny (model prog w) A (Builtin.Slice.slicePartIndex v) Q E s := by
  cases p with
  | none => exact slicePart_none h
  | int i t => exact slicePart_int h
theorem sliceApplied_gen {sl : Addr} {vl vu : Value} {lo hi : Option Int} {n : Nat} {Q : Int × Int × Nat → Shared → Prop} (hs : s.heap.IsSliceOf sl vl vu .none) (pl : IsPart vl lo) (pu : IsPart vu hi)
    (h : Q (((sIx n 0 lo : Nat) : Int), 1, sIx n n hi - sIx n 0 lo) s) : wpAny (model prog w) A (Builtin.Slice.sliceApplied (.ref sl) (pure (n : Int))) Q E s := by
  obtain ⟨os, hos, hcs, hds⟩ := id hs
  unfold Builtin.Slice.sliceApplied Builtin.Slice.sliceFields
  refine wpAny_bind (wpAny_bind (wpAny_field hos hds (x := vl) rfl (wpAny_bind (wpAny_field hos hds (x := vu) rfl (wpAny_bind (wpAny_field hos hds (x := .none) rfl (wpAny_pure ?_)))))))
  refine wpAny_bind (slicePart_none ?_)
  show wpAny _ _ (if ((1 : Int) == 0) = true then _ else _) _ _ s
  rw [if_neg (by decide)]
  refine wpAny_bind (slicePart_ pl (wpAny_bind (slicePart_ pu (wpAny_bind (wpAny_pure ?_)))))
  show wpAny _ _ (match Builtin.Slice.sliceAdjust lo hi 1 (n : Int) with | (lo, hi) => pure (lo, (1 : Int), Builtin.Slice.slicePlaces lo hi 1)) _ _ s
  rw [adjust_gen lo hi n]
  show wpAny _ _ (pure (((sIx n 0 lo : Nat) : Int), (1 : Int), Builtin.Slice.slicePlaces ((sIx n 0 lo : Nat) : Int) ((sIx n n hi : Nat) : Int) 1)) _ _ s
  rw [places_gen]
  exact wpAny_pure h
theorem pick_gen (xs : Array Value) (i k : Nat) : ((List.range k).filterMap fun (m : Nat) => xs[((i : Int) + (m : Int) * 1).toNat]?).toArray = ((xs.toList.drop i).take k).toArray := by
  have e : (fun (m : Nat) => xs[((i : Int) + (m : Int) * 1).toNat]?) = fun m => xs[i + m]? := by
    funext m
    have : ((i : Int) + (m : Int) * 1).toNat = i + m := by omega
    rw [this]
  rw [e]
  have := pick_run xs i k
  rw [List.filterMap_map] at this
  have e2 : ((fun x => xs[x]?) ∘ fun x => i + x) = fun m => xs[i + m]? := rfl
  rw [e2] at this
  rw [this]
theorem getItem_tuple_cut {t sl : Addr} {items : Array Value} {vl vu : Value} {lo hi : Option Int} {Q : Value → Shared → Prop} (ht : IsTup s.heap t items) (hs : s.heap.IsSliceOf sl vl vu .none) (pl : IsPart vl lo) (pu : IsPart vu hi)
    (hw : ¬ (sIx items.size 0 lo = 0 ∧ sIx items.size items.size hi = items.size))
    (h : Q (.ref s.heap.objs.size) { s with heap := s.heap.push { cls := .type "tuple", data := .seq ((items.toList.drop (sIx items.size 0 lo)).take (sIx items.size items.size hi - sIx items.size 0 lo)).toArray } })
    (hsz : items.size ≤ sizeLine) : wpAny (model prog w) A (getItem (.ref t) (.ref sl)) Q E s := by
  have htake : sizeOk (.seq ((items.toList.drop (sIx items.size 0 lo)).take (sIx items.size items.size hi - sIx items.size 0 lo)).toArray) := by
    show ((items.toList.drop (sIx items.size 0 lo)).take (sIx items.size items.size hi - sIx items.size 0 lo)).toArray.size ≤ sizeLine
    rw [List.size_toArray, List.length_take, List.length_drop, Array.length_toList]
    omega
  have hj : sIx items.size items.size hi ≤ items.size := sIx_le _ _ (Nat.le_refl _) hi
  obtain ⟨os, hos, hcs, hds⟩ := id hs
  have hTs : s.TypeIs (.ref sl) "slice" := ⟨os, hos, hcs⟩
  unfold getItem
  try with_reducible refine wpAny_holding ?_
  first | refine wpAny_bind (wpAny_pure ?_) | skip
  refine wpAny_bind (wpAny_sequenceKey ht.typeIs (by decide) ?_)
  refine wpAny_bind (wpAny_callSpecial?_slot (name := Str.ofString "__getitem__") ht.typeIs PyProof.Rows.slot_tuple_getitem
    (wpAny_call_entry PyProof.Rows.slot_tuple_getitem ht.typeIs entry_tuple_getitem ?_ (args_tuple_getitem _ _)))
  show wpAny _ _ (Builtin.Tuple.tupleItemsOf (.ref t) >>= _) _ _ s
  refine wpAny_bind (tupleItemsOf_ ht ?_)
  refine wpAny_bind (wpAny_typeOf hTs ?_)
  rw [if_pos (by decide)]
  refine wpAny_bind (sliceApplied_gen hs pl pu ?_)
  have hno : ¬ ((((sIx items.size 0 lo : Nat) : Int) == 0 && (1 : Int) == 1 && (sIx items.size items.size hi - sIx items.size 0 lo) == items.size) = true) := by
    intro q
    rw [Bool.and_eq_true, Bool.and_eq_true] at q
    have q1 : ((sIx items.size 0 lo : Nat) : Int) = 0 := eq_of_beq q.1.1
    have q2 : sIx items.size items.size hi - sIx items.size 0 lo = items.size := eq_of_beq q.2
    exact hw ⟨by omega, by omega⟩
  show wpAny _ _ (if (((sIx items.size 0 lo : Nat) : Int) == 0 && (1 : Int) == 1 && (sIx items.size items.size hi - sIx items.size 0 lo) == items.size) = true then _ else _) _ _ s
  rw [if_neg hno, pick_gen]
  first
    | exact wpAny_bind (m := Builtin.Tuple.tupleExact _) (wpAny_newObj_type (wpAny_pure ⟨_, rfl, wpAny_pure h⟩) htake)
    | exact wpAny_bind (m := Builtin.Tuple.tupleExact _) (wpAny_newObj_type (wpAny_bind (wpAny_pure (wpAny_pure ⟨_, rfl, wpAny_pure h⟩))) htake)
    | exact wpAny_bind (wpAny_bind (m := Builtin.Tuple.tupleExact _) (wpAny_newObj_type (wpAny_pure (wpAny_pure ⟨_, rfl, wpAny_pure h⟩)) htake))
    | exact wpAny_bind (wpAny_bind (m := Builtin.Tuple.tupleExact _) (wpAny_newObj_type (wpAny_pure ⟨_, rfl, wpAny_pure h⟩) htake))
end
end HT
namespace L2
open PySem PySem.Spec PyProof.Rows
abbrev TO := St → Hp → (Option Int → Hp → Prop) → Prop
def PO (X : Cx) (e : Option Expr) (t : TO) : Prop :=
  ∀ (pins : List (Addr × Obj)) (s : Shared) (σ : St) (H : Hp) (Q : Option Int → Hp → Prop), Inv X pins σ H s → t σ H Q →
    wpAny (model X.prog X.w) X.A (evalPart e X.env) (fun u s' => ∃ o H', Inv X pins σ H' s' ∧ IsPart u o ∧ Q o H') X.xe s
def tNoPart : TO := fun _ H Q => Q none H
def tPart (t : TE) : TO := fun σ H Q => t σ H fun x H1 => ∃ i, x = .int i ∧ Q (some i) H1
section
variable {X : Cx} {e : Expr} {te : TE} {lo hi : Option Expr} {tl th : TO} {pos p2 : Pos}
theorem po_none : PO X none tNoPart := by
  intro pins s σ H Q I h
  rw [evalPart_none]
  exact wpAny_pure ⟨none, H, I, .none, h⟩
theorem po_some (h : PE X e te) : PO X (some e) (tPart te) := by
  intro pins s σ H Q I hw
  rw [evalPart_some]
  refine thn (h pins s σ H _ I hw) fun u s1 ⟨x, H1, I1, r1, q1⟩ => ?_
  obtain ⟨i, rfl, q⟩ := q1
  obtain ⟨t, rfl⟩ := r1
  exact ⟨some i, H1, I1, .int i t, q⟩
def SlR (X : Cx) (r : V → Option Int → Option Int → Hp → VK → Prop) : Prop :=
  ∀ (pins : List (Addr × Obj)) (s : Shared) (σ : St) (H : Hp) (x : V) (v vl vu : Value) (lo hi : Option Int) (sl : Addr) (Q : VK), Inv X pins σ H s → RelV x v → s.heap.IsSliceOf sl vl vu .none → IsPart vl lo → IsPart vu hi → r x lo hi H Q →
    ∃ T id, typeLookup (.type T) "__getitem__" = pure (some (.builtin id)) ∧ s.TypeIs v T ∧ wpAny (model X.prog X.w) X.A (getItem v (.ref sl)) (EP X pins σ Q) X.xe s
theorem SlR.or {r r' : V → Option Int → Option Int → Hp → VK → Prop} (h : SlR X r) (h' : SlR X r') : SlR X (fun x lo hi H Q => r x lo hi H Q ∨ r' x lo hi H Q) := by
  intro pins s σ H x v vl vu lo hi sl Q I rx hs pl pu q
  rcases q with q | q
  · exact h pins s σ H x v vl vu lo hi sl Q I rx hs pl pu q
  · exact h' pins s σ H x v vl vu lo hi sl Q I rx hs pl pu q
def tSl (r : V → Option Int → Option Int → Hp → VK → Prop) (te : TE) (tl th : TO) : TE := fun σ H Q => te σ H fun x H1 => tl σ H1 fun l H2 => th σ H2 fun u H3 => r x l u H3 Q
theorem pe_slice {r : V → Option Int → Option Int → Hp → VK → Prop} (hr : SlR X r) (he : PE X e te) (hl : PO X lo tl) (hu : PO X hi th) : PE X (.Subscript e (.Slice lo hi none p2) pos) (tSl r te tl th) := by
  intro pins s σ H Q I h
  refine Subscript_ (thn (he pins s σ H _ I h) fun v s1 ⟨x, H1, I1, r1, q1⟩ => ?_)
  refine wpAny_Slice (thn (hl pins s1 σ H1 _ I1 q1) fun vl s2 ⟨l, H2, I2, pl, q2⟩ => thn (hu pins s2 σ H2 _ I2 q2) fun vu s3 ⟨u, H3, I3, pu, q3⟩ => ?_)
  rw [evalPart_none]
  refine wpAny_pure ?_
  have I4 : Inv X pins σ H3 { s3 with heap := s3.heap.push { cls := .type "slice", data := .fields #[vl, vu, .none] } } := I3.kept (t' := s3.toks) fun b ob q => Heap.get?_push_of_some _ q
  obtain ⟨T, id, hT, ht, hg⟩ := hr pins { s3 with heap := s3.heap.push { cls := .type "slice", data := .fields #[vl, vu, .none] } } σ H3 x v vl vu l u s3.heap.objs.size Q I4 r1 (Heap.IsSliceOf.new ..) pl pu q3
  show wpAny (model X.prog X.w) X.A (subscriptTail e (.Slice lo hi none p2) v (.ref s3.heap.objs.size)) (EP X pins σ Q) X.xe { s3 with heap := s3.heap.push { cls := .type "slice", data := .fields #[vl, vu, .none] } }
  exact tail_any (ops := [.ref s3.heap.objs.size, v]) ht hT hg (by with_unfolding_all rfl)
def cutV (xs : List V) (lo hi : Option Int) : List V := (xs.drop (HT.sIx xs.length 0 lo)).take (HT.sIx xs.length xs.length hi - HT.sIx xs.length 0 lo)
theorem cutV_length (xs : List V) (lo hi : Option Int) : (cutV xs lo hi).length ≤ xs.length := by
  unfold cutV
  rw [List.length_take, List.length_drop]
  omega
def rSlT (K : PySem.W.Frag) : V → Option Int → Option Int → Hp → VK → Prop := fun x lo hi H Q => ∃ a xs, x = .ref a ∧ SqT K H a xs ∧
  ¬ (HT.sIx xs.length 0 lo = 0 ∧ HT.sIx xs.length xs.length hi = xs.length) ∧ ∀ p, H p = none → Q (.ref p) (upd H p (.tup (cutV xs lo hi)))
theorem sl_tup : SlR X (rSlT X.K) := by
  intro pins s σ H x v vl vu lo hi sl Q I rx hs pl pu h
  obtain ⟨a, xs, rfl, hx, hw, q⟩ := h
  cases rx
  obtain ⟨its, r, ht, hz⟩ := I.tuple hx
  have hlen : its.toArray.size = xs.length := by rw [List.size_toArray]; exact r.length.symm
  refine ⟨"tuple", _, PyProof.Rows.slot_tuple_getitem.lookup, ht.typeIs, ?_⟩
  refine HT.getItem_tuple_cut ht hs pl pu (by rw [hlen]; exact hw) ?_ (by rw [hlen]; exact hz)
  rw [hlen]
  refine ⟨.ref s.heap.objs.size, _, I.laid (t' := s.toks) (o := .tup (cutV xs lo hi)) (fun b ob q => Heap.get?_push_of_some _ q) (Nat.le_refl _) ?_, rfl, q _ (I.hok.fresh (Nat.le_refl _))⟩
  exact ⟨Nat.le_trans (cutV_length xs lo hi) hz, _, (r.drop (HT.sIx xs.length 0 lo)).take (HT.sIx xs.length xs.length hi - HT.sIx xs.length 0 lo), IsTup.new _ _⟩
def rCatT (K : PySem.W.Frag) : R2 := fun x y H Q => ∃ a b xs ys, x = .ref a ∧ y = .ref b ∧ SqT K H a xs ∧ SqT K H b ys ∧ xs ≠ [] ∧ xs.length + ys.length ≤ sizeLine ∧
  (ys = [] → Q (.ref a) H) ∧ (ys ≠ [] → ∀ p, H p = none → Q (.ref p) (upd H p (.tup (xs ++ ys))))
theorem Vals.nil_iff {xs : List V} {us : List Value} (r : Vals xs us) : us = [] ↔ xs = [] := by
  cases r with
  | nil => simp
  | cons _ _ => simp
theorem op_catT : OpR X (binaryOp .Add) (rCatT X.K) := by
  intro pins s σ H x y v u Q I rx ry h
  obtain ⟨a, b, xs, ys, rfl, rfl, ha, hb, hx, hz, q1, q2⟩ := h
  cases rx
  cases ry
  obtain ⟨its, r1, p1, _⟩ := I.tuple ha
  obtain ⟨its2, r2, p2, _⟩ := I.tuple hb
  refine HT.cat_tup p1 p2 (fun z => hx (r1.nil_iff.mp z)) (fun z => ⟨.ref a, H, I, rfl, q1 (r2.nil_iff.mp z)⟩) (fun z => ?_) (by rw [← r1.length, ← r2.length]; exact hz)
  refine ⟨.ref s.heap.objs.size, _, I.laid (t' := s.toks) (o := .tup (xs ++ ys)) (fun b ob q => Heap.get?_push_of_some _ q) (Nat.le_refl _) ?_, rfl, q2 (fun w => z (r2.nil_iff.mpr w)) _ (I.hok.fresh (Nat.le_refl _))⟩
  exact ⟨by rw [List.length_append]; exact hz, _, r1.append r2, IsTup.new _ _⟩
end
end L2
namespace L2
open PySem PySem.Spec PyProof.Rows
def ixN (n : Nat) (i : Int) : Option Nat := if 0 ≤ i then (if i < n then some i.toNat else none) else if -(n : Int) ≤ i then some (i + n).toNat else none
def atI {α : Type} (xs : List α) (i : Int) : Option α := (ixN xs.length i).bind fun j => xs[j]?
theorem ixN_seq {n : Nat} {i : Int} {j : Nat} (h : ixN n i = some j) : seqIndex? i n = some j ∧ j < n ∧ -(n : Int) ≤ i ∧ i < n := by
  unfold ixN at h
  by_cases h0 : 0 ≤ i
  · rw [if_pos h0] at h
    by_cases h1 : i < n
    · rw [if_pos h1] at h
      have e : i.toNat = j := Option.some.inj h
      exact ⟨by rw [seqIndex_of h0 h1, e], by omega, by omega, h1⟩
    · rw [if_neg h1] at h; cases h
  · rw [if_neg h0] at h
    by_cases h1 : -(n : Int) ≤ i
    · rw [if_pos h1] at h
      have e : (i + n).toNat = j := Option.some.inj h
      exact ⟨by rw [seqIndex_neg (by omega) h1, e], by omega, h1, by omega⟩
    · rw [if_neg h1] at h; cases h
theorem atI_get {α : Type} {xs : List α} {i : Int} {v : α} (h : atI xs i = some v) : ∃ j, seqIndex? i xs.length = some j ∧ xs[j]? = some v ∧ j < xs.length ∧ -(xs.length : Int) ≤ i ∧ i < xs.length := by
  unfold atI at h
  cases e : ixN xs.length i with
  | none => rw [e] at h; cases h
  | some j =>
    rw [e] at h
    obtain ⟨h1, h2, h3, h4⟩ := ixN_seq e
    exact ⟨j, h1, h, h2, h3, h4⟩
theorem atI_nat {α : Type} {xs : List α} {j : Nat} {v : α} (h : xs[j]? = some v) : atI xs (j : Int) = some v := by
  have hj : j < xs.length := (List.getElem?_eq_some_iff.mp h).1
  have e : ixN xs.length (j : Int) = some j := by
    unfold ixN
    rw [if_pos (by omega), if_pos (by omega)]; simp
  unfold atI; rw [e]; exact h
def PlainIx (b : Expr) : Prop := ∀ o i, subscripted b false o i = operate [o, i] (getItem o i)
def IxR (X : Cx) (r : R2) : Prop :=
  ∀ (value slice : Expr) (pins : List (Addr × Obj)) (s : Shared) (σ : St) (H : Hp) (x y : V) (v u : Value) (Q : VK), Inv X pins σ H s → RelV x v → RelV y u → r x y H Q →
    subscripted slice false v u = operate [v, u] (getItem v u) → wpAny (model X.prog X.w) X.A (subscriptTail value slice v u) (EP X pins σ Q) X.xe s
def MtR (X : Cx) (id : String) (r : V → List V → Hp → VK → Prop) : Prop :=
  ∀ (pins : List (Addr × Obj)) (s : Shared) (σ : St) (H : Hp) (x : V) (xs : List V) (v : Value) (us : List Value) (Q : VK), Inv X pins σ H s → RelV x v → Vals xs us → r x xs H Q →
    wpAny (model X.prog X.w) X.A (call (.builtin id) (v :: us)) (EP X pins σ Q) X.xe s
section
variable {X : Cx} {a b : Expr} {ta tb : TE} {pos : Pos}
theorem IxR.or {r r' : R2} (h : IxR X r) (h' : IxR X r') : IxR X (fun x y H Q => r x y H Q ∨ r' x y H Q) := by
  intro value slice pins s σ H x y v u Q I rx ry q hs
  rcases q with q | q
  · exact h value slice pins s σ H x y v u Q I rx ry q hs
  · exact h' value slice pins s σ H x y v u Q I rx ry q hs
theorem pe_ix {r : R2} (hr : IxR X r) (ha : PE X a ta) (hb : PE X b tb) (hs : PlainIx b) : PE X (.Subscript a b pos) (tOp r ta tb) := by
  intro pins s σ H Q I h
  exact Subscript_ (binT ha hb I h fun v u s2 x y H2 I2 rx ry q => hr a b pins s2 σ H2 x y v u Q I2 rx ry q (hs _ _))
def rIxL (K : PySem.W.Frag) : R2 := fun x y H Q => ∃ p xs i v, x = .ref p ∧ y = .int i ∧ SqL K H p xs ∧ atI xs i = some v ∧ Q v H
def rIxT (K : PySem.W.Frag) : R2 := fun x y H Q => ∃ p xs i v, x = .ref p ∧ y = .int i ∧ SqT K H p xs ∧ atI xs i = some v ∧ Q v H
def rIxS : R2 := fun x y H Q => ∃ z i c, x = .str z ∧ y = .int i ∧ z.length ≤ sizeLine ∧ atI z.cps.toList i = some c ∧ Q (.str ⟨#[c]⟩) H
theorem ix_list : IxR X (rIxL X.K) := by
  intro value slice pins s σ H x y v u Q I rx ry h hs
  obtain ⟨p, xs, i, z, rfl, rfl, hq, he, q⟩ := h
  cases rx
  obtain ⟨t, rfl⟩ := ry
  obtain ⟨its, r, pl, hz⟩ := I.list hq
  obtain ⟨j, h1, h2, h3, h4, h5⟩ := atI_get he
  obtain ⟨w, ew, rw'⟩ := r.get h2
  have hl := r.length
  have hn := line63
  have fin : EP X pins σ Q w s := ⟨z, H, I, rw', q⟩
  by_cases h0 : 0 ≤ i
  · have hj : i.toNat = j := by
      rw [seqIndex_of h0 h5] at h1
      exact Option.some.inj h1
    exact item_listR pl.isList h0 (by omega) (by rw [hj]; simpa using ew) fin hs
  · have hj : (i + (its.toArray.size : Int)).toNat = j := by
      rw [seqIndex_neg (by omega) h4] at h1
      rw [List.size_toArray, ← hl]
      exact Option.some.inj h1
    exact subscriptTail_builtinR (x := w) pl.isList.typeIs slot_list_getitem.lookup
      (wpAny_getItem_list_neg (Q := fun r s' => r = w ∧ EP X pins σ Q r s') pl.isList (by omega) (by rw [List.size_toArray] <;> omega) (by omega) (by rw [hj]; simpa using ew) ⟨rfl, fin⟩) hs
theorem ix_tup : IxR X (rIxT X.K) := by
  intro value slice pins s σ H x y v u Q I rx ry h hs
  obtain ⟨p, xs, i, z, rfl, rfl, hq, he, q⟩ := h
  cases rx
  obtain ⟨t, rfl⟩ := ry
  obtain ⟨its, r, pl, hz⟩ := I.tuple hq
  obtain ⟨j, h1, h2, h3, h4, h5⟩ := atI_get he
  obtain ⟨w, ew, rw'⟩ := r.get h2
  have hl := r.length
  have hn := line63
  have fin : EP X pins σ Q w s := ⟨z, H, I, rw', q⟩
  exact subscriptTail_builtinR (x := w) pl.typeIs slot_tuple_getitem.lookup
    (getItem_tuple (j := j) (Q := fun r s' => r = w ∧ EP X pins σ Q r s') pl (by omega) (by omega) (by rw [List.size_toArray, ← hl]; exact h1) (by simpa using ew) ⟨rfl, fin⟩) hs
theorem ix_str : IxR X rIxS := by
  intro value slice pins s σ H x y v u Q I rx ry h hs
  obtain ⟨z, i, c, rfl, rfl, hz, he, q⟩ := h
  obtain ⟨t, rfl⟩ := rx
  obtain ⟨t', rfl⟩ := ry
  obtain ⟨j, h1, h2, h3, h4, h5⟩ := atI_get he
  have hl : z.cps.toList.length = z.length := by simp [Str.length]
  rw [hl] at h1 h4 h5
  have hn := line63
  exact tail_any (typeIs_str s z t) slot_str_getitem.lookup (getItem_str (c := c) (by
    have e1 : decide (i < -(2 ^ 63 : Int)) = false := decide_eq_false (by omega)
    have e2 : decide (i ≥ 2 ^ 63) = false := decide_eq_false (by omega)
    rw [e1, e2, Bool.or_false]) (by rw [h1]; simpa using h2) ⟨.str ⟨#[c]⟩, H, I.tok _, ⟨_, rfl⟩, q⟩) hs
def rIx (K : PySem.W.Frag) : R2 := fun x y H Q => rIxL K x y H Q ∨ rIxT K x y H Q ∨ rIxS x y H Q
theorem ix_seq : IxR X (rIx X.K) := ix_list.or (ix_tup.or ix_str)
theorem mapSeq_set (its : List Value) (n j : Nat) (u : Value) : Obj.mapSeq (·.setIfInBounds j u) { cls := .type "list", data := .seq its.toArray n } = { cls := .type "list", data := .seq (its.set j u).toArray n } := by
  simp [Obj.mapSeq]
theorem Inv.lst {pins : List (Addr × Obj)} {σ : St} {H : Hp} {s : Shared} {p : Addr} {xs : List V} (I : Inv X pins σ H s) (h : H p = some (.lst xs)) :
    ∃ (its : List Value) (n : Nat), Vals xs its ∧ s.heap.get? p = some { cls := .type "list", data := .seq its.toArray n } ∧ xs.length ≤ sizeLine := by
  obtain ⟨z, its, n, r, e⟩ := I.hok p _ h
  exact ⟨its, n, r, e, z⟩
theorem Inv.lstUpd {pins : List (Addr × Obj)} {σ : St} {H : Hp} {s : Shared} {p : Addr} {xs ys : List V} {its its' : List Value} {n n' : Nat} {f : Obj → Obj} (I : Inv X pins σ H s) (h : H p = some (.lst xs))
    (ho : s.heap.get? p = some { cls := .type "list", data := .seq its.toArray n }) (hf : f { cls := .type "list", data := .seq its.toArray n } = { cls := .type "list", data := .seq its'.toArray n' }) (r : Vals ys its') (hz : ys.length ≤ sizeLine) (t' : Nat) (ht : 0 < t' := by first | exact Nat.succ_pos _ | assumption | exact Inv.tk ‹_› | omega) :
    Inv X pins σ (upd H p (.lst ys)) { s with heap := s.heap.update p f, toks := t' } := by
  have e : (s.heap.update p f).get? p = some { cls := .type "list", data := .seq its'.toArray n' } := by
    rw [Heap.get?_update_self f ho (by rw [hf] <;> rfl), hf]
  refine I.write (x := p) (e := p) (by rw [h]; trivial) (.inl rfl) (fun b u hb q => (Heap.get?_update_other _ _ (Ne.symm hb)).trans q) ⟨_, e⟩ ?_
  exact ⟨hz, its', n', r, e⟩
def rSetL : V → V → V → Hp → (Hp → Prop) → Prop := fun o i v H Q => ∃ p xs k j, o = .ref p ∧ i = .int k ∧ H p = some (.lst xs) ∧ ixN xs.length k = some j ∧ Q (upd H p (.lst (xs.set j v)))
theorem set_list : PSet X rSetL := by
  intro pins s σ H o i v ov iv u Q I ro ri rv h
  obtain ⟨p, xs, k, j, rfl, rfl, hp, hj, q⟩ := h
  cases ro
  obtain ⟨t, rfl⟩ := ri
  obtain ⟨its, n, r, ho, hz⟩ := I.lst hp
  obtain ⟨h1, h2, h3, h4⟩ := ixN_seq hj
  have hl := r.length
  have hn := line63
  have I' : Inv X pins σ (upd H p (.lst (xs.set j v))) { s with heap := s.heap.update p (Obj.mapSeq (·.setIfInBounds j u)) } :=
    I.lstUpd hp ho (mapSeq_set its n j u) (r.set rv j) (by rw [List.length_set]; exact hz) s.toks
  by_cases h0 : 0 ≤ k
  · have hk : k.toNat = j := by
      rw [seqIndex_of h0 h4] at h1
      exact Option.some.inj h1
    exact PySem.W.ki_setAt ho h0 (by omega) (by rw [List.size_toArray, ← hl]; exact h4) (by rw [hk]; exact ⟨_, I', q⟩)
  · have hk : (k + (its.toArray.size : Int)).toNat = j := by
      rw [seqIndex_neg (by omega) h3] at h1
      rw [List.size_toArray, ← hl]
      exact Option.some.inj h1
    exact PySem.W.ki_setBack ho (by omega) (by rw [List.size_toArray, ← hl]; exact h3) (by omega) (by rw [hk]; exact ⟨_, I', q⟩)
theorem slice_bounds (lo hi : Option Int) (n : Nat) : (sliceBounds lo hi none n).1 = ((HT.sIx n 0 lo : Nat) : Int) ∧ (sliceBounds lo hi none n).2.1 = ((HT.sIx n n hi : Nat) : Int) ∧ (sliceBounds lo hi none n).2.2 = 1 := by
  refine ⟨?_, ?_, rfl⟩
  · cases lo with
    | none => simp [sliceBounds, HT.sIx]
    | some i =>
      simp only [sliceBounds, HT.sIx, Option.getD_none, show (1 : Int) > 0 by decide, if_true]
      by_cases h : i < 0
      · simp only [h, if_true] <;> omega
      · simp only [h, if_false] <;> omega
  · cases hi with
    | none => simp [sliceBounds, HT.sIx]
    | some i =>
      simp only [sliceBounds, HT.sIx, Option.getD_none, show (1 : Int) > 0 by decide, if_true]
      by_cases h : i < 0
      · simp only [h, if_true] <;> omega
      · simp only [h, if_false] <;> omega
theorem slicePick_cut (its : List Value) (lo hi : Option Int) : slicePick its.toArray lo hi none = ((its.drop (HT.sIx its.length 0 lo)).take (HT.sIx its.length its.length hi - HT.sIx its.length 0 lo)).toArray := by
  obtain ⟨h1, h2, h3⟩ := slice_bounds lo hi its.toArray.size
  unfold slicePick
  rw [h1, h2, h3]
  simp only [sliceRange_one, pick_run, List.size_toArray] <;> rfl
def rSlL (K : PySem.W.Frag) : V → Option Int → Option Int → Hp → VK → Prop := fun x lo hi H Q => ∃ a xs, x = .ref a ∧ SqL K H a xs ∧ ∀ p, H p = none → Q (.ref p) (upd H p (.lst (cutV xs lo hi)))
theorem sl_list : SlR X (rSlL X.K) := by
  intro pins s σ H x v vl vu lo hi sl Q I rx hs pl pu h
  obtain ⟨a, xs, rfl, hx, q⟩ := h
  cases rx
  obtain ⟨its, r, ht, hz⟩ := I.list hx
  have hlen := r.length
  refine ⟨"list", _, slot_list_getitem.lookup, ht.isList.typeIs, ?_⟩
  refine wpAny_getItem_list_slice ht.isList hs pl pu .none (by simp) ?_ (by rw [List.size_toArray] <;> omega)
  rw [slicePick_cut, ← hlen]
  refine ⟨.ref s.heap.objs.size, _, I.laid (t' := s.toks) (o := .lst (cutV xs lo hi)) (fun b ob q => Heap.get?_push_of_some _ q) (Nat.le_refl _) ?_, rfl, q _ (I.hok.fresh (Nat.le_refl _))⟩
  exact ⟨Nat.le_trans (cutV_length xs lo hi) hz, _, 0, (r.drop (HT.sIx xs.length 0 lo)).take (HT.sIx xs.length xs.length hi - HT.sIx xs.length 0 lo), Heap.get?_push_size _ rfl⟩
def flatV : V → Bool
  | .non => true
  | .bl _ => true
  | .int _ => true
  | .str _ => true
  | _ => false
def eqV : V → V → Bool
  | .non, .non => true
  | .bl a, .bl b => a == b
  | .bl a, .int b => (if a then 1 else 0) == b
  | .int a, .bl b => a == (if b then 1 else 0)
  | .int a, .int b => a == b
  | .str a, .str b => a == b
  | _, _ => false
theorem eqAt_V {A : Around} {s : Shared} {y x : V} {u v : Value} (ry : RelV y u) (rx : RelV x v) (fy : flatV y = true) (fx : flatV x = true) : SeqAt.EqAt A s u v (eqV y x) := by
  cases y with
  | non =>
    cases ry
    cases x with
    | non => cases rx; exact SeqAt.EqAt.same _
    | bl b => cases rx; exact SeqAt.EqAt.none_bool b
    | int b => obtain ⟨t, rfl⟩ := rx; exact SeqAt.EqAt.none_int b t
    | str b => obtain ⟨t, rfl⟩ := rx; exact SeqAt.EqAt.none_str b t
    | _ => exact absurd (show false = true from fx) Bool.false_ne_true
  | bl a =>
    cases ry
    cases x with
    | non => cases rx; exact SeqAt.EqAt.bool_none a
    | bl b => cases rx; exact SeqAt.EqAt.bool_bool a b
    | int b => obtain ⟨t, rfl⟩ := rx; exact SeqAt.EqAt.bool_int a b t
    | str b => obtain ⟨t, rfl⟩ := rx; exact SeqAt.EqAt.bool_str a b t
    | _ => exact absurd (show false = true from fx) Bool.false_ne_true
  | int a =>
    obtain ⟨t', rfl⟩ := ry
    cases x with
    | non => cases rx; exact SeqAt.EqAt.int_none a t'
    | bl b => cases rx; exact SeqAt.EqAt.int_bool a t' b
    | int b => obtain ⟨t, rfl⟩ := rx; exact SeqAt.EqAt.int_int a t' b t
    | str b => obtain ⟨t, rfl⟩ := rx; exact SeqAt.EqAt.int_str a t' b t
    | _ => exact absurd (show false = true from fx) Bool.false_ne_true
  | str a =>
    obtain ⟨t', rfl⟩ := ry
    cases x with
    | non => cases rx; exact SeqAt.EqAt.str_none a t'
    | bl b => cases rx; exact SeqAt.EqAt.str_bool a t' b
    | int b => obtain ⟨t, rfl⟩ := rx; exact SeqAt.EqAt.str_int a t' b t
    | str b => obtain ⟨t, rfl⟩ := rx; exact SeqAt.EqAt.str_str a t' b t
    | _ => exact absurd (show false = true from fx) Bool.false_ne_true
  | _ => exact absurd (show false = true from fy) Bool.false_ne_true
def eqU (x : V) (u : Value) : Bool := match u with
  | .none => eqV .non x
  | .bool b => eqV (.bl b) x
  | .int i _ => eqV (.int i) x
  | .str z _ => eqV (.str z) x
  | _ => false
theorem eqU_of {x y : V} {u : Value} (r : RelV y u) (f : flatV y = true) : eqU x u = eqV y x := by
  cases y with
  | non => cases r; rfl
  | bl b => cases r; rfl
  | int i => obtain ⟨t, rfl⟩ := r; rfl
  | str z => obtain ⟨t, rfl⟩ := r; rfl
  | _ => exact absurd (show false = true from f) Bool.false_ne_true
theorem any_eqU {x : V} : ∀ {xs : List V} {us : List Value}, Vals xs us → xs.all flatV = true → us.any (eqU x) = xs.any fun y => eqV y x
  | _, _, .nil, _ => rfl
  | y :: xs, u :: us, .cons r t, f => by
    rw [List.all_cons, Bool.and_eq_true] at f
    rw [List.any_cons, List.any_cons, eqU_of r f.1, any_eqU t f.2]
theorem mem_eqAt {A : Around} {s : Shared} {x : V} {v : Value} (rx : RelV x v) (fx : flatV x = true) : ∀ {xs : List V} {us : List Value}, Vals xs us → xs.all flatV = true → ∀ u ∈ us, SeqAt.EqAt A s u v (eqU x u)
  | _, _, .nil, _ => fun u hu => by cases hu
  | y :: xs, u :: us, .cons r t, f => fun u' hu => by
    rw [List.all_cons, Bool.and_eq_true] at f
    rcases List.mem_cons.mp hu with rfl | hu
    · rw [eqU_of r f.1]; exact eqAt_V r rx f.1 fx
    · exact mem_eqAt rx fx t f.2 u' hu
def inV (x : V) (xs : List V) : Bool := xs.any fun y => eqV y x
def rIn (K : PySem.W.Frag) (neg : Bool) : R2 := fun x y H Q => ∃ p xs, y = .ref p ∧ (SqL K H p xs ∨ SqT K H p xs) ∧ flatV x = true ∧ xs.all flatV = true ∧ Q (.bl (if neg then !inV x xs else inV x xs)) H
theorem op_in_seq : OpR X (compareOp .In) (rIn X.K false) := by
  intro pins s σ H x y v u Q I rx ry h
  obtain ⟨p, xs, rfl, hq, fx, fs, q⟩ := h
  cases ry
  rcases hq with hq | hq
  · obtain ⟨its, r, pl, hz⟩ := I.list hq
    refine SeqAt.in_listAt (eqU x) pl.isList (fun w hw => mem_eqAt rx fx r fs w (by simpa using hw)) ⟨.bl _, H, I, rfl, ?_⟩
    rw [show its.toArray.any (eqU x) = its.any (eqU x) by simp, any_eqU r fs]
    exact q
  · obtain ⟨its, r, pl, hz⟩ := I.tuple hq
    refine SeqAt.in_tupleAt (eqU x) pl (fun w hw => mem_eqAt rx fx r fs w (by simpa using hw)) ⟨.bl _, H, I, rfl, ?_⟩
    rw [show its.toArray.any (eqU x) = its.any (eqU x) by simp, any_eqU r fs]
    exact q
theorem op_notIn_seq : OpR X (compareOp .NotIn) (rIn X.K true) := by
  intro pins s σ H x y v u Q I rx ry h
  obtain ⟨p, xs, rfl, hq, fx, fs, q⟩ := h
  cases ry
  rcases hq with hq | hq
  · obtain ⟨its, r, pl, hz⟩ := I.list hq
    refine SeqAt.notIn_listAt (eqU x) pl.isList (fun w hw => mem_eqAt rx fx r fs w (by simpa using hw)) ⟨.bl _, H, I, rfl, ?_⟩
    rw [show its.toArray.any (eqU x) = its.any (eqU x) by simp, any_eqU r fs]
    exact q
  · obtain ⟨its, r, pl, hz⟩ := I.tuple hq
    refine SeqAt.notIn_tupleAt (eqU x) pl (fun w hw => mem_eqAt rx fx r fs w (by simpa using hw)) ⟨.bl _, H, I, rfl, ?_⟩
    rw [show its.toArray.any (eqU x) = its.any (eqU x) by simp, any_eqU r fs]
    exact q
theorem op_notIn_str : OpR X (compareOp .NotIn) (fun x y H Q => ∃ i j, x = .str i ∧ y = .str j ∧ Q (.bl (!(!(Builtin.Str.occurrences j i 0 j.length 1).isEmpty))) H) := by
  intro pins s σ H x y v u Q I rx ry h
  obtain ⟨i, j, rfl, rfl, q⟩ := h
  obtain ⟨t, rfl⟩ := rx
  obtain ⟨t', rfl⟩ := ry
  exact notIn_str ⟨.bl _, H, I, rfl, q⟩
theorem call_len_seq : CallR X (.builtin "len") (fun xs H Q => ∃ p ys, xs = [.ref p] ∧ (SqL X.K H p ys ∨ SqT X.K H p ys) ∧ Q (.int ys.length) H) := by
  intro pins s σ H xs us Q I r h
  obtain ⟨p, ys, rfl, hq, q⟩ := h
  obtain ⟨u, rfl, rx⟩ := vals1 r
  cases rx
  have hn := line63
  rcases hq with hq | hq
  · obtain ⟨its, r', pl, hz⟩ := I.list hq
    have hlen := r'.length
    exact Calls.call_len_list pl.isList (by simp only [List.size_toArray] <;> omega) ⟨.int ys.length, H, I.tok _, ⟨s.toks + 1, by rw [List.size_toArray, hlen]⟩, q⟩
  · obtain ⟨its, r', pl, hz⟩ := I.tuple hq
    have hlen := r'.length
    exact len_tuple pl (by simp only [List.size_toArray] <;> omega) ⟨.int ys.length, H, I.tok _, ⟨s.toks + 1, by rw [List.size_toArray, hlen]⟩, q⟩
theorem call_len_str : CallR X (.builtin "len") (fun xs H Q => ∃ z, xs = [.str z] ∧ z.length ≤ sizeLine ∧ Q (.int z.length) H) := by
  intro pins s σ H xs us Q I r h
  obtain ⟨z, rfl, hz, q⟩ := h
  obtain ⟨u, rfl, t, rfl⟩ := vals1 r
  have hn := line63
  exact len_str (by omega) ⟨.int z.length, H, I.tok _, ⟨_, rfl⟩, q⟩
theorem CallR.or {f : Value} {r r' : List V → Hp → VK → Prop} (h : CallR X f r) (h' : CallR X f r') : CallR X f (fun xs H Q => r xs H Q ∨ r' xs H Q) := by
  intro pins s σ H xs us Q I rs q
  rcases q with q | q
  · exact h pins s σ H xs us Q I rs q
  · exact h' pins s σ H xs us Q I rs q
theorem call_tuple_of : CallR X (.type "tuple") (fun xs H Q => ∃ p ys, xs = [.ref p] ∧ ((SqL X.K H p ys ∧ ∀ l, H l = none → Q (.ref l) (upd H l (.tup ys))) ∨ (SqT X.K H p ys ∧ Q (.ref p) H))) := by
  intro pins s σ H xs us Q I r h
  obtain ⟨p, ys, rfl, h⟩ := h
  obtain ⟨u, rfl, rx⟩ := vals1 r
  cases rx
  rcases h with ⟨hq, q⟩ | ⟨hq, q⟩
  · obtain ⟨its, r', pl, hz⟩ := I.list hq
    have hlen := r'.length
    refine call_tuple_list pl.isList (fun h' kp => ?_) (by simp only [List.size_toArray] <;> omega)
    have I1 : Inv X pins σ H { s with heap := h' } := I.kept (t' := s.toks) kp
    have I2 : Inv X pins σ (upd H h'.objs.size (.tup ys)) { s with heap := h'.push { cls := .type "tuple", data := .seq its.toArray } } :=
      I1.laid (t' := s.toks) (fun b o e => Heap.get?_push_of_some _ e) (Nat.le_refl _) (show ObjOk X.prog X.w _ _ _ (.tup ys) from ⟨hz, its, r', IsTup.new _ _⟩)
    exact ⟨.ref h'.objs.size, _, I2, rfl, q _ (I1.hok.fresh (Nat.le_refl _))⟩
  · obtain ⟨its, r', pl, hz⟩ := I.tuple hq
    exact call_tuple_same pl ⟨.ref p, H, I, rfl, q⟩
def tyV (K : PySem.W.Frag) (T : String) (x : V) (H : Hp) : Prop := match x with
  | .str _ => T = "str"
  | .int _ => T = "int"
  | .ref p => (T = "list" ∧ ∃ xs, SqL K H p xs) ∨ (T = "tuple" ∧ ∃ o, K.lookup p = some o ∧ o.cls = .type "tuple" ∧ o.dict = none) ∨
      (T = "dict" ∧ ((∃ kvs, H p = some (.dK kvs)) ∨ ∃ kvs, H p = some (.dT kvs))) ∨ (T = "set" ∧ ∃ S n, H p = some (.set S n))
  | _ => False
theorem tyV_is {pins : List (Addr × Obj)} {σ : St} {H : Hp} {s : Shared} {T : String} {x : V} {v : Value} (I : Inv X pins σ H s) (r : RelV x v) (ty : tyV X.K T x H) :
    s.TypeIs v T ∧ ∀ a, v = .ref a → ∃ ob, s.heap.get? a = some ob ∧ ob.dict = none := by
  cases x with
  | str z =>
    obtain ⟨t, rfl⟩ := r
    cases (show T = "str" from ty)
    exact ⟨typeIs_str s z t, fun _ e => nomatch e⟩
  | int i =>
    obtain ⟨t, rfl⟩ := r
    cases (show T = "int" from ty)
    exact ⟨typeIs_int s i t, fun _ e => nomatch e⟩
  | ref p =>
    cases r
    rcases ty with ⟨rfl, xs, hq⟩ | ⟨rfl, o, hk, hc, hd⟩ | ⟨rfl, hk⟩ | ⟨rfl, S, n, hk⟩
    · obtain ⟨its, _, pl, _⟩ := I.list hq
      refine ⟨pl.isList.typeIs, fun a e => ?_⟩
      cases e
      obtain ⟨o, n, e, c, hd, _⟩ := pl
      exact ⟨o, e, hd⟩
    · refine ⟨⟨o, I.kIn p o hk, hc⟩, fun a e => ?_⟩
      cases e
      exact ⟨o, I.kIn _ o hk, hd⟩
    · have z : ∃ o, s.heap.get? p = some o ∧ o.ExactDict := by
        rcases hk with ⟨kvs, hk⟩ | ⟨kvs, hk⟩
        · obtain ⟨_, _, _, _, o, _, _, e, ex, _⟩ := I.hok p _ hk
          exact ⟨o, e, ex⟩
        · obtain ⟨_, _, _, _, o, _, _, e, ex, _⟩ := I.hok p _ hk
          exact ⟨o, e, ex⟩
      obtain ⟨o, e, ex⟩ := z
      refine ⟨⟨o, e, ex.1⟩, fun a e2 => ?_⟩
      cases e2
      exact ⟨o, e, ex.2.1⟩
    · obtain ⟨o, _, _, _, e, ex, _⟩ := I.hok p _ hk
      refine ⟨⟨o, e, ex.1⟩, fun a e2 => ?_⟩
      cases e2
      exact ⟨o, e, ex.2.1⟩
  | _ => exact False.elim ty
def tBM0 (K : PySem.W.Frag) (T : String) (r : V → List V → Hp → VK → Prop) (to : TE) : TE := fun σ H Q => to σ H fun x H1 => tyV K T x H1 ∧ r x [] H1 Q
def tBM (K : PySem.W.Frag) (T : String) (r : V → List V → Hp → VK → Prop) (to : TE) (t : TA) : TE := fun σ H Q => to σ H fun x H1 => tyV K T x H1 ∧ t σ H1 fun xs H2 => r x xs H2 Q
variable {o e : Expr} {es : List Expr} {to : TE} {t : TA} {name : Str} {apos cpos : Pos} {T id : String} {r : V → List V → Hp → VK → Prop}
theorem pe_bm0 (pa : PlainAttrs T) (slot : Slot T name id) (hty : typeOf (.builtin id) = pure (.type "method_descriptor")) (hm : MtR X id r) (ho : PE X o to)
    (hbase : attributeBase o name X.env (eval o X.env) = eval o X.env := by rfl) (hline : (apos.endLine == cpos.line) = true := by rfl) : PE X (.Call (.Attribute o name apos) [] [] cpos) (tBM0 X.K T r to) := by
  intro pins s σ H Q I h
  refine wpAny_Call_method0_late hbase hline (thn (ho pins s σ H _ I h) fun v s1 ⟨x, H1, I1, r1, ty, q1⟩ => ?_)
  obtain ⟨h1, h2⟩ := tyV_is I1 r1 ty
  exact ⟨T, id, pa, slot, hty, h1, h2, Calls.callWith_builtin rfl (PySem.evalArgs_none (hm pins s1 σ H1 x [] v [] Q I1 r1 .nil q1))⟩
theorem pe_bm (pa : PlainAttrs T) (slot : Slot T name id) (hty : typeOf (.builtin id) = pure (.type "method_descriptor")) (hm : MtR X id r) (ho : PE X o to) (ha : PA X (e :: es) t)
    (hbase : attributeBase o name X.env (eval o X.env) = eval o X.env := by rfl)
    (hfew : ((backTo cpos (starEach (e :: es) X.env)).all (fun x => !x.1) && (backToKw cpos (keywordEach [] X.env)).all (fun x => x.1.isSome)
      && decide ((e :: es).length + ([] : List Keyword).length + (if ([] : List Keyword).isEmpty then 0 else 1) < 30)) = true := by rfl)
    (hline : (apos.endLine == cpos.line) = true := by rfl) (hs : starEach (e :: es) X.env = (false, eval e X.env) :: starEach es X.env := by rfl) (hplain : (backTo cpos (starEach es X.env)).any (·.1) = false := by rfl) :
    PE X (.Call (.Attribute o name apos) (e :: es) [] cpos) (tBM X.K T r to t) := by
  intro pins s σ H Q I h
  refine wpAny_Call_method_late hbase hfew hline rfl (thn (ho pins s σ H _ I h) fun v s1 ⟨x, H1, I1, r1, ty, q1⟩ => ?_)
  obtain ⟨h1, h2⟩ := tyV_is I1 r1 ty
  refine ⟨T, id, pa, slot, hty, h1, h2, ?_⟩
  have hA := ha cpos pins s1 σ H1 _ I1 q1
  rw [hs] at hA ⊢
  refine Calls.callWith_builtin (by show (false || (backTo cpos (starEach es X.env)).any (·.1)) = false; rw [hplain] <;> rfl) (Calls.evalArgs_plain ?_)
  exact thn hA fun us s2 ⟨vs, H2, I2, r2, q2⟩ => hm pins s2 σ H2 x vs v us Q I2 r1 r2 q2
end
end L2
namespace L2
open PySem PySem.Spec PyProof.Rows
def MtM (X : Cx) (id : String) (r : V → List V → Hp → VK → Prop) : Prop :=
  ∀ (pins : List (Addr × Obj)) (s : Shared) (σ : St) (H : Hp) (x : V) (xs : List V) (v : Value) (us : List Value) (Q : VK), Inv X pins σ H s → RelV x v → Vals xs us → r x xs H Q →
    wpAny (model X.prog X.w) X.A (call (.builtin id) (v :: us)) (EP X pins σ Q) X.xe s
theorem Vals.one : ∀ {x : V} {us : List Value}, Vals [x] us → ∃ u, us = [u] ∧ RelV x u
  | _, _, .cons r .nil => ⟨_, rfl, r⟩
theorem Vals.zero : ∀ {us : List Value}, Vals [] us → us = []
  | _, .nil => rfl
theorem Vals.dropLast {xs : List V} {us : List Value} (h : Vals xs us) : Vals xs.dropLast us.dropLast := by
  induction h with
  | nil => exact .nil
  | cons r t ih =>
    cases t with
    | nil => exact .nil
    | cons q t' => exact .cons r ih
theorem Vals.reverse {xs : List V} {us : List Value} (h : Vals xs us) : Vals xs.reverse us.reverse := by
  induction h with
  | nil => exact .nil
  | cons r t ih => rw [List.reverse_cons, List.reverse_cons]; exact Vals.append ih (.cons r .nil)
theorem Vals.rep {xs : List V} {us : List Value} (h : Vals xs us) : ∀ k : Nat, Vals (List.replicate k xs).flatten (List.replicate k us).flatten
  | 0 => .nil
  | k + 1 => by
    rw [List.replicate_succ, List.replicate_succ, List.flatten_cons, List.flatten_cons]
    exact Vals.append h (Vals.rep h k)
theorem erase_last {α : Type} (l : List α) : l.eraseIdx (l.length - 1) = l.dropLast := by
  induction l with
  | nil => rfl
  | cons a r ih =>
    cases r with
    | nil => rfl
    | cons b r =>
      have e : (a :: b :: r).length - 1 = ((b :: r).length - 1) + 1 := by
        have h1 : (a :: b :: r).length = r.length + 2 := rfl
        have h2 : (b :: r).length = r.length + 1 := rfl
        omega
      rw [e, List.eraseIdx_cons_succ, ih]
      all_goals rfl
theorem foldl_rep (its : List Value) : ∀ (k : Nat) (acc : List Value),
    List.foldl (fun x1 x2 => x1 ++ x2) acc.toArray (List.replicate k its.toArray) = (acc ++ (List.replicate k its).flatten).toArray
  | 0, acc => by simp
  | k + 1, acc => by
    have e : acc.toArray ++ its.toArray = (acc ++ its).toArray := by simp
    have e2 : (acc ++ its) ++ (List.replicate k its).flatten = acc ++ (List.replicate (k + 1) its).flatten := by
      rw [List.replicate_succ, List.flatten_cons, List.append_assoc]
    rw [← e2, ← foldl_rep its k (acc ++ its), ← e, List.replicate_succ, List.foldl_cons]
section
variable {X : Cx} {pins : List (Addr × Obj)} {σ : St} {H : Hp} {s : Shared} {l b : Addr} {xs ys zs : List V}
theorem Inv.lset {its its' : List Value} {n : Nat} {f : Array Value → Array Value} {t' : Nat} (I : Inv X pins σ H s) (hH : H l = some (.lst xs))
    (e : s.heap.get? l = some { cls := .type "list", data := .seq its.toArray n }) (hf : f its.toArray = its'.toArray) (hv : Vals ys its') (hz : ys.length ≤ sizeLine) (ht : 0 < t' := by first | exact Nat.succ_pos _ | assumption | exact Inv.tk ‹_› | omega) :
    Inv X pins σ (upd H l (.lst ys)) { s with heap := s.heap.update l (Obj.mapSeq f), toks := t' } := by
  have q := PySem.IsL.update e f
  rw [hf] at q
  refine I.write (x := l) (e := l) (by rw [hH]; exact trivial) (.inl rfl) (fun b' u hb hu => (Heap.get?_update_other s.heap (Obj.mapSeq f) (Ne.symm hb)).trans hu) ⟨_, q⟩ ?_
  exact ⟨hz, its', _, hv, q⟩
theorem Inv.lnew {its : List Value} {t' : Nat} (I : Inv X pins σ H s) (hv : Vals ys its) (hz : ys.length ≤ sizeLine) (ht : 0 < t' := by first | exact Nat.succ_pos _ | assumption | exact Inv.tk ‹_› | omega) :
    Inv X pins σ (upd H s.heap.objs.size (.lst ys)) { s with heap := s.heap.push { cls := .type "list", data := .seq its.toArray }, toks := t' } :=
  I.laid (fun _ _ q => Heap.get?_push_of_some _ q) (Nat.le_refl _) ⟨hz, its, 0, hv, Heap.get?_push_size _ rfl⟩
theorem Inv.fresh (I : Inv X pins σ H s) : H s.heap.objs.size = none := I.hok.fresh (Nat.le_refl _)
theorem Inv.lstM (I : Inv X pins σ H s) (hH : H l = some (.lst xs)) : xs.length ≤ sizeLine ∧ ∃ (its : List Value) (n : Nat), Vals xs its ∧ xs.length = its.length ∧ s.heap.get? l = some { cls := .type "list", data := .seq its.toArray n } := by
  obtain ⟨z, its, n, r, e⟩ := I.hok l _ hH
  exact ⟨z, its, n, r, r.length, e⟩
theorem notLongL {n : Nat} (h : n ≤ sizeLine) : Builtin.List.listTooLong n = false := by
  unfold Builtin.List.listTooLong
  exact decide_eq_false (by omega)
end
section
variable {X : Cx}
def rAppend : V → List V → Hp → VK → Prop := fun x vs H Q => ∃ l xs y, x = .ref l ∧ vs = [y] ∧ H l = some (.lst xs) ∧ xs.length < sizeLine ∧ Q .non (upd H l (.lst (xs ++ [y])))
theorem mt_append : MtM X "list.append" rAppend := by
  intro pins s σ H x vs v us Q I rx rv h
  obtain ⟨l, xs, y, rfl, rfl, hH, hz, q⟩ := h
  cases rx
  obtain ⟨u, rfl, ru⟩ := rv.one
  obtain ⟨z, its, n, r, hl, e⟩ := I.lstM hH
  refine call_meets F.slot_list_append ⟨_, e, rfl⟩ F.entry_list_append (F.args_list_append_2 _ _) (PySem.list_append l its.toArray n u (by rw [List.size_toArray]; omega)) ⟨e, ?_⟩
  refine ⟨.non, _, I.lset (its' := its ++ [u]) hH e (by simp) (r.append (.cons ru .nil)) ?_, rfl, q⟩
  rw [List.length_append, List.length_singleton]
  omega
def rExtend : V → List V → Hp → VK → Prop := fun x vs H Q => ∃ l b xs zs, x = .ref l ∧ vs = [.ref b] ∧ H l = some (.lst xs) ∧ H b = some (.lst zs) ∧ xs.length + zs.length ≤ sizeLine ∧ Q .non (upd H l (.lst (xs ++ zs)))
theorem mt_extend : MtM X "list.extend" rExtend := by
  intro pins s σ H x vs v us Q I rx rv h
  obtain ⟨l, b, xs, zs, rfl, rfl, hH, hB, hz, q⟩ := h
  cases rx
  obtain ⟨u, rfl, ru⟩ := rv.one
  cases ru
  obtain ⟨z, its, n, r, hl, e⟩ := I.lstM hH
  obtain ⟨z2, its2, n2, r2, hl2, e2⟩ := I.lstM hB
  have hsz : its.toArray.size + its2.toArray.size ≤ sizeLine := by rw [List.size_toArray, List.size_toArray]; omega
  have hlong : ¬ (!its.toArray.isEmpty && Builtin.List.listTooLong (its.toArray.size + its2.toArray.size)) = true := by
    rw [notLongL hsz, Bool.and_false]
    exact Bool.false_ne_true
  refine call_meets F.slot_list_extend ⟨_, e, rfl⟩ F.entry_list_extend (F.args_list_extend_2 _ _)
    (AutoSeq1.list_extend_list_list_0 l its.toArray n b its2.toArray n2 hlong (by rw [List.size_toArray]; omega) (by omega)) ⟨e, e2, ?_⟩
  refine ⟨.non, _, I.lset (its' := its ++ its2) hH e (by simp) (r.append r2) ?_, rfl, q⟩
  rw [List.length_append]
  omega
def rPop : V → List V → Hp → VK → Prop := fun x vs H Q => ∃ l xs y, x = .ref l ∧ vs = [] ∧ H l = some (.lst xs) ∧ xs[xs.length - 1]? = some y ∧ Q y (upd H l (.lst xs.dropLast))
theorem mt_pop : MtM X "list.pop" rPop := by
  intro pins s σ H x vs v us Q I rx rv h
  obtain ⟨l, xs, y, rfl, rfl, hH, hy, q⟩ := h
  cases rx
  have hus := rv.zero
  subst hus
  obtain ⟨z, its, n, r, hl, e⟩ := I.lstM hH
  obtain ⟨u, hu, ru⟩ := r.get hy
  have hy' : its.toArray[its.toArray.size - 1]? = some u := by
    show its.toArray[its.length - 1]? = some u
    rw [← Array.getElem?_toList, ← hl]
    exact hu
  refine call_meets F.slot_list_pop ⟨_, e, rfl⟩ F.entry_list_pop (F.args_list_pop_1 _) (MeetsSeq.list_pop_last l its.toArray n u hy' (by rw [List.size_toArray]; omega)) ⟨e, ?_⟩
  refine ⟨y, _, I.lset (its' := its.dropLast) hH e ?_ r.dropLast ?_, ru, q⟩
  · show its.toArray.eraseIdxIfInBounds (its.toArray.size - 1) = its.dropLast.toArray
    rw [List.size_toArray, List.eraseIdxIfInBounds_toArray, erase_last]
  · rw [List.length_dropLast]
    omega
def rCat : R2 := fun x y H Q => ∃ l b xs zs, x = .ref l ∧ y = .ref b ∧ H l = some (.lst xs) ∧ H b = some (.lst zs) ∧ xs.length + zs.length ≤ sizeLine ∧ ∀ p, H p = none → Q (.ref p) (upd H p (.lst (xs ++ zs)))
theorem op_cat : OpR X (binaryOp .Add) rCat := by
  intro pins s σ H x y v u Q I rx ry h
  obtain ⟨l, b, xs, zs, rfl, rfl, hH, hB, hz, q⟩ := h
  cases rx
  cases ry
  obtain ⟨z, its, n, r, hl, e⟩ := I.lstM hH
  obtain ⟨z2, its2, n2, r2, hl2, e2⟩ := I.lstM hB
  refine PySem.P.add_list e e2 ?_ (by rw [List.size_toArray, List.size_toArray]; omega)
  have ea : its.toArray ++ its2.toArray = (its ++ its2).toArray := by simp
  rw [ea]
  exact ⟨.ref _, _, I.lnew (t' := s.toks) (r.append r2) (by rw [List.length_append]; omega), rfl, q _ I.fresh⟩
def rRep : R2 := fun x y H Q => ∃ l k xs, x = .ref l ∧ y = .int k ∧ H l = some (.lst xs) ∧ -(2 ^ 63) ≤ k ∧ k < 2 ^ 63 ∧ xs.length * k.toNat ≤ sizeLine ∧
  ∀ p, H p = none → Q (.ref p) (upd H p (.lst (List.replicate k.toNat xs).flatten))
theorem len_rep {α : Type} (xs : List α) (k : Nat) : (List.replicate k xs).flatten.length = k * xs.length := by
  induction k with
  | zero => simp
  | succ k ih => rw [List.replicate_succ, List.flatten_cons, List.length_append, ih, Nat.succ_mul, Nat.add_comm]
theorem op_rep : OpR X (binaryOp .Mult) rRep := by
  intro pins s σ H x y v u Q I rx ry h
  obtain ⟨l, k, xs, rfl, rfl, hH, h1, h2, hz, q⟩ := h
  cases rx
  obtain ⟨t, rfl⟩ := ry
  obtain ⟨z, its, n, r, hl, e⟩ := I.lstM hH
  have hlen : its.toArray.size * k.toNat ≤ sizeLine := by rw [List.size_toArray, ← hl]; exact hz
  have hcap : ¬ its.toArray.size * k.toNat > (2 ^ 63 - 1) / 8 := by
    have : (sizeLine : Nat) ≤ (2 ^ 63 - 1) / 8 := by decide
    omega
  have hfit : ¬ (!Builtin.List.listFitsIndex k) = true := by
    rw [fitsIndex_both h1 h2]
    exact Bool.false_ne_true
  have hlong : ¬ Builtin.List.listTooLong (its.toArray.size * k.toNat) = true := by
    rw [notLongL hlen]
    exact Bool.false_ne_true
  have hnew : List.foldl (fun x1 x2 => x1 ++ x2) #[] (List.replicate (if its.toArray.isEmpty = true then 0 else k.toNat) its.toArray) = (List.replicate k.toNat its).flatten.toArray := by
    have f0 : ∀ m : Nat, List.foldl (fun x1 x2 => x1 ++ x2) #[] (List.replicate m its.toArray) = (List.replicate m its).flatten.toArray := fun m => by
      have := foldl_rep its m []
      rw [List.nil_append] at this
      exact this
    rw [f0]
    cases its with
    | nil => simp
    | cons a r' => rw [if_neg (by simp)]
  refine wpAny_binaryOp_repeat_ref (T := "list") (U := "int") (by decide) ⟨_, e, rfl⟩ (fun s' => typeIs_int s' k t) noFill_list_mul F.fills_int_mul F.slot_int_rmul repeat_list F.slot_int_index.lookup
    (call_meets F.slot_int_rmul (typeIs_int s k t) F.entry_int_rmul (F.args_int_rmul_2 _ _) (int___rmul___int_list k t l its.toArray n)
      ⟨e, rfl, ⟨_, e, rfl⟩, call_meets F.slot_list_mul ⟨_, e, rfl⟩ F.entry_list_mul (F.args_list_mul_2 _ _) (AutoListH.list___mul___list_int_3 l its.toArray n k t hfit hcap hlong) ⟨e, ?_⟩⟩)
  rw [hnew]
  exact ⟨.ref _, _, I.lnew (t' := s.toks) (r.rep k.toNat) (by rw [len_rep, Nat.mul_comm]; exact hz), rfl, q _ I.fresh⟩
end
section
variable {prog : Program} {w : World} {A : Around} {E : Value → Shared → Prop} {s : Shared}
end
section
variable {X : Cx}
end
end L2
namespace L2
open PySem PySem.Spec PyProof.Rows
section
variable {κ : Type} [DecidableEq κ]
def valV (kvs : List (κ × V)) (k : κ) : Option V := (kvs.find? fun kv => decide (kv.1 = k)).map (·.2)
def putK (kvs : List (κ × V)) (k : κ) (v : V) : List (κ × V) :=
  if (kvs.any fun kv => decide (kv.1 = k)) = true then kvs.map (fun kv => if kv.1 = k then (kv.1, v) else kv) else kvs ++ [(k, v)]
theorem valV_pos {p : κ × V} {r : List (κ × V)} {k : κ} (e : p.1 = k) : valV (p :: r) k = some p.2 := by simp [valV, List.find?_cons, e]
theorem valV_neg {p : κ × V} {r : List (κ × V)} {k : κ} (e : ¬ p.1 = k) : valV (p :: r) k = valV r k := by simp [valV, List.find?_cons, e]
theorem valV_any (k : κ) : ∀ kvs : List (κ × V), (kvs.any fun kv => decide (kv.1 = k)) = (valV kvs k).isSome
  | [] => rfl
  | p :: r => by
    rw [List.any_cons]
    by_cases e : p.1 = k
    · simp only [valV_pos e, decide_eq_true e, Bool.true_or, Option.isSome_some]
    · rw [valV_neg e, decide_eq_false e, Bool.false_or]; exact valV_any k r
theorem length_putK (kvs : List (κ × V)) (k : κ) (v : V) : (putK kvs k v).length ≤ kvs.length + 1 := by
  unfold putK
  split
  · rw [List.length_map]; omega
  · rw [List.length_append, List.length_cons, List.length_nil]; omega
theorem RelO.isSome_eq {o : Option V} {u : Option Value} (r : RelO o u) : o.isSome = u.isSome := by
  cases o with
  | none => cases u with
    | none => rfl
    | some _ => exact (show False from r).elim
  | some _ => cases u with
    | none => exact (show False from r).elim
    | some _ => rfl
theorem KV.val {kvs : List (κ × V)} {vs : List (κ × Value)} (r : KV kvs vs) (k : κ) : RelO (valV kvs k) (valueAt vs k) := by
  unfold KV at r
  induction r with
  | nil => exact True.intro
  | @cons p q ps qs h t ih =>
    obtain ⟨h1, h2⟩ := h
    by_cases e : p.1 = k
    · have e' : q.1 = k := h1.symm.trans e
      have b : valueAt (q :: qs) k = some q.2 := by simp [valueAt, List.find?_cons, e']
      rw [valV_pos e, b]; exact h2
    · have e' : ¬ q.1 = k := fun z => e (h1.trans z)
      have b : valueAt (q :: qs) k = valueAt qs k := by simp [valueAt, List.find?_cons, e']
      rw [valV_neg e, b]; exact ih
theorem KV.any {kvs : List (κ × V)} {vs : List (κ × Value)} (r : KV kvs vs) (k : κ) : (kvs.any fun kv => decide (kv.1 = k)) = vs.any fun kv => decide (kv.1 = k) := by
  unfold KV at r
  induction r with
  | nil => rfl
  | cons h t ih => rw [List.any_cons, List.any_cons, ih, h.1]
theorem KV.repl {kvs : List (κ × V)} {vs : List (κ × Value)} (r : KV kvs vs) (k : κ) {y : V} {u : Value} (ry : RelV y u) :
    KV (kvs.map fun kv => if kv.1 = k then (kv.1, y) else kv) (vs.map fun kv => if kv.1 = k then (kv.1, u) else kv) := by
  unfold KV at r ⊢
  induction r with
  | nil => exact .nil
  | @cons p q ps qs h t ih =>
    rw [List.map_cons, List.map_cons]
    refine .cons ?_ ih
    obtain ⟨h1, h2⟩ := h
    by_cases e : p.1 = k
    · rw [if_pos e, if_pos (h1.symm.trans e)]; exact ⟨h1, ry⟩
    · rw [if_neg e, if_neg (fun z => e (h1.trans z))]; exact ⟨h1, h2⟩
theorem KV.put {kvs : List (κ × V)} {vs : List (κ × Value)} (r : KV kvs vs) (k : κ) {y : V} {u : Value} (ry : RelV y u) : KV (putK kvs k y) (stored vs k u) := by
  unfold putK stored
  rw [r.any k]
  by_cases e : (vs.any fun kv => decide (kv.1 = k)) = true
  · rw [if_pos e, if_pos e]; exact r.repl k ry
  · rw [if_neg e, if_neg e]; exact Paired.snoc r ⟨rfl, ry⟩
theorem KV.keys {kvs : List (κ × V)} {vs : List (κ × Value)} (r : KV kvs vs) : kvs.map (·.1) = vs.map (·.1) := by
  unfold KV at r
  induction r with
  | nil => rfl
  | cons h t ih => rw [List.map_cons, List.map_cons, ih, h.1]
theorem KV.length {kvs : List (κ × V)} {vs : List (κ × Value)} (r : KV kvs vs) : kvs.length = vs.length := Paired.length r
end
theorem kV_is {P : Program} {w : World} {k : Key} {u : Value} (r : RelV (kV k) u) : (mixKind P w).is k u = true := by
  cases k with
  | inl i => obtain ⟨t, e⟩ := (show ∃ t, u = Value.int i t from r); subst e; exact mixKind_int P w i t
  | inr x => obtain ⟨t, e⟩ := (show ∃ t, u = Value.str x t from r); subst e; exact mixKind_str P w x t
theorem items_are {P : Program} {w : World} : ∀ {ks : List Key} {us : List Value}, Vals (ks.map kV) us → ItemsAre (mixKind P w) ks us
  | [], _, r => by rw [List.map_nil] at r; cases r; exact .nil
  | k :: ks, _, r => by
    rw [List.map_cons] at r
    cases r with
    | cons h t => exact .cons (kV_is h) (items_are t)
abbrev KT (H : Hp) : List (List Key × V) → List (List Key × Addr × Value) → Prop := Paired fun p q => p.1 = q.1 ∧ H q.2.1 = some (.tup (p.1.map kV)) ∧ RelV p.2 q.2.2
theorem KT.val {H : Hp} {kvs : List (List Key × V)} {xs : List (List Key × Addr × Value)} (r : KT H kvs xs) (k : List Key) : RelO (valV kvs k) ((atKey xs k).map (·.2)) := by
  induction r with
  | nil => exact True.intro
  | @cons p q ps qs h t ih =>
    obtain ⟨h1, _, h2⟩ := h
    by_cases e : p.1 = k
    · have e' : q.1 = k := h1.symm.trans e
      have b : atKey (q :: qs) k = some q.2 := by simp [atKey, List.find?_cons, e']
      rw [valV_pos e, b]; exact h2
    · have e' : ¬ q.1 = k := fun z => e (h1.trans z)
      have b : atKey (q :: qs) k = atKey qs k := by simp [atKey, List.find?_cons, e']
      rw [valV_neg e, b]; exact ih
theorem KT.repl {H : Hp} {kvs : List (List Key × V)} {xs : List (List Key × Addr × Value)} (r : KT H kvs xs) (k : List Key) {y : V} {u : Value} (ry : RelV y u) :
    KT H (kvs.map fun kv => if kv.1 = k then (kv.1, y) else kv) (xs.map (putAt k u)) := by
  induction r with
  | nil => exact .nil
  | @cons p q ps qs h t ih =>
    rw [List.map_cons, List.map_cons]
    refine .cons ?_ ih
    obtain ⟨h1, h2, h3⟩ := h
    unfold putAt
    by_cases e : p.1 = k
    · rw [if_pos e, if_pos (h1.symm.trans e)]; exact ⟨h1, h2, ry⟩
    · rw [if_neg e, if_neg (fun z => e (h1.trans z))]; exact ⟨h1, h2, h3⟩
theorem KT.put {H : Hp} {kvs : List (List Key × V)} {xs : List (List Key × Addr × Value)} (r : KT H kvs xs) (k : List Key) {b : Addr} {y : V} {u : Value} (hb : H b = some (.tup (k.map kV))) (ry : RelV y u) :
    KT H (putK kvs k y) (storedH xs k b u) := by
  have e : (kvs.any fun kv => decide (kv.1 = k)) = (atKey xs k).isSome := by
    rw [valV_any, (r.val k).isSome_eq, Option.isSome_map]
  unfold putK storedH
  rw [e]
  by_cases q : (atKey xs k).isSome = true
  · rw [if_pos q, if_pos q]; exact r.repl k ry
  · rw [if_neg q, if_neg q]; exact Paired.snoc r ⟨rfl, hb, ry⟩
theorem KT.keeps {H H' : Hp} {kvs : List (List Key × V)} {xs : List (List Key × Addr × Value)} (r : KT H kvs xs) (ht : ∀ b ys, H b = some (.tup ys) → H' b = some (.tup ys)) : KT H' kvs xs :=
  Paired.mapP r fun _ _ z => ⟨z.1, ht _ _ z.2.1, z.2.2⟩
section
variable {P : Program} {w : World} {H : Hp} {h : Heap} {a : Addr}
theorem rd_of {u : HO} (ok : HOk P w H h) (e : Rd H a u) : ObjOk P w H h a u := e.ok ok
theorem dk_rd {kvs : List (Key × V)} (ok : HOk P w H h) (e : Rd H a (.dK kvs)) : kvs.length ≤ sizeLine ∧ (a == sysModules) = false ∧ ∃ vs, KV kvs vs ∧ h.DictOf (mixKind P w) a vs :=
  show ObjOk P w H h a (.dK kvs) from rd_of ok e
theorem dk_of {kvs : List (Key × V)} (ok : HOk P w H h) (e : H a = some (.dK kvs)) : kvs.length ≤ sizeLine ∧ (a == sysModules) = false ∧ ∃ vs, KV kvs vs ∧ h.DictOf (mixKind P w) a vs := dk_rd ok (.inl e)
theorem key_of {ks : List Key} (ok : HOk P w H h) (e : H a = some (.tup (ks.map kV))) : (tupleKind (mixKind P w)).is h ks a := by
  obtain ⟨_, its, r, o, h1, h2, n, h3⟩ := (show ObjOk P w H h a (.tup (ks.map kV)) from ok a _ e)
  exact ⟨o, its.toArray, n, h1, h2, h3, by simpa using items_are r⟩
theorem dt_rd {kvs : List (List Key × V)} (ok : HOk P w H h) (e : Rd H a (.dT kvs)) : kvs.length ≤ sizeLine ∧ (a == sysModules) = false ∧
    ∃ xs, KT H kvs xs ∧ h.DictOfH (tupleKind (mixKind P w)) a xs := by
  obtain ⟨z, y, xs, r, o, es, ep, h1, h2, h3, h4, h5⟩ := (show ObjOk P w H h a (.dT kvs) from rd_of ok e)
  refine ⟨z, y, xs, r, o, es, ep, h1, h2, h3, h4, fun x hx => ?_, h5⟩
  have all : ∀ {l : List (List Key × V)} {m : List (List Key × Addr × Value)}, KT H l m → ∀ x ∈ m, (tupleKind (mixKind P w)).is h x.1 x.2.1 := by
    intro l m q
    induction q with
    | nil => intro x hx; exact nomatch hx
    | @cons p q ps qs hq t ih =>
      intro x hx
      rcases List.mem_cons.mp hx with e | hx
      · subst e
        exact key_of ok (by rw [← hq.1]; exact hq.2.1)
      · exact ih x hx
  exact all r x hx
theorem dt_of {kvs : List (List Key × V)} (ok : HOk P w H h) (e : H a = some (.dT kvs)) : kvs.length ≤ sizeLine ∧ (a == sysModules) = false ∧
    ∃ xs, KT H kvs xs ∧ h.DictOfH (tupleKind (mixKind P w)) a xs := dt_rd ok (.inl e)
end
def DGet (H : Hp) (a : Addr) (y : V) (r : Option V) : Prop :=
  (∃ kvs k, Rd H a (.dK kvs) ∧ y = kV k ∧ r = valV kvs k) ∨ ∃ kvs k b, Rd H a (.dT kvs) ∧ y = .ref b ∧ H b = some (.tup (k.map kV)) ∧ r = valV kvs k
def DPut (H : Hp) (a : Addr) (y v : V) (H' : Hp) : Prop :=
  (∃ kvs k, H a = some (.dK kvs) ∧ y = kV k ∧ kvs.length < sizeLine ∧ H' = upd H a (.dK (putK kvs k v))) ∨
  ∃ kvs k b, H a = some (.dT kvs) ∧ y = .ref b ∧ H b = some (.tup (k.map kV)) ∧ kvs.length < sizeLine ∧ H' = upd H a (.dT (putK kvs k v))
theorem DPut.k {H : Hp} {a : Addr} {kvs : List (Key × V)} {k : Key} {v : V} (e : H a = some (.dK kvs)) (hl : kvs.length < sizeLine) : DPut H a (kV k) v (upd H a (.dK (putK kvs k v))) := .inl ⟨kvs, k, e, rfl, hl, rfl⟩
section
variable {X : Cx} {pins : List (Addr × Obj)} {σ : St} {H : Hp} {s : Shared} {a : Addr} {y v : V} {u r : Value} {o : Option V} {A : Around} {E : Value → Shared → Prop}
theorem Inv.big (I : Inv X pins σ H s) : sysModules < s.heap.objs.size := by
  have h : mainGlobals < s.heap.objs.size := (I.mod.glob.keeps I.bk).lt
  exact Nat.lt_trans (by decide) h
theorem d_getItem {Q : Value → Shared → Prop} (hu : A.units + 1 < cLine) (I : Inv X pins σ H s) (g : DGet H a y (some v)) (ry : RelV y u) (h : ∀ w' s', Inv X pins σ H s' → RelV v w' → Q w' s') :
    wpAny (model X.prog X.w) A (getItem (.ref a) u) Q E s := by
  rcases g with ⟨kvs, k, e, ey, l⟩ | ⟨kvs, k, b, e, ey, eb, l⟩
  · subst ey
    obtain ⟨z, hd, vs, rel, dd⟩ := dk_rd I.hok e
    obtain ⟨w', hw, rw'⟩ := RelO.some_of (v := v) (o := valueAt vs k) (by rw [l]; exact rel.val k)
    exact wpAny_getItem_of (kV_is ry) dd.mapOf hw (h w' _ (I.tok _) rw')
  · subst ey
    cases (show u = Value.ref b from ry)
    obtain ⟨z, hd, xs, rel, dd⟩ := dt_rd I.hok e
    obtain ⟨w', hw, rw'⟩ := RelO.some_of (v := v) (o := (atKey xs k).map (·.2)) (by rw [l]; exact rel.val k)
    obtain ⟨p, hp, hp2⟩ := Option.map_eq_some_iff.mp hw
    refine wpAny_getItem_heap (tupleKind_room_in1 hu) (key_of I.hok eb) dd hp ?_
    rw [hp2]
    exact h w' _ (I.tok _) rw'
theorem d_in {Q : Value → Shared → Prop} (hu : A.units + 1 < cLine) (I : Inv X pins σ H s) (g : DGet H a y o) (ry : RelV y u) (h : ∀ s', Inv X pins σ H s' → Q (.bool o.isSome) s') :
    wpAny (model X.prog X.w) A (compareOp .In u (.ref a)) Q E s := by
  rcases g with ⟨kvs, k, e, ey, l⟩ | ⟨kvs, k, b, e, ey, eb, l⟩
  · subst ey
    obtain ⟨z, hd, vs, rel, dd⟩ := dk_rd I.hok e
    refine wpAny_in_of (kV_is ry) hd dd.mapOf ?_
    rw [← (rel.val k).isSome_eq, ← l]
    exact h _ (I.tok _)
  · subst ey
    cases (show u = Value.ref b from ry)
    obtain ⟨z, hd, xs, rel, dd⟩ := dt_rd I.hok e
    refine wpAny_in_heap (tupleKind_room_in1 hu) (key_of I.hok eb) hd dd ?_
    have q := (rel.val k).isSome_eq
    rw [Option.isSome_map] at q
    rw [← q, ← l]
    exact h _ (I.tok _)
theorem d_notIn {Q : Value → Shared → Prop} (hu : A.units + 1 < cLine) (I : Inv X pins σ H s) (g : DGet H a y o) (ry : RelV y u) (h : ∀ s', Inv X pins σ H s' → Q (.bool (!o.isSome)) s') :
    wpAny (model X.prog X.w) A (compareOp .NotIn u (.ref a)) Q E s := by
  rcases g with ⟨kvs, k, e, ey, l⟩ | ⟨kvs, k, b, e, ey, eb, l⟩
  · subst ey
    obtain ⟨z, hd, vs, rel, dd⟩ := dk_rd I.hok e
    refine wpAny_notIn_of (kV_is ry) hd dd.mapOf ?_
    rw [← (rel.val k).isSome_eq, ← l]
    exact h _ (I.tok _)
  · subst ey
    cases (show u = Value.ref b from ry)
    obtain ⟨z, hd, xs, rel, dd⟩ := dt_rd I.hok e
    refine wpAny_notIn_heap (tupleKind_room_in1 hu) (key_of I.hok eb) hd dd ?_
    have q := (rel.val k).isSome_eq
    rw [Option.isSome_map] at q
    rw [← q, ← l]
    exact h _ (I.tok _)
theorem d_write {h' : Heap} {t' : Nat} {ob : HO} (I : Inv X pins σ H s) (mu : Mut (H a)) (hs : Heap.SameBut a s.heap h') (he : ∃ q, h'.get? a = some q) (new : ObjOk X.prog X.w (upd H a ob) h' a ob) (ht : 0 < t' := by first | exact Nat.succ_pos _ | assumption | exact Inv.tk ‹_› | omega) :
    Inv X pins σ (upd H a ob) { s with heap := h', toks := t' } :=
  I.write (x := a) (e := a) mu (.inl rfl) (fun b q hb z => (hs.2 b hb).trans z) he new
theorem dk_new {P : Program} {w : World} {H' : Hp} {h' : Heap} {kvs : List (Key × V)} {vs : List (Key × Value)} (z : kvs.length ≤ sizeLine) (hd : (a == sysModules) = false) (rel : KV kvs vs) (dd : h'.DictOf (mixKind P w) a vs) :
    ObjOk P w H' h' a (.dK kvs) := ⟨z, hd, vs, rel, dd⟩
theorem d_setItem {H' : Hp} {Q : Unit → Shared → Prop} (hu : A.units + 1 < cLine) (I : Inv X pins σ H s) (g : DPut H a y v H') (ry : RelV y u) (rv : RelV v r) (h : ∀ s', Inv X pins σ H' s' → Q () s') :
    wpAny (model X.prog X.w) A (setItem (.ref a) u r) Q E s := by
  rcases g with ⟨kvs, k, e, ey, l, eH⟩ | ⟨kvs, k, b, e, ey, eb, l, eH⟩
  · subst ey eH
    obtain ⟨z, hd, vs, rel, dd⟩ := dk_of I.hok e
    have hz : vs.length ≤ sizeLine := by rw [← rel.length]; exact z
    have hl : (putK kvs k v).length ≤ sizeLine := by have := length_putK kvs k v; omega
    refine wpAny_setItem_pairs (hsz := hz) (kV_is ry) dd fun h' dd' hs => h _ ?_
    have he : ∃ q, h'.get? a = some q := let ⟨q, _, _, hq, _⟩ := dd'; ⟨q, hq⟩
    exact d_write I (by rw [e]; exact True.intro) hs he (dk_new hl hd (rel.put k rv) dd')
  · subst ey eH
    cases (show u = Value.ref b from ry)
    obtain ⟨z, hd, xs, rel, dd⟩ := dt_of I.hok e
    have hz : xs.length ≤ sizeLine := by rw [← Paired.length rel]; exact z
    have hl : (putK kvs k v).length ≤ sizeLine := by have := length_putK kvs k v; omega
    refine wpAny_setItem_heap (hsz := hz) (tupleKind_room_in1 hu) (key_of I.hok eb) dd fun h' dd' hs => h _ ?_
    obtain ⟨q, es, ep, hq, h2, h3, h4, _, h5⟩ := dd'
    refine d_write I (by rw [e]; exact True.intro) hs ⟨q, hq⟩ ⟨hl, hd, _, (rel.put k eb rv).keeps fun c ys ec => ?_, q, es, ep, hq, h2, h3, h4, h5⟩
    rw [upd_ne (ne_of ec e (fun z => nomatch z))]
    exact ec
end
section
variable {X : Cx} {pins : List (Addr × Obj)} {σ : St} {H : Hp} {s : Shared} {a : Addr} {kvs : List (Key × V)} {k : Key} {u : Value} {A : Around} {E : Value → Shared → Prop}
theorem d_len {Q : Value → Shared → Prop} (I : Inv X pins σ H s) (e : Rd H a (.dK kvs)) (h : ∀ t s', Inv X pins σ H s' → Q (.int kvs.length t) s') : wpAny (model X.prog X.w) A (call (.builtin "len") [.ref a]) Q E s := by
  obtain ⟨z, hd, vs, rel, dd⟩ := dk_rd I.hok e
  refine call_len_dict hd dd (by rw [← rel.length]; rw [sizeLine_eq] at z; omega) ?_
  rw [← rel.length]
  exact h _ _ (I.tok _)
end
def NoSl (i : Expr) : Prop := ∀ ov iv, subscripted i false ov iv = operate [ov, iv] (getItem ov iv)
theorem subD_of {prog : Program} {w : World} {A : Around} {E : Value → Shared → Prop} {s : Shared} {env : Env} {value slice : Expr} {pos : Pos} {T id : String} {Q : Value → Shared → Prop}
    (hl : typeLookup (.type T) "__getitem__" = pure (some (.builtin id))) (hs : NoSl slice)
    (h : wpAny (model prog w) A (eval value env) (fun o s₁ => wpAny (model prog w) A (eval slice env) (fun i s₂ => s₂.TypeIs o T ∧ wpAny (model prog w) A (getItem o i) Q E s₂) E s₁) E s) :
    wpAny (model prog w) A (eval (.Subscript value slice pos) env) Q E s := by
  refine Subscript_ (wpAny_mono h (fun o s₁ h₁ => wpAny_mono h₁ (fun i s₂ h₂ => ?_) fun _ _ x => x) fun _ _ x => x)
  obtain ⟨hT, h₂⟩ := h₂
  unfold subscriptTail
  refine wpAny_bind ?_
  rw [getitemInPython_of_ne hT.not_modules]
  refine wpAny_bind (wpAny_specialOf hT hl ?_)
  have fin : wpAny (model prog w) A (subscripted slice false o i) (fun r s₃ => wpAny (model prog w) A (letTemporaryGo value o r >>= fun _ => pure r) Q E s₃) E s₂ := by
    rw [hs o i]
    exact wpAny_operating (wpAny_mono h₂ (fun r s₃ h₃ => wpAny_bind (wpAny_letTemporaryGo (wpAny_pure h₃))) fun _ _ x => x)
  first
    | exact wpAny_pure (wpAny_bind fin)
    | exact wpAny_bind (wpAny_pure (wpAny_bind fin))
    | exact wpAny_bind fin
theorem dict_typeIs {X : Cx} {pins : List (Addr × Obj)} {σ : St} {H : Hp} {s : Shared} {a : Addr} {y : V} {o : Option V} (I : Inv X pins σ H s) (g : DGet H a y o) : s.TypeIs (.ref a) "dict" := by
  rcases g with ⟨kvs, k, e, _, _⟩ | ⟨kvs, k, b, e, _, _, _⟩
  · obtain ⟨_, _, vs, _, dd⟩ := dk_rd I.hok e
    exact dd.typeIs
  · obtain ⟨_, _, xs, _, dd⟩ := dt_rd I.hok e
    exact dd.typeIs
def tDGet (td ty : TE) : TE := fun σ H Q => td σ H fun x H1 => ty σ H1 fun y H2 => ∃ a v, x = .ref a ∧ DGet H2 a y (some v) ∧ Q v H2
section
variable {X : Cx} {o i e value : Expr} {pos pos' tpos : Pos} {td ty tv : TE}
theorem pe_dget (hu : X.A.units + 1 < cLine) (ho : PE X o td) (hi : PE X i ty) (hs : NoSl i) : PE X (.Subscript o i pos) (tDGet td ty) := by
  intro pins s σ H Q I h
  refine subD_of PySem.F.slot_dict_getitem.lookup hs (thn (ho pins s σ H _ I h) fun u s1 ⟨x, H1, I1, rx, q1⟩ => thn (hi pins s1 σ H1 _ I1 q1) fun iv s2 ⟨y, H2, I2, ry, a, v, ex, g, q2⟩ => ?_)
  subst ex
  obtain rfl : u = Value.ref a := rx
  exact ⟨dict_typeIs I2 g, d_getItem hu I2 g ry fun w' s3 I3 rw' => ⟨v, H2, I3, rw', q2⟩⟩
end
theorem dk_empty {P : Program} {w : World} {H : Hp} (h : Heap) (hb : sysModules < h.objs.size) : ObjOk P w H (h.push { cls := .type "dict", data := .dict #[] }) h.objs.size (.dK []) :=
  ⟨Nat.zero_le _, beq_eq_false_iff_ne.mpr (Ne.symm (Nat.ne_of_lt hb)), [], .nil, Heap.DictOf.new h⟩
def tDNewK : TE := fun _ H Q => ∀ p, H p = none → Q (.ref p) (upd H p (.dK []))
section
variable {X : Cx} {pos : Pos}
theorem pe_dnewK : PE X (.Dict [] [] pos) tDNewK := fun pins s σ H Q I h =>
  wpAny_Dict_empty ⟨.ref s.heap.objs.size, _, I.laid (a := s.heap.objs.size) (o := .dK []) (t' := s.toks) (fun _ _ q => Heap.get?_push_of_some _ q) (Nat.le_refl _) (dk_empty s.heap I.big), rfl, h _ (I.hok.fresh (Nat.le_refl _))⟩
end
section
variable {X : Cx} {pins : List (Addr × Obj)} {σ : St} {H : Hp} {s : Shared} {a : Addr} {y d : V} {u r : Value} {o : Option V} {A : Around} {E : Value → Shared → Prop}
end
section
variable {X : Cx} {o e f : Expr} {apos cpos : Pos} {td ty tx : TE}
end
section
variable {X : Cx} {pins : List (Addr × Obj)} {σ : St} {H : Hp} {s : Shared} {a : Addr} {kvs : List (Key × V)} {A : Around} {E : Value → Shared → Prop}
end
section
variable {X : Cx} {pins : List (Addr × Obj)} {σ : St} {H : Hp} {s : Shared} {a : Addr} {y : V} {u : Value} {A : Around} {E : Value → Shared → Prop}
end
end L2
namespace Att
open PySem PySem.W PySem.Calls PyProof.Rows
theorem ints_of_wellAll {P : Params} {h : Heap} : ∀ (ns : List Int) (vs : List Value), WellAll P h vs (ns.map WData.int) → IntsAre vs ns := by
  intro ns
  induction ns with
  | nil =>
    intro vs w
    rw [List.map_nil] at w
    cases w
    exact .nil
  | cons n ns ih =>
    intro vs w
    rw [List.map_cons] at w
    cases w with
    | cons a b =>
      cases a
      exact .cons _ _ (ih _ b)
theorem script_of {l : OpenLaw} {n : Nat} (hn : l.most = some n) {P : Params} {h : Heap} {args : List WData} {vals : List Value}
    (hpre : l.row.toRowW.claim.pre args = true) (hwl : WellAll P h vals args) :
    ∃ a vs ns, vals = [Value.ref a] ∧ args = [WData.list (ns.map WData.int)] ∧ h.get? a = some { cls := .type "list", data := .seq vs.toArray } ∧ IntsAre vs ns ∧ ns.length ≤ n := by
  have hsh : WShape.hasAll [] args [.list .int] = true := (pre_splitW hpre).1
  have hc : l.pre.holds [] { args := args } = true := (pre_splitW hpre).2
  obtain ⟨d, r, rfl, h1, h2⟩ := hasAllW_cons hsh
  obtain rfl := hasAllW_nil h2
  obtain ⟨xs, rfl, h3⟩ := hasW_list h1
  obtain ⟨ns, rfl⟩ := items_int h3
  have hlen : ns.length ≤ n := by
    unfold OpenLaw.pre at hc
    have h4 : (WTm.not (.lt (.lit (.int (n : Int))) (.len (.arg 0)))).holds [] { args := [.list (ns.map .int)] } = true := by
      have h4 := (holds_andW hc).1
      rw [hn] at h4
      exact h4
    have h5 := condW_of h4 (w_not (w_lt w_lit (w_len_list (w_arg rfl))))
    rw [List.length_map] at h5
    refine Nat.le_of_not_lt fun q => ?_
    have q' : (n : Int) < ((ns.length : Nat) : Int) := by omega
    first
      | (rw [decide_eq_true q'] at h5; exact absurd h5 (by decide))
      | (simp at h5; omega)
  cases hwl with
  | cons w1 w2 =>
    cases w2
    cases w1 with
    | list ho hall => exact ⟨_, _, ns, rfl, rfl, ho, ints_of_wellAll ns _ hall, hlen⟩
theorem post_true (l : OpenLaw) (args : List WData) : l.row.toRowW.claim.post args (.bool true) args = true :=
  postW_of (r := l.row.toRowW) (X := (true == true))
    (show WShape.has [] (.bool true) .bool = true by first | rfl | decide | simp [WShape.has, WShape.arms, WShape.armsAll])
    (show (WTm.eq .res (.lit (.bool true))).value [] { args := args, res := some (.bool true), after := args } = some (.bool (true == true)) from w_eq_bool (w_res rfl) w_lit) rfl
section
variable {prog : Program} {w : World} {A : Around} {E : Value → Shared → Prop} {s : Shared} {K : Frag}
end
end Att
namespace L2
open PySem PySem.Spec PyProof.Rows
theorem vals_ints : ∀ {vs : List Value} {ns : List Int}, IntsAre vs ns → Vals (ns.map V.int) vs
  | _, _, .nil => .nil
  | _, _, .cons n t h => .cons ⟨t, rfl⟩ (vals_ints h)
def Only (H : Hp) : Prop := ∀ b, H b = none ∨ ∃ o xs, H b = some (.frz o (.lst xs))
theorem law_call {P : Program} {w : World} {K : PySem.W.Frag} {mg mb : Str → Option Value} {CX : CXT} {k : Nat} {fa a : Addr} {fd : FuncData} {x : Str} {sp : Sp} {s₁ : Shared} {vs : List Value} {ns : List Int}
    (KX : K.In s₁.heap) (hns : s₁.heap.Ns mainGlobals mg) (hb : s₁.heap.Ns builtinsNs mb) (hbb : ∀ x : Str, x ≠ "__name__" → mb x = bootBuiltins x) (hlim : s₁.heap.NoLimit) (hg : s₁.gens = #[]) (htk : 0 < s₁.toks)
    (ha : s₁.heap.get? a = some { cls := .type "list", data := .seq vs.toArray }) (hi : IntsAre vs ns) (hl : ns.length ≤ sizeLine) (hr : Room k callerA)
    (F : ∀ base : Heap, K.In base → base.Ns mainGlobals mg → FnOk P w K mg base CX k fa fd [x] sp) (hbind : ∀ (s : Shared) (u : Value), BindsTo s fd ⟨[u], []⟩ [(x, u)])
    (hsp : ∀ H : Hp, Only H → SqL K H a (ns.map V.int) → sp [.ref a] H (fun v _ => v = .bl true) fun _ _ _ => False)
    (hCX : ∀ H e s', CX [] H s₁ (fun _ _ _ => False) e s' → False) :
    codeAny (model P w) callerA (.call (.ref fa) ⟨[.ref a], []⟩) (fun r s' => r = .ok (.ret (.bool true)) ∧ OldK s₁.heap s'.heap ∧ s'.os = s₁.os ∧ AllBare s'.gens) s₁ := by
  have rv := vals_ints hi
  have lenV := hi.length
  have core : ∀ H : Hp, Only H → SqL K H a (ns.map V.int) → HOk P w H s₁.heap → (∀ b, H b ≠ none → b = a) → (H a ≠ none → K.lookup a = none) →
      codeAny (model P w) callerA (.call (.ref fa) ⟨[.ref a], []⟩) (fun r s' => r = .ok (.ret (.bool true)) ∧ OldK s₁.heap s'.heap ∧ s'.os = s₁.os ∧ AllBare s'.gens) s₁ := by
    intro H hO hS hok hA hK
    have base_of : ∀ {b : Addr} {o : Obj}, s₁.heap.get? b = some o → H b = none → (hidT s₁.heap H).get? b = some o := fun e n => hidT_get e n
    have noA : ∀ {b : Addr} {o : Obj} {es : Array DictEntry} {ep : Nat}, s₁.heap.get? b = some o → o.data = .dict es ep → H b = none := fun {b o es ep} e d => by
      cases q : H b with
      | none => rfl
      | some u =>
        have e' : b = a := hA b (by rw [q]; simp)
        subst e'
        rw [ha] at e; cases e
        have d' : Data.seq vs.toArray _ = Data.dict es ep := d
        cases d'
    have nsK : ∀ {b : Addr} {m : Str → Option Value}, s₁.heap.Ns b m → (hidT s₁.heap H).Ns b m := fun {b m} ⟨o, es, ep, e, d, r⟩ => ⟨o, es, ep, base_of e (noA e d), d, r⟩
    have hKb : K.In (hidT s₁.heap H) := fun b o e => base_of (KX b o e) (by
      cases q : H b with
      | none => rfl
      | some u =>
        have e' : b = a := hA b (by rw [q]; simp)
        subst e'
        rw [hK (by rw [q]; simp)] at e; cases e)
    have hM : Mod K mg (hidT s₁.heap H) := ⟨hKb, nsK hns, ⟨mb, nsK hb, hbb⟩, let ⟨mc, h1, h2⟩ := hlim; ⟨mc, nsK h1, h2⟩⟩
    have e0 : Env0 P w K mg (hidT s₁.heap H) callerA [] s₁ H := ⟨rfl, hM, fun b o e => of_hidT e, Nat.le_of_eq (hidT_size _ _), trivial, fun b hb => absurd (show b ∈ ([] : List Addr) from hb) (by simp), hok, .of_eq hg, htk⟩
    refine codeAny_mono ((F _ hKb (nsK hns)).run callerA [] s₁ H ⟨[.ref a], []⟩ [.ref a] [.ref a] _ _ hr e0 (hbind s₁ (.ref a)) (.cons rfl .nil) (hsp H hO hS)) fun r s' h => ?_
    cases r with
    | error e => exact (hCX H e s' h).elim
    | ok fl =>
      cases fl with
      | next => exact False.elim h
      | brk => exact False.elim h
      | cont => exact False.elim h
      | ret u =>
        obtain ⟨v, H', _, os, bare, un, hok', r', q⟩ := h
        have q' : v = .bl true := q
        subst q'
        obtain rfl : u = Value.bool true := r'
        refine ⟨rfl, OldK.of_keep fun b o e => ?_, os, bare⟩
        cases q : H b with
        | none => exact un.keep b o e q (by intro z; exact absurd (show b ∈ ([] : List Addr) from z) (by simp)) (by simp)
        | some u =>
          rcases hO b with z | ⟨ob, xs, z⟩
          · rw [q] at z; cases z
          · have z2 := un.frzs b ob _ z
            obtain ⟨e1, _⟩ := hok b _ z
            obtain ⟨e2, _⟩ := hok' b _ z2
            rw [e] at e1; cases e1
            exact e2
  cases hk : K.lookup a with
  | some o =>
    have e := KX a o hk
    rw [ha] at e
    cases e
    refine core (fun _ => none) (fun _ => .inl rfl) (.inr ⟨_, vs.toArray, _, hk, rfl, rfl, rfl, by rw [List.size_toArray, lenV]; exact hl, by simpa using rv⟩) (fun b u z => by have z' : (none : Option HO) = some u := z; cases z') (fun b z => absurd rfl z) fun z => absurd rfl z
  | none =>
    refine core (fun b => if b = a then some (.frz { cls := .type "list", data := .seq vs.toArray } (.lst (ns.map V.int))) else none) (fun b => ?_) (.inl (.inr ⟨{ cls := .type "list", data := .seq vs.toArray }, if_pos rfl⟩)) (fun b u z => ?_) (fun b z => ?_) fun _ => hk
    · by_cases hb : b = a
      · exact .inr ⟨_, _, if_pos hb⟩
      · exact .inl (if_neg hb)
    · by_cases hb : b = a
      · have z' := (if_pos hb).symm.trans z
        cases z'
        subst hb
        exact ⟨ha, by rw [List.length_map]; exact hl, vs, _, rv, ha⟩
      · have z' := (if_neg hb).symm.trans z
        cases z'
    · by_cases hb : b = a
      · exact hb
      · exact absurd (if_neg hb) z
end L2
namespace L2
open PySem PySem.Spec PyProof.Rows
theorem ofPys_ints : ∀ ns : List Int, PySem.W.ofPys (ns.map PyData.int) = ns.map PySem.W.WData.int
  | [] => by simp [PySem.W.ofPys]
  | n :: ns => by simp only [List.map_cons, PySem.W.ofPys, PySem.W.ofPy]; rw [ofPys_ints ns]
theorem walk_of {l : PySem.W.OpenLaw} {n k : Nat} {q : Program} {loose : List Str} {XP : (Str → Option Value) → Heap → Prop} {as : List Addr} {z t : Nat} {d : DefRec} {K : Params → PySem.W.Frag} {CX : World → CXT} {sp : World → Sp} {x : Str}
    (hn : l.most = some n) (hn2 : n ≤ sizeLine) (hdf : d.params.defaults = []) (hr : Room k callerA) (hk : ∀ P, as = (K P).map (·.1)) (h0 : 0 < t)
    (F : ∀ (w : World) (mg : Str → Option Value) (fa : Addr) (h : Heap), (K w.params).In h → h.Ns mainGlobals mg → mg d.name = some (.ref fa) →
      ∃ fd : FuncData, (∀ (s : Shared) (u : Value), BindsTo s fd ⟨[u], []⟩ [(x, u)]) ∧
        ∀ base : Heap, (K w.params).In base → base.Ns mainGlobals mg → FnOk l.prog w (K w.params) mg base (CX w) k fa fd [x] (sp w))
    (hsp : ∀ (w : World) (H : Hp) (a : Addr) (ns : List Int), ns.length ≤ n → Only H → SqL (K w.params) H a (ns.map V.int) → sp w [.ref a] H (fun v _ => v = .bl true) fun _ _ _ => False)
    (hCX : ∀ (w : World) (H : Hp) (s : Shared) (e : Value) (s' : Shared), CX w [] H s (fun _ _ _ => False) e s' → False) :
    PySem.W.WalkX q loose XP (PySem.W.X.obsZ as) (PySem.W.X.valZ K z t) l.row.toRowW d [] (fun f vs => PySem.call f vs) := by
  intro w s₀ s₁ mg mb G y fa o pm cd doc dV kV ho hd hcd hD hmg hg args vals aa L hpre hlay hrd hwl hlo
  obtain rfl : dV = .none := PySem.W.Dflts.none hD hdf
  obtain rfl : kV = .none := PySem.W.Dflts.noKw hD
  obtain ⟨a, vs, ns, rfl, rfl, hobj, hints, hlen⟩ := Att.script_of hn hpre hwl
  obtain ⟨_, KI, _, htk⟩ := PySem.W.X.z_facts hk y
  have KX := PySem.W.InK.keeps w _ _ KI L.keeps
  have tk : 0 < s₁.toks := Nat.lt_of_lt_of_le h0 (PySem.W.X.script_toks (ns := ns) (a := a) (by rw [PySem.W.ofPy, ofPys_ints]; exact L) htk)
  obtain ⟨fd, hb, hF⟩ := F w mg fa _ KX G.T.g hmg
  refine PySem.W.enter_call (codeAny_mono (law_call KX G.T.g G.T.b G.T.builtins G.T.nolimit hg tk hobj hints (Nat.le_trans hlen hn2) hr hF hb (fun H hO hS => hsp w H a ns hlen hO hS) fun H e s' => hCX w H s₁ e s') fun r s' hq => ?_)
  obtain ⟨rfl, h2, h3, h4⟩ := hq
  exact ⟨.inl ⟨.bool true, .bool true, [], rfl, fun _ => rfl, .bool true, Att.post_true l _, fun _ => ⟨List.Pairwise.nil, fun _ hm => (nomatch hm)⟩⟩, h2, h3, h4⟩
end L2
namespace L2
open PySem PySem.Spec PyProof.Rows
def defArgs (s : Stmt) : Arguments := match s with
  | .FunctionDef _ a _ _ _ _ _ _ _ _ => a
  | _ => { posonlyargs := [], args := [], vararg := none, kwonlyargs := [], kw_defaults := [], kwarg := none, defaults := [] }
def defBody (s : Stmt) : List Stmt := match s with
  | .FunctionDef _ _ b _ _ _ _ _ _ _ => b
  | _ => []
def defScope (s : Stmt) : Scope := match s with
  | .FunctionDef _ _ _ _ _ _ sc _ _ _ => sc
  | _ => { kind := .function, names := [], isGenerator := false, isCoroutine := false }
abbrev CX0 : CXT := fun _ _ _ _ _ _ => False
abbrev E0 : XK := fun _ _ _ => False
theorem pass0 {X : Cx} : Passes CX0 X E0 := fun _ _ _ _ _ _ _ h => h.elim
structure Fun (K : PySem.W.Frag) (x qual : Str) (st : Stmt) (f : Addr) (fd : FuncData) : Prop where
  ex : ∃ (oc : Value) (od : Option Addr) (kV doc pm : Value) (an : Option Addr) (cdv ct : Value) (osl : Array (Option Value)),
    fd = PySem.W.fnOf x qual (defArgs st) (defBody st) (defScope st) .none kV doc pm an cdv ct ∧ K.lookup f = some ⟨oc, od, .func fd, osl⟩ ∧ PySem.W.codeIn K cdv qual = true
  kp : PySem.W.keepIn K (.ref f) = true
section
variable {P : Program} {w : World} {K : PySem.W.Frag} {mg : Str → Option Value} {base : Heap}
theorem Fun.ok {x qual : Str} {st : Stmt} {f : Addr} {fd : FuncData} {N ps : List Str} {k : Nat} {sp : Sp} (F : Fun K x qual st f fd) (S : FnScope N ps (defScope st)) (len : ∀ vs H Q E, sp vs H Q E → vs.length = ps.length)
    (hbody : ∀ (cdv : Value) (A : Around) (outer : List Env) (s : Shared) (H : Hp) (vs : List V) (Q : VK) (E : XK), Room k (A.deeper (envOfC qual (defScope st) s.heap.objs.size f cdv)) → sp vs H Q E →
      ∃ t, PSs (cxOf CX0 P w K mg base N qual (defScope st) f cdv A outer s H E).nox (defBody st) t ∧ t { nx := fun _ H' => Q .non H', rt := Q } (start N vs) H) : FnOk P w K mg base CX0 (k + 1) f fd ps sp := by
  obtain ⟨oc, od, kV, doc, pm, an, cdv, ct, osl, rfl, lk, hcd⟩ := F.ex
  refine fn_of lk hcd S len fun A outer s H vs Q E hr hsp => ?_
  obtain ⟨t, h, q⟩ := hbody cdv A outer s H vs Q E hr hsp
  exact ⟨t, h.nox, q⟩
theorem Fun.binds {x qual : Str} {st : Stmt} {f : Addr} {fd : FuncData} {ps : List Str} (F : Fun K x qual st f fd)
    (h : ∀ (kV doc pm : Value) (an : Option Addr) (cdv ct : Value) (us : List Value), us.length = ps.length → bindArgs (PySem.W.fnOf x qual (defArgs st) (defBody st) (defScope st) .none kV doc pm an cdv ct) ⟨us, []⟩ = pure (ps.zip us)) : Binds K fd ps [] := by
  obtain ⟨oc, od, kV, doc, pm, an, cdv, ct, osl, rfl, lk, hcd⟩ := F.ex
  exact .all (h kV doc pm an cdv ct)
theorem fun_mk {x qual : Str} {st : Stmt} {f : Addr} {oc : Value} {od an : Option Addr} {osl : Array (Option Value)} {kV doc pm cdv ct : Value} (l : K.lookup f = some ⟨oc, od, .func (PySem.W.fnOf x qual (defArgs st) (defBody st) (defScope st) .none kV doc pm an cdv ct), osl⟩)
    (c : PySem.W.codeIn K cdv qual = true) (k : PySem.W.keepIn K (.ref f) = true) : Fun K x qual st f (PySem.W.fnOf x qual (defArgs st) (defBody st) (defScope st) .none kV doc pm an cdv ct) := ⟨⟨oc, od, kV, doc, pm, an, cdv, ct, osl, rfl, l, c⟩, k⟩
end
theorem hu_of {A : Around} {k : Nat} (hr : Room k A) : A.units + 1 < cLine := Nat.lt_of_le_of_lt (Nat.add_le_add_left (by decide : 1 ≤ 64) _) hr.units
section
variable {X : Cx}
theorem pv (i : Nat) {x : Str} {pos : Pos} (hN : X.N[i]? = some x := by rfl) (hv : Vis X.env.scope x := by first | exact Or.inl rfl | exact Or.inr (Or.inl rfl) | exact Or.inr (Or.inr rfl)) (hd : (x == ("__debug__" : Str)) = false := by decide)
    (hcd : (x == ("__classdict__" : Str)) = false := by decide) : PE X (.Name x pos) (tVar i) := pe_var hN hv hd hcd
end
theorem iteF {A B : Prop} (h : B) : if false = true then A else B := by
  rw [if_neg Bool.false_ne_true]
  exact h
theorem iteT {A B : Prop} (h : A) : if true = true then A else B := by
  rw [if_pos rfl]
  exact h
def Same (H H' : Hp) : Prop := ∀ b o, H b = some o → H' b = some o
theorem Same.free {H H' : Hp} (e : Same H H') {l : Addr} (h : H' l = Option.none) : H l = Option.none := by
  cases q : H l with
  | none => rfl
  | some o =>
    rw [e l o q] at h
    cases h
theorem Same.seq {K : PySem.W.Frag} {H H' : Hp} {a : Addr} {xs : List V} (e : Same H H') (h : SqL K H a xs) : SqL K H' a xs := by
  rcases h with (h | ⟨o, h⟩) | h
  · exact .inl (.inl (e _ _ h))
  · exact .inl (.inr ⟨o, e _ _ h⟩)
  · exact .inr h
section
variable {X : Cx}
theorem call_lenD : CallR X (.builtin "len") (fun xs H Q => ∃ a kvs, xs = [V.ref a] ∧ H a = some (.dK kvs) ∧ Q (.int kvs.length) H) := by
  intro pins s σ H xs us Q I r h
  obtain ⟨a, kvs, rfl, ha, q⟩ := h
  obtain ⟨u, rfl, ru⟩ := vals1 r
  cases ru
  exact d_len I (.inl ha) fun t s' I' => ⟨.int kvs.length, H, I', ⟨t, rfl⟩, q⟩
end
section
variable {κ : Type} [DecidableEq κ]
end
end L2
namespace L2
open PySem PySem.Spec PyProof.Rows
theorem noE {α : Type} {t : Sem α} {Q : α → Shared → Prop} {M : Model} {A : Around} {E : Value → Shared → Prop} {s : Shared} (h : wpAny M A t Q (fun _ _ => False) s) : wpAny M A t Q E s :=
  wpAny_mono h (fun _ _ q => q) fun _ _ z => False.elim z
theorem closure_ex {env : Env} : ∀ (names : List (Str × NameKind)) (acc : List (Str × Addr)), (∀ y ∈ names, y.2 = .free → ∃ c, env.cells.lookup y.1 = some c) → (∀ x c, acc.lookup x = some c → env.cells.lookup x = some c) →
    ∃ cl, (forIn names acc fun (x : Str × NameKind) (r : List (Str × Addr)) =>
        (if (x.2 == .free) = true then (do let a ← cellOf env x.1; pure (ForInStep.yield ((x.1, a) :: r))) else pure (ForInStep.yield r) : Sem (ForInStep (List (Str × Addr))))) = (pure cl : Sem (List (Str × Addr))) ∧
      (∀ x c, cl.lookup x = some c → env.cells.lookup x = some c) ∧ (∀ x, (∃ c, acc.lookup x = some c) → ∃ c, cl.lookup x = some c) ∧ ∀ y ∈ names, y.2 = .free → ∃ c, cl.lookup y.1 = some c
  | [], acc, _, h2 => ⟨acc, by rw [List.forIn_nil], h2, fun _ h => h, fun _ h => by cases h⟩
  | (n, k) :: r, acc, h1, h2 => by
    by_cases hk : k = .free
    · subst hk
      obtain ⟨c, hc⟩ := h1 (n, .free) List.mem_cons_self rfl
      obtain ⟨cl, e, q1, q2, q3⟩ := closure_ex r ((n, c) :: acc) (fun y hy => h1 y (List.mem_cons_of_mem _ hy)) (fun x d hd => by
        rw [List.lookup_cons] at hd
        cases hx : x == n with
        | true => rw [hx] at hd; cases hd; rw [beq_iff_eq.mp hx]; exact hc
        | false => rw [hx] at hd; exact h2 x d hd)
      refine ⟨cl, ?_, q1, fun x hx => q2 x ?_, fun y hy hf => ?_⟩
      · rw [List.forIn_cons]
        have e0 : cellOf env n = pure c := by unfold cellOf; rw [hc]
        simp only [beq_self_eq_true, if_true, e0]
        exact e
      · rw [List.lookup_cons]
        cases x == n with
        | true => exact ⟨c, rfl⟩
        | false => exact hx
      · rcases List.mem_cons.mp hy with rfl | hy
        · exact q2 n ⟨c, by rw [List.lookup_cons]; simp⟩
        · exact q3 y hy hf
    · obtain ⟨cl, e, q1, q2, q3⟩ := closure_ex r acc (fun y hy => h1 y (List.mem_cons_of_mem _ hy)) h2
      refine ⟨cl, ?_, q1, q2, fun y hy hf => ?_⟩
      · rw [List.forIn_cons]
        have hb : (k == NameKind.free) = false := by simpa using hk
        simp only [hb, Bool.false_eq_true, if_false]
        exact e
      · rcases List.mem_cons.mp hy with rfl | hy
        · exact absurd hf hk
        · exact q3 y hy hf
theorem closureFor_ex {env : Env} {scope : Scope} (h : ∀ y ∈ scope.names, y.2 = .free → ∃ c, env.cells.lookup y.1 = some c) :
    ∃ cl, closureFor scope env = pure cl ∧ (∀ x c, cl.lookup x = some c → env.cells.lookup x = some c) ∧ ∀ y ∈ scope.names, y.2 = .free → ∃ c, cl.lookup y.1 = some c := by
  obtain ⟨cl, e, q1, _, q3⟩ := closure_ex (env := env) scope.names [] h (fun x c hc => by simp at hc)
  refine ⟨cl, ?_, q1, q3⟩
  unfold closureFor
  simp only []
  rw [show (forIn scope.names ([] : List (Str × Addr)) fun (x : Str × NameKind) (r : List (Str × Addr)) =>
        (match x with | (name, kind) => if (kind == .free) = true then (do let a ← cellOf env name; pure (ForInStep.yield ((name, a) :: r))) else pure (ForInStep.yield r) : Sem (ForInStep (List (Str × Addr))))) = (pure cl : Sem (List (Str × Addr))) from e]
  rfl
theorem lookup_relabel_free {env : Env} : ∀ {names : List (Str × NameKind)} {x : Str}, names.lookup x = some .free →
    (names.map fun (n, k) => if (k == NameKind.free && env.scope.kind == .function && env.kindOf n == some .cell) then (n, NameKind.cell) else (n, k)).lookup x = some .cell ∨
    (names.map fun (n, k) => if (k == NameKind.free && env.scope.kind == .function && env.kindOf n == some .cell) then (n, NameKind.cell) else (n, k)).lookup x = some .free
  | [], _, h => by simp at h
  | (n, k) :: r, x, h => by
    have ih := @lookup_relabel_free env r x
    show List.lookup x ((if (k == NameKind.free && env.scope.kind == .function && env.kindOf n == some .cell) = true then (n, NameKind.cell) else (n, k)) :: _) = _ ∨ List.lookup x ((if (k == NameKind.free && env.scope.kind == .function && env.kindOf n == some .cell) = true then (n, NameKind.cell) else (n, k)) :: _) = _
    cases hx : x == n with
    | true =>
      simp only [List.lookup_cons, hx] at h
      cases h
      by_cases hc : (NameKind.free == NameKind.free && env.scope.kind == .function && env.kindOf n == some .cell) = true
      · rw [if_pos hc]; exact .inl (by simp only [List.lookup_cons, hx])
      · rw [if_neg hc]; exact .inr (by simp only [List.lookup_cons, hx])
    | false =>
      simp only [List.lookup_cons, hx] at h
      by_cases hc : (k == NameKind.free && env.scope.kind == .function && env.kindOf n == some .cell) = true
      · rw [if_pos hc]; simp only [List.lookup_cons, hx]; exact ih h
      · rw [if_neg hc]; simp only [List.lookup_cons, hx]; exact ih h
theorem lookup_relabel_back {env : Env} : ∀ {names : List (Str × NameKind)} {x : Str} {k : NameKind},
    (names.map fun (n, k) => if (k == NameKind.free && env.scope.kind == .function && env.kindOf n == some .cell) then (n, NameKind.cell) else (n, k)).lookup x = some k →
    names.lookup x = some k ∨ (k = .cell ∧ names.lookup x = some .free)
  | [], _, _, h => by simp at h
  | (n, j) :: r, x, k, h => by
    have ih := @lookup_relabel_back env r x k
    have h : List.lookup x ((if (j == NameKind.free && env.scope.kind == .function && env.kindOf n == some .cell) = true then (n, NameKind.cell) else (n, j)) :: _) = some k := h
    by_cases hc : (j == NameKind.free && env.scope.kind == .function && env.kindOf n == some .cell) = true
    · rw [if_pos hc] at h
      cases hx : x == n with
      | true =>
        simp only [List.lookup_cons, hx] at h ⊢
        cases h
        have : j = .free := by
          cases j <;> simp at hc ⊢
        exact .inr ⟨rfl, by rw [this]⟩
      | false => simp only [List.lookup_cons, hx] at h ⊢; exact ih h
    · rw [if_neg hc] at h
      cases hx : x == n with
      | true => simp only [List.lookup_cons, hx] at h ⊢; exact .inl h
      | false => simp only [List.lookup_cons, hx] at h ⊢; exact ih h
theorem codeAny_compLoop_gen {prog : Program} {w : World} {A : Around} {R : Result → Shared → Prop} {s : Shared} {elt target iter : Expr} {ifs : List Expr} {scope : Scope} {pos : Pos} {it acc : Value} {env : Env} (I : Nat → Shared → Prop)
    (turn : ∀ n s, I n s → wpAny (model prog w) A (pyNext it) (fun r s₁ => match r with
      | none => R (.ok .next) s₁
      | some v => wpAny (model prog w) A (letOwnedTupleGo target it v) (fun _ s₁' => wpAny (model prog w) A (assign target env v) (fun _ s₂ =>
          wpAny (model prog w) A (forIn ifs true fun c r => if r = true then do let ok ← isTrue c env (eval c env); pure (ForInStep.yield ok) else pure (ForInStep.yield r)) (fun ok s₃ =>
            if ok = true then wpAny (model prog w) A (eval elt env) (fun x s₄ =>
              wpAny (model prog w) A (call (.builtin "list.append") [acc, x]) (fun _ s₅ => ∃ m, m < n ∧ I m s₅) (notedBy (model prog w) A env fun e s' => R (.error e) s') s₄) (notedBy (model prog w) A env fun e s' => R (.error e) s') s₃
            else ∃ m, m < n ∧ I m s₃) (notedBy (model prog w) A env fun e s' => R (.error e) s') s₂) (notedBy (model prog w) A env fun e s' => R (.error e) s') s₁') (notedBy (model prog w) A env fun e s' => R (.error e) s') s₁)
      (notedBy (model prog w) A env fun e s' => R (.error e) s') s)
    (n : Nat) (h : I n s) :
    codeAny (model prog w) A (.compLoop (.ListComp elt [⟨target, iter, ifs, 0⟩] scope pos) 0 it acc env) R s := by
  refine codeAny_loop rfl I (fun n s hI => ?_) n h
  show wpAny _ A ((compTurn (.ListComp elt [⟨target, iter, ifs, 0⟩] scope pos) 0 it acc env).onRaise (fun x => do noteFrame x env; theTreesLotGoes x)) _ _ s
  refine wpAny_noted ?_
  rw [compTurn_list]
  refine wpAny_bind (wpAny_standAt (wpAny_bind (wpAny_mono (turn n s hI) (fun r s₁ h₁ => ?_) fun _ _ h' => h')))
  cases r with
  | none => exact wpAny_pure h₁
  | some v =>
    refine wpAny_bind (wpAny_mono h₁ (fun _ s₁' h₁' => ?_) fun _ _ h' => h')
    refine wpAny_bind (wpAny_mono h₁' (fun _ s₂ h₂ => wpAny_bind (wpAny_mono h₂ (fun ok s₃ h₃ => ?_) fun _ _ h' => h')) fun _ _ h' => h')
    cases ok with
    | false => exact wpAny_pure ⟨rfl, h₃⟩
    | true =>
      exact wpAny_bind (wpAny_bind (wpAny_mono h₃ (fun x s₄ h₄ => wpAny_bind (wpAny_mono h₄ (fun _ s₅ h₅ => wpAny_pure (wpAny_pure ⟨rfl, h₅⟩)) fun _ _ h' => h')) fun _ _ h' => h'))
def blk (X : Cx) (N : List Str) (scope : Scope) (cl : List (Str × Addr)) (C : Addr) (s₂ : Shared) (H₂ : Hp) (fp : List Addr) (pn : List (Addr × Obj)) : Cx :=
  { X with N := N, s₀ := s₂, H₀ := H₂, env := compEnvC scope cl C X.env, outer := X.stack, stack := X.stack, ex := fp, fn := fun _ => false, pn := pn, xe := fun _ _ => False }
def grab (fr : List (Option Nat)) (σ : St) : St := fr.map fun o => match o with | some i => (σ[i]?).join | none => none
theorem grab_get {fr : List (Option Nat)} {σ : St} {j : Nat} {v : V} (h : (grab fr σ)[j]? = some (some v)) : ∃ i, fr[j]? = some (some i) ∧ σ[i]? = some (some v) := by
  unfold grab at h
  rw [List.getElem?_map] at h
  cases e : fr[j]? with
  | none => rw [e] at h; cases h
  | some o =>
    rw [e] at h
    cases o with
    | none => cases h
    | some i =>
      refine ⟨i, rfl, ?_⟩
      have h' : (σ[i]?).join = some v := Option.some.inj h
      cases e2 : σ[i]? with
      | none => rw [e2] at h'; cases h'
      | some x => rw [e2] at h'; cases x with
        | none => cases h'
        | some y => cases h'; rfl
def TgOk (fr : List (Option Nat)) (g : TG) : Prop := ∀ (x : V) (σ : St) (H : Hp) (Q : St → Hp → Prop), g x σ H Q → g x σ H fun σ2 H2 => Q σ2 H2 ∧ ∀ (j i : Nat), fr[j]? = some (some i) → σ2[j]? = σ[j]?
theorem tg_name {fr : List (Option Nat)} {i : Nat} (h : fr[i]? = some none := by rfl) : TgOk fr (gName i) := fun x σ H Q q => ⟨q, fun j k hj => by
  have : i ≠ j := by rintro rfl; rw [h] at hj; cases hj
  rw [List.getElem?_set_ne this]⟩
def PTs (X : Cx) (ifs : List Expr) (t : TT) : Prop :=
  ∀ (pins : List (Addr × Obj)) (s : Shared) (σ : St) (H : Hp) (Q : Bool → Hp → Prop), Inv X pins σ H s → t σ H Q →
    wpAny (model X.prog X.w) X.A (forIn ifs true fun c r => if r = true then do let ok ← isTrue c X.env (eval c X.env); pure (ForInStep.yield ok) else pure (ForInStep.yield r)) (TP X pins σ Q) X.xe s
def tTT : TT := fun _ H Q => Q true H
theorem pts_nil {X : Cx} : PTs X [] tTT := fun _ _ _ H _ I h => wpAny_tests_nil ⟨H, I, h⟩
theorem pts_one {X : Cx} {c : Expr} {t : TT} (h : PT X c t) : PTs X [c] t := fun pins s σ H Q I hq => wpAny_tests_one (h pins s σ H Q I hq)
structure CompScope (X : Cx) (scope : Scope) (N : List Str) (fr : List (Option Nat)) : Prop where
  kind : scope.kind = .function
  nocell : ∀ y ∈ scope.names, y.2 ≠ .cell
  names : ∀ y ∈ scope.names, y.2 = .local → scope.names.lookup y.1 = some .local
  free : ∀ y ∈ scope.names, y.2 = .free → X.env.scope.names.lookup y.1 = some .cell ∨ X.env.scope.names.lookup y.1 = some .free
  len : N.length = fr.length
  at_ : ∀ (j i : Nat) (x : Str), fr[j]? = some (some i) → N[j]? = some x → X.N[i]? = some x ∧ scope.names.lookup x = some .free
def compChk (osc : Scope) (ON : List Str) (scope : Scope) (N : List Str) (fr : List (Option Nat)) : Bool :=
  decide (scope.kind = .function) && scope.names.all (fun y => decide (y.2 ≠ .cell)) && scope.names.all (fun y => decide (y.2 ≠ .local) || decide (scope.names.lookup y.1 = some .local)) &&
  scope.names.all (fun y => decide (y.2 ≠ .free) || decide (osc.names.lookup y.1 = some .cell) || decide (osc.names.lookup y.1 = some .free)) && decide (N.length = fr.length) &&
  (fr.zip N).all (fun p => match p.1 with | some i => decide (ON[i]? = some p.2) && decide (scope.names.lookup p.2 = some .free) | none => true)
theorem comp_scope {X : Cx} {osc : Scope} {ON : List Str} {scope : Scope} {N : List Str} {fr : List (Option Nat)} (h : compChk osc ON scope N fr = true) (e1 : X.env.scope = osc) (e2 : X.N = ON) : CompScope X scope N fr := by
  subst e1 e2
  unfold compChk at h
  simp only [Bool.and_eq_true, List.all_eq_true, Bool.or_eq_true, decide_eq_true_eq] at h
  obtain ⟨⟨⟨⟨⟨h1, h2⟩, h3⟩, h4⟩, h5⟩, h6⟩ := h
  refine ⟨h1, h2, fun y hy e => (h3 y hy).resolve_left fun z => z e, fun y hy e => ?_, h5, fun j i x e1 e2 => ?_⟩
  · rcases h4 y hy with (z | z) | z
    · exact absurd e z
    · exact .inl z
    · exact .inr z
  · have hm : (some i, x) ∈ fr.zip N := by
      apply List.mem_of_getElem? (i := j)
      rw [List.getElem?_zip_eq_some]
      exact ⟨e1, e2⟩
    have := h6 _ hm
    simpa using this
def tComp (fr : List (Option Nat)) (wi : TI) (g : TG) (tt : TT) (te : TE) : TE := fun σ H Q => wi σ H fun J H1 =>
  ∃ W : Nat → Nat → List V → Hp → Prop, (∃ m, W 0 m [] H1) ∧ ∀ i m ys H, W i m ys H → ys.length ≤ sizeLine ∧
    ((J.stop i H ∧ ∀ p, H p = none → Q (.ref p) (upd H p (.lst ys))) ∨
     (J.go i H ∧ ∃ NN : List V → Hp → Prop, (∀ ys' H', NN ys' H' → ∃ m', m' < m ∧ W (i + 1) m' ys' H') ∧ ∀ x H', J.yld i H x H' → g x (grab fr σ) H' fun σ2 H2 => tt σ2 H2 fun b H3 =>
        if b = true then te σ2 H3 fun y H4 => NN (ys ++ [y]) H4 else NN ys H3))
structure BlkEnd (X : Cx) (pins : List (Addr × Obj)) (σ : St) (Q : VK) (C D : Addr) (s' : Shared) : Prop where
  ex : ∃ (ys : List V) (H : Hp), H D = none ∧ (∃ m, s'.heap.Ns C m) ∧ D ≠ C ∧ C ≠ X.env.locals ∧ (∀ x c, X.env.cells.lookup x = some c → c ≠ C) ∧ (∀ p ∈ X.pn ++ pins, p.1 ≠ C) ∧ X.s₀.heap.objs.size ≤ C ∧ C ∉ X.fs ∧
    (upd H D (.lst ys)) C = none ∧
    (∀ h', Heap.SameBut C s'.heap h' → Inv X pins σ (upd H D (.lst ys)) { s' with heap := h' }) ∧ Q (.ref D) (upd H D (.lst ys))
theorem comp_block {X : Cx} {elt iter tg : Expr} {ifs : List Expr} {scope : Scope} {pos : Pos} {N : List Str} {fr : List (Option Nat)} {g : TG} {tt : TT} {te : TE} {cl : List (Str × Addr)}
    (hcalm : X.calm = true) (S : CompScope X scope N fr) (hclS : ∀ x c, cl.lookup x = some c → X.env.cells.lookup x = some c) (hclH : ∀ y ∈ scope.names, y.2 = .free → ∃ c, cl.lookup y.1 = some c)
    (hg : ∀ C s₂ H₂ fp pn, PG (blk X N scope cl C s₂ H₂ fp pn) tg g) (hgo : TgOk fr g) (ht : ∀ C s₂ H₂ fp pn, PTs (blk X N scope cl C s₂ H₂ fp pn) ifs tt) (he : ∀ C s₂ H₂ fp pn, PE (blk X N scope cl C s₂ H₂ fp pn) elt te)
    {pins : List (Addr × Obj)} {s2 : Shared} {σ : St} {H2 : Hp} {Q : VK} {it : Addr} {fp : List Addr} {tn : Nat → Heap → Prop} {J : It} (I2 : Inv X pins σ H2 s2) (T : Turn X.prog X.w X.K tg J fp it tn) (st2 : tn 0 s2.heap) (f2 : ∀ b ∈ fp, FpOk X pins H2 b)
    (W : Nat → Nat → List V → Hp → Prop) (w0 : ∃ m, W 0 m [] H2)
    (turn : ∀ i m ys H, W i m ys H → ys.length ≤ sizeLine ∧
    ((J.stop i H ∧ ∀ p, H p = none → Q (.ref p) (upd H p (.lst ys))) ∨
     (J.go i H ∧ ∃ NN : List V → Hp → Prop, (∀ ys' H', NN ys' H' → ∃ m', m' < m ∧ W (i + 1) m' ys' H') ∧ ∀ x H', J.yld i H x H' → g x (grab fr σ) H' fun σ2 H2 => tt σ2 H2 fun b H3 =>
        if b = true then te σ2 H3 fun y H4 => NN (ys ++ [y]) H4 else NN ys H3)))
    {E : Value → Shared → Prop} {RR : Value → Addr → Result → Shared → Prop} (hRR : ∀ C D s', BlkEnd X pins σ Q C D s' → RR (.ref D) C (.ok .next) s') :
    wpAny (model X.prog X.w) X.A (newList []) (fun acc s₃ => wpAny (model X.prog X.w) X.A (newFunctionEnv scope X.env.globals cl [] X.env.qual none .none (some X.env)) (fun cenv s₄ =>
      codeAny (model X.prog X.w) X.A (.compStart (.ListComp elt [⟨tg, iter, ifs, 0⟩] scope pos) 0 (.ref it) acc { cenv with scope := relabel scope X.env }) (RR acc cenv.locals) s₄) E s₃) E s2 := by
  obtain ⟨m0, w0⟩ := w0
  refine wpAny_newObj_type (wpAny_newFunctionEnv S.nocell (by intro y hy; simp at hy) (fun h₁ hns₁ hsb₁ => ?_) S.kind)
  dsimp only at hns₁ hsb₁ ⊢
  generalize hHH : s2.heap.push { cls := .type "list", dict := none, data := .seq ([] : List Value).toArray } = HH at hns₁ hsb₁ ⊢
  have hC : HH.objs.size = s2.heap.objs.size + 1 := by rw [← hHH, Heap.size_push]
  generalize hDD : s2.heap.objs.size = D at *
  generalize hCC : HH.objs.size = C at *
  have hDlt : Nat.lt D C := by show D < C; rw [hC]; exact Nat.lt_succ_self _
  have hDC : D ≠ C := Nat.ne_of_lt hDlt
  have neD : ∀ {b : Addr}, Nat.lt b D → b ≠ D := fun h => Nat.ne_of_lt h
  have neC : ∀ {b : Addr}, Nat.lt b D → b ≠ C := fun h => Nat.ne_of_lt (Nat.lt_trans h hDlt)
  have below : ∀ (b : Addr) (o : Obj), s2.heap.get? b = some o → Nat.lt b D := fun b o e => by rw [← hDD]; exact Heap.lt_size e
  have old : ∀ b o, s2.heap.get? b = some o → h₁.get? b = some o := fun b o e => hsb₁.extBut b o (neC (below b o e)) (Heap.get?_push_of_some _ (hHH ▸ Heap.get?_push_of_some _ e))
  have hacc : h₁.get? D = some { cls := .type "list", data := .seq ([] : List Value).toArray } := hsb₁.extBut _ _ hDC (Heap.get?_push_of_some _ (by rw [← hHH, ← hDD]; exact Heap.get?_push_size _ rfl))
  have Lt : Nat.lt X.env.locals D := by rw [← hDD]; exact I2.lt
  have cellLt : ∀ x c, X.env.cells.lookup x = some c → Nat.lt c D := fun x c e => by
    obtain ⟨v, q⟩ := I2.cell x c e
    rw [← hDD]; exact q.lt
  have pinLt : ∀ p ∈ X.pn ++ pins, Nat.lt p.1 D := fun p hp => below p.1 p.2 (I2.pin p hp).1
  have freshH : ∀ b : Addr, Nat.le D b → H2 b = none := fun b hb => I2.hok.fresh (by rw [hDD]; exact hb)
  let X' : Cx := blk X N scope cl C s2 H2 fp (X.pn ++ pins)
  have okX : X'.Ok := by
    refine ⟨I2.ok.mod, S.kind, I2.ok.glob, I2.ok.blt, by show s2.heap.objs.size ≤ C; rw [hDD]; exact Nat.le_of_lt hDlt, fun x y c e1 e2 => I2.ok.inj x y c (hclS _ _ e1) (hclS _ _ e2), fun x hx => ?_, fun x c hf _ => (by cases hf), I2.ok.hd, I2.ok.frames, .inl rfl, fun b hb => ⟨?_, fun x c e => (f2 b hb).2.2.2.2.1 x c (hclS _ _ e)⟩, I2.bs, Nat.le_trans I2.ok.bsz I2.sz, fun b o e hb => ?_, fun b hb hm => ?_, I2.stack, I2.stkFree⟩
    · have hx : (relabel scope X.env).names.lookup x = some .cell ∨ (relabel scope X.env).names.lookup x = some .free := hx
      have hf : scope.names.lookup x = some .free := by
        rcases hx with hx | hx
        · rcases lookup_relabel_back hx with h | ⟨_, h⟩
          · exact absurd rfl (S.nocell _ (PySem.mem_of_lookup h))
          · exact h
        · rcases lookup_relabel_back hx with h | ⟨h, _⟩
          · exact h
          · cases h
      exact hclH _ (PySem.mem_of_lookup hf) rfl
    · obtain ⟨o, e, _⟩ := T.obj 0 _ st2 b hb
      exact neC (below b o e)
    · obtain ⟨_, _, _, h, _⟩ := f2 b hb
      rcases h with h | h
      · exact I2.ok.noex b o e h
      · have := Heap.lt_size (I2.ok.bs b o e).1
        exact absurd (Nat.lt_of_lt_of_le this h) (Nat.lt_irrefl _)
    · rcases List.mem_cons.mp (I2.stkSub b hm) with h | h
      · exact (f2 b hb).2.1 h
      · exact (f2 b hb).2.2.1 h
  have I4 : ∀ tk, 0 < tk → Inv X' [(D, { cls := .type "list", data := .seq ([] : List Value).toArray })] (grab fr σ) H2 { s2 with heap := h₁, toks := tk } := fun tk htk => by
    refine ⟨okX, rfl, I2.bare, Un.kept old, ⟨_, hns₁, fun j x v e1 e2 e3 => ?_⟩, fun x c e => ?_, freshH C (Nat.le_of_lt hDlt), fun x c e => I2.freeC x c (hclS _ _ e), fun p hp => ?_, I2.hok.kept old, ?_, htk⟩
    · obtain ⟨i, q1, q2⟩ := grab_get e2
      obtain ⟨a1, a2⟩ := S.at_ j i x q1 e1
      obtain ⟨m, hn, hl⟩ := I2.loc
      have vis : Vis X.env.scope x := by
        rcases S.free _ (PySem.mem_of_lookup a2) rfl with h | h
        · exact .inr (.inl h)
        · exact .inr (.inr h)
      obtain ⟨u, r, l⟩ := hl i x v a1 q2 vis
      refine ⟨u, r, .inr ⟨?_, ?_⟩⟩
      · exact lookup_relabel_free (env := X.env) a2
      · rcases l with ⟨hk, _⟩ | ⟨_, c, hc, hcell⟩
        · have hk : X.env.scope.names.lookup x = some .local := hk
          rcases S.free _ (PySem.mem_of_lookup a2) rfl with h | h
          · have h : X.env.scope.names.lookup x = some .cell := h
            rw [hk] at h; cases h
          · have h : X.env.scope.names.lookup x = some .free := h
            rw [hk] at h; cases h
        · obtain ⟨c', hc'⟩ := hclH _ (PySem.mem_of_lookup a2) rfl
          have : c = c' := by
            have := hclS _ _ hc'
            rw [hc] at this
            exact Option.some.inj this
          subst this
          obtain ⟨o, ho, hd⟩ := hcell
          exact ⟨c, hc', o, old c o ho, hd⟩
    · obtain ⟨v, o, ho, hd⟩ := I2.cell x c (hclS _ _ e)
      exact ⟨v, o, old c o ho, hd⟩
    · rcases List.mem_append.mp hp with hp | hp
      · obtain ⟨e, n, ne, nf, d⟩ := I2.pin p hp
        refine ⟨old _ _ e, n, ?_, fun hm => ?_, d⟩
        · exact neC (pinLt p hp)
        · rcases List.mem_cons.mp (I2.stkSub _ hm) with h | h
          · exact ne h
          · exact nf h
      · have hp : p = (D, { cls := .type "list", data := .seq ([] : List Value).toArray }) := by simpa using hp
        subst hp
        refine ⟨hacc, freshH D (Nat.le_refl _), hDC, fun hm => ?_, fun v z => by cases z⟩
        rcases List.mem_cons.mp (I2.stkSub _ hm) with h | h
        · exact neD Lt h.symm
        · exact I2.nofs (by rw [hDD]; exact Nat.le_refl _) h
    · show (grab fr σ).length = N.length
      unfold grab
      rw [List.length_map, S.len]
  have fpLt : ∀ b ∈ fp, Nat.lt b D := fun b hb => by
    obtain ⟨o, e, _⟩ := T.obj 0 _ st2 b hb
    exact below b o e
  have fpk : ∀ {H : Hp} {oD : Obj}, (∀ b ∈ fp, H b = none) → ∀ b ∈ fp, FpOk X' [(D, oD)] H b := fun {H oD} hn b hb => by
    refine ⟨hn b hb, ?_, fun hm => ?_, .inl hb, fun x c e => (f2 b hb).2.2.2.2.1 x c (hclS _ _ e), fun p hp => ?_⟩
    · exact neC (fpLt b hb)
    · rcases List.mem_cons.mp (I2.stkSub b hm) with h | h
      · exact (f2 b hb).2.1 h
      · exact (f2 b hb).2.2.1 h
    · rcases List.mem_append.mp hp with hp | hp
      · exact (f2 b hb).2.2.2.2.2 p hp
      · have hp : p = (D, oD) := by simpa using hp
        subst hp
        exact (neD (fpLt b hb)).symm
  have loop : ∀ s₃ : Shared, s₃ = { s2 with heap := h₁, toks := s2.toks + ([] : List (Str × Value)).length } →
      codeAny (model X.prog X.w) X.A (.compLoop (.ListComp elt [⟨tg, iter, ifs, 0⟩] scope pos) 0 (.ref it) (.ref D) (compEnvC scope cl C X.env)) (RR (.ref D) C) s₃ := by
    rintro s₃ rfl
    refine codeAny_compLoop_gen (fun n s' => ∃ i ys its k H', Inv X' [(D, ({ cls := .type "list", data := .seq its k } : Obj))] (grab fr σ) H' s' ∧ tn i s'.heap ∧ (∀ b ∈ fp, H' b = none) ∧ Vals ys its.toList ∧ W i n ys H') ?_ m0
      ⟨0, [], #[], _, H2, I4 _ (by first | exact I2.tk | exact Nat.succ_pos _), T.keep 0 _ _ st2 (fun b _ o e => old b o e), fun b hb => (f2 b hb).1, .nil, w0⟩
    rintro n s3 ⟨i, ys, its, k, H3, I3, st3, fr3, vy, w3⟩
    obtain ⟨hsz, h⟩ := turn i n ys H3 w3
    rcases h with ⟨stop, qn⟩ | ⟨go, NN, hNN, step⟩
    · refine noE (thn (T.done X' rfl rfl rfl hcalm i [(D, _)] s3 (grab fr σ) H3 _ I3 (fpk fr3) st3 stop) fun r s4 ⟨hr, I4⟩ => ?_)
      subst hr
      refine hRR C D s4 ⟨ys, H3, ?_⟩
      obtain ⟨pD, nD, _, _, _⟩ := I4.pin (D, _) (List.mem_append_right _ (List.mem_singleton.mpr rfl))
      have pD : s4.heap.get? D = some { cls := .type "list", data := .seq its k } := pD
      have nD : H3 D = none := nD
      have nC : H3 C = none := I4.free
      obtain ⟨mC, hnC, _⟩ := I4.loc
      refine ⟨nD, ⟨mC, hnC⟩, hDC, (neC Lt).symm, fun x c e z => ?_, fun p hp z => ?_, ?_, fun hm => ?_, ?_, fun h' hsb => ?_, qn D nD⟩
      · exact neC (cellLt x c e) z
      · exact neC (pinLt p hp) z
      · have := I2.sz; rw [hDD] at this; exact Nat.le_trans this (Nat.le_of_lt hDlt)
      · exact I2.nofs (by rw [hDD]; exact Nat.le_of_lt hDlt) hm
      · rw [upd_ne (Ne.symm hDC)]; exact nC
      · have un : Un (frs X.stack) fp H2 (upd H3 D (.lst ys)) s2.heap h' := by
          have u := I4.base
          have neC : ∀ (b : Addr) (o : Obj), s2.heap.get? b = some o → b ≠ C := fun b o e => neC (below b o e)
          have neD : ∀ (b : Addr) (o : Obj), s2.heap.get? b = some o → b ≠ D := fun b o e => neD (below b o e)
          have trkNe : ∀ b (o : HO), H3 b = some o → b ≠ D := fun b o e z => by rw [z, nD] at e; cases e
          refine ⟨fun b o e n hb hx => hsb.extBut b o (neC b o e) (u.keep b o e n hb hx), fun b o e n hb hx => ?_, fun b o e n hx => by rw [upd_ne (neD b o e)]; exact u.free b o e n hx, fun b o e hx => ?_, fun b xs e => ?_, fun b o xs e => ?_, fun b ps e => ?_⟩
          · obtain ⟨sl, q⟩ := u.slot b o e n hb hx
            exact ⟨sl, hsb.extBut b _ (neC b o e) q⟩
          · obtain ⟨o', q⟩ := u.there b o e hx
            exact ⟨o', hsb.extBut b _ (neC b o e) q⟩
          · have q := u.tups b xs e
            rw [upd_ne (trkNe b _ q)]; exact q
          · have q := u.frzs b o xs e
            rw [upd_ne (trkNe b _ q)]; exact q
          · obtain ⟨more, q⟩ := u.tbls b ps e
            exact ⟨more, by rw [upd_ne (trkNe b _ q)]; exact q⟩
        have hok : HOk X.prog X.w (upd H3 D (.lst ys)) h' := fun b u e => by
          by_cases hb : b = D
          · rw [hb, upd_same] at e
            cases e
            rw [hb]
            exact ⟨hsz, its.toList, k, vy, by simpa using hsb.extBut D _ hDC pD⟩
          · rw [upd_ne hb] at e
            refine (I4.hok b u e).stay (fun c v hc q => hsb.extBut c v ?_ q) (fun c q => ?_) fun c xs q => ?_
            · rcases hc with rfl | hc
              · rintro rfl; rw [nC] at e; cases e
              · rintro rfl; rw [nC] at hc; cases hc
            · rw [upd_ne (ne_of_none q nD)]; exact q
            · rw [upd_ne (ne_of_none q nD)]; exact q
        obtain ⟨hh, gg, dd, tt', os'⟩ := s4
        obtain rfl : os' = s2.os := I4.os
        refine (show Inv X pins σ (upd H3 D (.lst ys)) { s2 with heap := h', gens := gg, drawn := dd, toks := tt' } from I2.call (h' := h') (g' := gg) (d' := dd) (t' := tt') (ch := fp) un hok I4.bare fun b hb => ?_)
        obtain ⟨_, f1, _, f3, f4, f5⟩ := f2 b hb
        exact ⟨f3, f1, f4, f5⟩
    · refine noE (thn (T.item X' rfl rfl rfl hcalm i [(D, _)] s3 (grab fr σ) H3 _ I3 (fpk fr3) st3 go) fun r s4 ⟨u, hr, h4⟩ => ?_)
      subst hr
      refine noE (thn h4 fun _ s5 ⟨x, H5, I5, r5, y5, st5, fr5⟩ => ?_)
      have I5' := I5.pinned (fpk fr5) (T.obj _ _ st5)
      refine noE (thn (hg C s2 H2 fp (X.pn ++ pins) _ s5 (grab fr σ) H5 x u _ I5' r5 (hgo _ _ _ _ (step x H5 y5))) fun _ s6 ⟨σ6, H6, I6, q6, k6⟩ => ?_)
      refine noE (thn (ht C s2 H2 fp (X.pn ++ pins) _ s6 σ6 H6 _ I6 q6) fun b s7 ⟨H7, I7, q7⟩ => ?_)
      have back : ∀ {s8 : Shared} {H8 : Hp}, Inv X' ([(D, ({ cls := .type "list", data := .seq its k } : Obj))] ++ pinsAt fp s5.heap) σ6 H8 s8 → Inv X' [(D, ({ cls := .type "list", data := .seq its k } : Obj))] (grab fr σ) H8 s8 ∧ tn (i + 1) s8.heap ∧ ∀ b ∈ fp, H8 b = none := fun {s8 H8} I8 => by
        refine ⟨(I8.unpinned).weak ?_ fun j v e => ?_, T.keep _ _ _ st5 fun b hb o e => (I8.pin (b, o) (List.mem_append_right _ (List.mem_append_right _ (mem_pinsAt hb e)))).1, fun b hb => ?_⟩
        · rw [I8.len]; show (grab fr σ).length = N.length; unfold grab; rw [List.length_map, S.len]
        · obtain ⟨i', q1, _⟩ := grab_get e
          rw [k6 j i' q1]; exact e
        · obtain ⟨o, e, d⟩ := T.obj _ _ st5 b hb
          exact (I8.pin (b, o) (List.mem_append_right _ (List.mem_append_right _ (mem_pinsAt hb e)))).2.1
      cases b with
      | false =>
        rw [if_neg Bool.false_ne_true] at q7 ⊢
        obtain ⟨m', hm, w7⟩ := hNN _ _ q7
        obtain ⟨J1, J2, J3⟩ := back I7
        exact ⟨m', hm, i + 1, ys, its, k, H7, J1, J2, J3, vy, w7⟩
      | true =>
        rw [if_pos rfl] at q7 ⊢
        refine noE (thn (he C s2 H2 fp (X.pn ++ pins) _ s7 σ6 H7 _ I7 q7) fun y s8 ⟨yv, H8, I8, r8, n8⟩ => ?_)
        obtain ⟨m', hm, w8⟩ := hNN _ _ n8
        obtain ⟨J1, J2, J3⟩ := back I8
        obtain ⟨pD, nD, _, _, _⟩ := J1.pin (D, _) (List.mem_append_right _ (List.mem_singleton.mpr rfl))
        have pD : s8.heap.get? D = some { cls := .type "list", data := .seq its k } := pD
        have nD : H8 D = none := nD
        have hz' : its.size ≤ sizeLine := by
          have e1 : its.size = ys.length := by rw [vy.length]; simp
          rw [e1]; exact hsz
        refine wpAny_list_append_plain (hsz := hz') ⟨k, pD⟩ fun h' ⟨k', hl'⟩ hsb => ?_
        · refine ⟨m', hm, i + 1, ys ++ [yv], its.push y, k', H8, ?_, T.keep _ _ _ J2 fun b hb o e => ?_, J3, ?_, w8⟩
          · have K0 : Inv X' [] (grab fr σ) H8 s8 := J1.pins_of fun p hp => by cases hp
            have K1 : Inv X' [] (grab fr σ) H8 { s8 with heap := h' } := by
              refine K0.turned (it := D) (t' := s8.toks) (fun b o hb e => hsb.extBut b o hb e) nD hDC (.inr (by show s2.heap.objs.size ≤ D; rw [hDD]; exact Nat.le_refl _)) (fun x c e z => ?_) fun p hp z => ?_
              · exact neD (cellLt x c (hclS _ _ e)) z
              · have hp : p ∈ X.pn ++ pins := by
                  rcases List.mem_append.mp hp with hp | hp
                  · exact hp
                  · cases hp
                exact neD (pinLt p hp) z
            refine K1.pins_of fun p hp => ?_
            have hp : p = (D, ({ cls := .type "list", data := .seq (its.push y) k' } : Obj)) := by simpa using hp
            subst hp
            refine ⟨hl', nD, hDC, fun hm => ?_, fun v z => by cases z⟩
            rcases List.mem_cons.mp (I2.stkSub _ hm) with h | h
            · exact neD Lt h.symm
            · exact I2.nofs (by rw [hDD]; exact Nat.le_refl _) h
          · exact hsb.extBut b o (neD (fpLt b hb)) e
          · rw [Array.toList_push]
            exact Vals.append vy (.cons r8 .nil)
  exact codeAny_compStart_list (loop _ rfl) (T.self _ 0 _ _ _ (T.keep 0 _ _ st2 fun b _ o e => old b o e) (loop _ rfl))
theorem pe_comp {X : Cx} {elt iter tg : Expr} {ifs : List Expr} {scope : Scope} {pos : Pos} {N : List Str} {fr : List (Option Nat)} {wi : TI} {g : TG} {tt : TT} {te : TE}
    (hcalm : X.calm = true) (S : CompScope X scope N fr) (hi : PI X tg iter wi)
    (hg : ∀ cl C s₂ H₂ fp pn, PG (blk X N scope cl C s₂ H₂ fp pn) tg g) (hgo : TgOk fr g) (ht : ∀ cl C s₂ H₂ fp pn, PTs (blk X N scope cl C s₂ H₂ fp pn) ifs tt) (he : ∀ cl C s₂ H₂ fp pn, PE (blk X N scope cl C s₂ H₂ fp pn) elt te)
    (hs : ∀ x, foldedSetIterable iter X.env x = pure x := by intro _; rfl) : PE X (.ListComp elt [⟨tg, iter, ifs, 0⟩] scope pos) (tComp fr wi g tt te) := by
  intro pins s σ H Q I h
  obtain ⟨cl, hclos, hclS, hclH⟩ := closureFor_ex (env := X.env) (scope := scope) fun y hy hf => I.ok.has y.1 (S.free y hy hf)
  rw [eval_ListComp]
  refine wpAny_comprehension_free (use := none) rfl hs hclos S.kind S.names (thn (hi pins s σ H _ I h) fun v s1 h1 => thn h1 fun itv s2 h2 => ?_)
  obtain ⟨it, fp, tn, J, H2, e, I2, T, st2, f2, W, w0, turn⟩ := h2
  subst e
  refine comp_block (RR := fun acc C => compPost (model X.prog X.w) X.A X.xe none (EP X pins σ Q) acc C) hcalm S hclS hclH (hg cl) hgo (ht cl) (he cl) I2 T st2 f2 W w0 turn fun C D s' B => ?_
  obtain ⟨ys, H', nD, hC, _, _, _, _, _, _, _, hI, q⟩ := B.ex
  obtain ⟨m, hn⟩ := hC
  exact ⟨m, hn, fun h' hs' => ⟨.ref D, _, hI h' hs', rfl, q⟩⟩
theorem ps_setC {X : Cx} {elt iter tg : Expr} {ifs : List Expr} {scope : Scope} {pos spos py : Pos} {N : List Str} {fr : List (Option Nat)} {wi : TI} {g : TG} {tt : TT} {te : TE} {i : Nat} {y : Str}
    (hN : X.N.Nodup) (hy : X.N[i]? = some y) (hly : X.env.scope.names.lookup y = some .local)
    (hcalm : X.calm = true) (S : CompScope X scope N fr) (hi : PI X tg iter wi)
    (hg : ∀ cl C s₂ H₂ fp pn, PG (blk X N scope cl C s₂ H₂ fp pn) tg g) (hgo : TgOk fr g) (ht : ∀ cl C s₂ H₂ fp pn, PTs (blk X N scope cl C s₂ H₂ fp pn) ifs tt) (he : ∀ cl C s₂ H₂ fp pn, PE (blk X N scope cl C s₂ H₂ fp pn) elt te)
    (hsw : swapsWith (.ListComp elt [⟨tg, iter, ifs, 0⟩] scope pos) (some (.Name y py)) spos.line X.env = pure true := by rfl)
    (hs : ∀ x, foldedSetIterable iter X.env x = pure x := by intro _; rfl) : PS X (.Assign [.Name y py] (.ListComp elt [⟨tg, iter, ifs, 0⟩] scope pos) spos) (tAsg (tComp fr wi g tt te) (gName i)) := by
  intro pins s σ H D I h
  obtain ⟨cl, hclos, hclS, hclH⟩ := closureFor_ex (env := X.env) (scope := scope) fun y hy hf => I.ok.has y.1 (S.free y hy hf)
  rw [exec_Assign_Name_used _ _ _ _ hsw]
  refine wpAny_bind (wpAny_standAt (wpAny_bind ?_))
  show wpAny _ X.A (do let _ ← comprehension (.ListComp elt [⟨tg, iter, ifs, 0⟩] scope pos) scope X.env _ (newList []) false (eval iter X.env) (some (assign (.Name y py) X.env))) _ _ s
  refine wpAny_bind (wpAny_mono (wpAny_comprehension_free (use := some (assign (.Name y py) X.env)) (Q := fun _ s' => SP X pins D .next s') rfl hs hclos S.kind S.names
    (thn (hi pins s σ H _ I h) fun v s1 h1 => thn h1 fun itv s2 h2 => ?_)) (fun _ s' hq => wpAny_pure (wpAny_pure hq)) fun _ _ e => e)
  obtain ⟨it, fp, tn, J, H2, e, I2, T, st2, f2, W, w0, turn⟩ := h2
  subst e
  refine comp_block (Q := fun x H1 => gName i x σ H1 D.nx) (RR := fun acc C => compPost (model X.prog X.w) X.A X.xe (some (assign (.Name y py) X.env)) (fun _ s' => SP X pins D .next s') acc C) hcalm S hclS hclH (hg cl) hgo (ht cl) (he cl) I2 T st2 f2 W w0 turn fun C D' s' B => ?_
  obtain ⟨ys, H', nD, hC, hDC, hCL, hCc, hCp, hCs, hCf, hCn, hI, q⟩ := B.ex
  obtain ⟨m, hn⟩ := hC
  have I1 : Inv X pins σ (upd H' D' (.lst ys)) s' := by
    have := hI s'.heap (.refl ..)
    obtain ⟨hh, gg, dd, tt', os'⟩ := s'
    exact this
  show wpAny _ X.A (assign (.Name y py) X.env (.ref D')) _ _ _
  refine wpAny_assign_Name (store_ok2 I1 hN hy (.inl hly) (v := .ref D') rfl (fun s2 I3 ⟨a, sb, ha⟩ => ?_) (.inr hly))
  have hCa : C ≠ a := by
    rcases ha with rfl | ha
    · exact hCL
    · exact fun z => hCc y a ha z.symm
  refine ⟨m, hn.sameBut sb hCa, fun h3 hs3 => ?_⟩
  exact ⟨_, _, I3.turned (it := C) (t' := s2.toks) (fun b o hb e => hs3.extBut b o hb e) hCn hCL (.inr hCs) hCc hCp, q⟩
end L2
namespace L2
open PySem PySem.Spec PyProof.Rows
mutual
def Dv (K : PySem.W.Frag) (H : Hp) : PyData → V → Prop
  | .none, v => v = .non
  | .bool b, v => v = .bl b
  | .int i, v => v = .int i
  | .str x, v => v = .str x
  | .list ds, v => ∃ a vs, v = .ref a ∧ SqL K H a vs ∧ Dvs K H ds vs
  | .tuple ds, v => ∃ a vs, v = .ref a ∧ SqT K H a vs ∧ Dvs K H ds vs
  | .dict _, _ => False
def Dvs (K : PySem.W.Frag) (H : Hp) : List PyData → List V → Prop
  | [], vs => vs = []
  | d :: ds, vs => ∃ v r, vs = v :: r ∧ Dv K H d v ∧ Dvs K H ds r
end
section
variable {K : PySem.W.Frag} {H H' : Hp}
theorem Dvs.length : ∀ {ds : List PyData} {vs : List V}, Dvs K H ds vs → vs.length = ds.length
  | [], _, h => by rw [Dvs] at h; subst h; rfl
  | d :: ds, _, h => by
    rw [Dvs] at h
    obtain ⟨v, r, rfl, _, h⟩ := h
    rw [List.length_cons, List.length_cons, Dvs.length h]
theorem Dvs.get : ∀ {ds : List PyData} {vs : List V} {i : Nat} {d : PyData}, Dvs K H ds vs → ds[i]? = some d → ∃ v, vs[i]? = some v ∧ Dv K H d v
  | [], _, _, _, _, e => by simp at e
  | d :: ds, _, 0, _, h, e => by
    rw [Dvs] at h
    obtain ⟨v, r, rfl, h, _⟩ := h
    cases e
    exact ⟨v, rfl, h⟩
  | d :: ds, _, i + 1, _, h, e => by
    rw [Dvs] at h
    obtain ⟨v, r, rfl, _, h⟩ := h
    exact Dvs.get (i := i) h (by simpa using e)
theorem Dvs.get' : ∀ {ds : List PyData} {vs : List V} {i : Nat} {v : V}, Dvs K H ds vs → vs[i]? = some v → ∃ d, ds[i]? = some d ∧ Dv K H d v
  | [], _, _, _, h, e => by rw [Dvs] at h; subst h; simp at e
  | d :: ds, _, 0, _, h, e => by
    rw [Dvs] at h
    obtain ⟨v, r, rfl, h, _⟩ := h
    cases e
    exact ⟨d, rfl, h⟩
  | d :: ds, _, i + 1, _, h, e => by
    rw [Dvs] at h
    obtain ⟨v, r, rfl, _, h⟩ := h
    exact Dvs.get' (i := i) h (by simpa using e)
theorem Dvs.append : ∀ {ds es : List PyData} {vs ws : List V}, Dvs K H ds vs → Dvs K H es ws → Dvs K H (ds ++ es) (vs ++ ws)
  | [], _, _, _, h, g => by rw [Dvs] at h; subst h; exact g
  | d :: ds, es, _, _, h, g => by
    rw [Dvs] at h
    obtain ⟨v, r, rfl, h1, h⟩ := h
    show Dvs K H (d :: (ds ++ es)) _
    rw [Dvs]
    exact ⟨v, r ++ _, rfl, h1, Dvs.append h g⟩
theorem dvs_nil : Dvs K H [] [] := by rw [Dvs]
theorem dvs_cons {d : PyData} {ds : List PyData} {v : V} {vs : List V} (h : Dv K H d v) (t : Dvs K H ds vs) : Dvs K H (d :: ds) (v :: vs) := by rw [Dvs]; exact ⟨v, vs, rfl, h, t⟩
theorem dv_none {v : V} : Dv K H .none v ↔ v = .non := by rw [Dv]
theorem dv_bool {b : Bool} {v : V} : Dv K H (.bool b) v ↔ v = .bl b := by rw [Dv]
theorem dv_int {i : Int} {v : V} : Dv K H (.int i) v ↔ v = .int i := by rw [Dv]
theorem dv_str {x : Str} {v : V} : Dv K H (.str x) v ↔ v = .str x := by rw [Dv]
theorem dv_list {ds : List PyData} {v : V} : Dv K H (.list ds) v ↔ ∃ a vs, v = .ref a ∧ SqL K H a vs ∧ Dvs K H ds vs := by rw [Dv]
theorem dv_tuple {ds : List PyData} {v : V} : Dv K H (.tuple ds) v ↔ ∃ a vs, v = .ref a ∧ SqT K H a vs ∧ Dvs K H ds vs := by rw [Dv]
def sDa (xs : List Str) : List PyData := xs.map .str
def strV (xs : List Str) : List V := xs.map .str
theorem dvs_sDa : ∀ {xs : List Str} {vs : List V}, Dvs K H (sDa xs) vs ↔ vs = strV xs
  | [], _ => by show Dvs K H [] _ ↔ _ = []; rw [Dvs]
  | x :: xs, vs => by
    show Dvs K H (.str x :: sDa xs) vs ↔ vs = V.str x :: strV xs
    rw [Dvs]
    constructor
    · rintro ⟨v, r, rfl, h1, h2⟩
      rw [dv_str.mp h1, dvs_sDa.mp h2]
    · rintro rfl
      exact ⟨_, _, rfl, dv_str.mpr rfl, dvs_sDa.mpr rfl⟩
end
def TupK (H H' : Hp) : Prop := (∀ b xs, H b = some (.tup xs) → H' b = some (.tup xs)) ∧ ∀ b o xs, H b = some (.frz o (.tup xs)) → H' b = some (.frz o (.tup xs))
theorem Same.tupK {H H' : Hp} (h : Same H H') : TupK H H' := ⟨fun b xs e => h b _ e, fun b o xs e => h b _ e⟩
theorem TupK.sqT {K : PySem.W.Frag} {H H' : Hp} {a : Addr} {xs : List V} (e : TupK H H') (h : SqT K H a xs) : SqT K H' a xs := by
  rcases h with (h | ⟨o, h⟩) | h
  · exact .inl (.inl (e.1 _ _ h))
  · exact .inl (.inr ⟨o, e.2 _ _ _ h⟩)
  · exact .inr h
theorem Same.sqT {K : PySem.W.Frag} {H H' : Hp} {a : Addr} {xs : List V} (e : Same H H') (h : SqT K H a xs) : SqT K H' a xs := e.tupK.sqT h
theorem Same.sqL {K : PySem.W.Frag} {H H' : Hp} {a : Addr} {xs : List V} (e : Same H H') (h : SqL K H a xs) : SqL K H' a xs := e.seq h
theorem Same.new {H : Hp} {p : Addr} (h : H p = none) (o : HO) : Same H (upd H p o) := fun b u q => by rw [upd_ne (ne_of_none q h)]; exact q
def But (ps : List Addr) (H H' : Hp) : Prop := ∀ b o, H b = some o → b ∉ ps → H' b = some o
mutual
/-- data without lists -/
def fix : PyData → Bool
  | .none => true | .bool _ => true | .int _ => true | .str _ => true
  | .list _ => false
  | .tuple ds => fixs ds
  | .dict _ => false
def fixs : List PyData → Bool
  | [] => true
  | d :: ds => fix d && fixs ds
end
mutual
theorem Dv.tupK {K : PySem.W.Frag} {H H' : Hp} (k : TupK H H') : ∀ (d : PyData) (v : V), fix d = true → Dv K H d v → Dv K H' d v
  | .none, _, _, h => dv_none.mpr (dv_none.mp h)
  | .bool _, _, _, h => dv_bool.mpr (dv_bool.mp h)
  | .int _, _, _, h => dv_int.mpr (dv_int.mp h)
  | .str _, _, _, h => dv_str.mpr (dv_str.mp h)
  | .list _, _, f, _ => by rw [fix] at f; cases f
  | .tuple ds, v, f, h => by
    rw [fix] at f
    obtain ⟨a, vs, rfl, hq, h⟩ := dv_tuple.mp h
    exact dv_tuple.mpr ⟨a, vs, rfl, k.sqT hq, Dvs.tupK k ds vs f h⟩
  | .dict _, _, f, _ => by rw [fix] at f; cases f
theorem Dvs.tupK {K : PySem.W.Frag} {H H' : Hp} (k : TupK H H') : ∀ (ds : List PyData) (vs : List V), fixs ds = true → Dvs K H ds vs → Dvs K H' ds vs
  | [], _, _, h => by rw [Dvs] at h ⊢; exact h
  | d :: ds, vs, f, h => by
    rw [fixs, Bool.and_eq_true] at f
    rw [Dvs] at h ⊢
    obtain ⟨v, r, e, h1, h2⟩ := h
    exact ⟨v, r, e, Dv.tupK k d v f.1 h1, Dvs.tupK k ds r f.2 h2⟩
end
mutual
theorem Dv.same {K : PySem.W.Frag} {H H' : Hp} (k : Same H H') : ∀ (d : PyData) (v : V), Dv K H d v → Dv K H' d v
  | .none, _, h => dv_none.mpr (dv_none.mp h)
  | .bool _, _, h => dv_bool.mpr (dv_bool.mp h)
  | .int _, _, h => dv_int.mpr (dv_int.mp h)
  | .str _, _, h => dv_str.mpr (dv_str.mp h)
  | .list ds, v, h => by
    obtain ⟨a, vs, rfl, hq, h⟩ := dv_list.mp h
    exact dv_list.mpr ⟨a, vs, rfl, k.sqL hq, Dvs.same k ds vs h⟩
  | .tuple ds, v, h => by
    obtain ⟨a, vs, rfl, hq, h⟩ := dv_tuple.mp h
    exact dv_tuple.mpr ⟨a, vs, rfl, k.sqT hq, Dvs.same k ds vs h⟩
  | .dict _, _, h => by rw [Dv] at h; exact h.elim
theorem Dvs.same {K : PySem.W.Frag} {H H' : Hp} (k : Same H H') : ∀ (ds : List PyData) (vs : List V), Dvs K H ds vs → Dvs K H' ds vs
  | [], _, h => by rw [Dvs] at h ⊢; exact h
  | d :: ds, vs, h => by
    rw [Dvs] at h ⊢
    obtain ⟨v, r, e, h1, h2⟩ := h
    exact ⟨v, r, e, Dv.same k d v h1, Dvs.same k ds r h2⟩
end
mutual
theorem Dv.reads {X : Cx} {pins : List (Addr × Obj)} {σ : St} {H : Hp} {s : Shared} (I : Inv X pins σ H s) : ∀ (d : PyData) (v : V) (u : Value), Dv X.K H d v → RelV v u → ∃ as, Reads s.heap u d as
  | .none, _, _, h, r => by rw [dv_none.mp h] at r; cases r; exact ⟨_, .none⟩
  | .bool b, _, _, h, r => by rw [dv_bool.mp h] at r; cases r; exact ⟨_, .bool b⟩
  | .int i, _, _, h, r => by rw [dv_int.mp h] at r; obtain ⟨t, rfl⟩ := r; exact ⟨_, .int i t⟩
  | .str x, _, _, h, r => by rw [dv_str.mp h] at r; obtain ⟨t, rfl⟩ := r; exact ⟨_, .str x t⟩
  | .list ds, _, _, h, r => by
    obtain ⟨a, vs, rfl, hq, h⟩ := dv_list.mp h
    cases r
    obtain ⟨its, rv, pl, _⟩ := I.list hq
    obtain ⟨o, e, c, n, d⟩ := pl.isList
    obtain ⟨as, ra⟩ := Dvs.reads I ds vs its h rv
    exact ⟨_, .list e c d (by simpa using ra)⟩
  | .tuple ds, _, _, h, r => by
    obtain ⟨a, vs, rfl, hq, h⟩ := dv_tuple.mp h
    cases r
    obtain ⟨its, rv, pl, _⟩ := I.tuple hq
    obtain ⟨o, e, c, n, d⟩ := pl
    obtain ⟨as, ra⟩ := Dvs.reads I ds vs its h rv
    exact ⟨_, .tuple e c d (by simpa using ra)⟩
  | .dict _, _, _, h, _ => by rw [Dv] at h; exact h.elim
theorem Dvs.reads {X : Cx} {pins : List (Addr × Obj)} {σ : St} {H : Hp} {s : Shared} (I : Inv X pins σ H s) : ∀ (ds : List PyData) (vs : List V) (us : List Value), Dvs X.K H ds vs → Vals vs us → ∃ as, ReadsAll s.heap us ds as
  | [], _, _, h, r => by rw [Dvs] at h; subst h; cases r; exact ⟨_, .nil⟩
  | d :: ds, _, _, h, r => by
    rw [Dvs] at h
    obtain ⟨v, r', rfl, h1, h2⟩ := h
    cases r with
    | cons r1 r2 =>
      obtain ⟨as, a1⟩ := Dv.reads I d v _ h1 r1
      obtain ⟨bs, a2⟩ := Dvs.reads I ds r' _ h2 r2
      exact ⟨_, .cons a1 a2⟩
end
end L2
namespace L2
open PySem PySem.Spec PyProof.Rows PySem.SeqAt
mutual
def nd : PyData → Bool
  | .none => true | .bool _ => true | .int _ => true | .str _ => true
  | .list ds => nds ds
  | .tuple ds => nds ds
  | .dict _ => false
def nds : List PyData → Bool
  | [] => true
  | d :: ds => nd d && nds ds
end
mutual
theorem Dv.nd {K : PySem.W.Frag} {H : Hp} : ∀ (d : PyData) (v : V), Dv K H d v → nd d = true
  | .none, _, _ => by rw [L2.nd]
  | .bool _, _, _ => by rw [L2.nd]
  | .int _, _, _ => by rw [L2.nd]
  | .str _, _, _ => by rw [L2.nd]
  | .list ds, _, h => by
    obtain ⟨a, vs, _, _, h⟩ := dv_list.mp h
    rw [L2.nd]; exact Dvs.nd ds vs h
  | .tuple ds, _, h => by
    obtain ⟨a, vs, _, _, h⟩ := dv_tuple.mp h
    rw [L2.nd]; exact Dvs.nd ds vs h
  | .dict _, _, h => by rw [Dv] at h; exact h.elim
theorem Dvs.nd {K : PySem.W.Frag} {H : Hp} : ∀ (ds : List PyData) (vs : List V), Dvs K H ds vs → nds ds = true
  | [], _, _ => by rw [nds]
  | d :: ds, vs, h => by
    rw [Dvs] at h
    obtain ⟨v, r, _, h1, h2⟩ := h
    rw [nds, Dv.nd d v h1, Dvs.nd ds r h2]; rfl
end
mutual
theorem one_read {h : Heap} : ∀ (d d' : PyData) (v : Value) (as as' : List Addr), nd d = true → Reads h v d as → Reads h v d' as' → d = d'
  | .none, _, _, _, _, _, r, q => by cases r; cases q; rfl
  | .bool _, _, _, _, _, _, r, q => by cases r; cases q; rfl
  | .int _, _, _, _, _, _, r, q => by cases r; cases q; rfl
  | .str _, _, _, _, _, _, r, q => by cases r; cases q; rfl
  | .dict _, _, _, _, _, n, _, _ => by rw [L2.nd] at n; cases n
  | .list xs, d', _, _, _, n, r, q => by
    rw [L2.nd] at n
    cases r with
    | list a1 a2 a3 a4 =>
      cases q with
      | list b1 b2 b3 b4 => rw [a1] at b1; cases b1; rw [a3] at b3; cases b3; rw [one_reads xs _ _ _ _ n a4 b4]
      | tuple b1 b2 b3 b4 => rw [a1] at b1; cases b1; rw [a2] at b2; exact absurd b2 (by simp)
      | dict b1 b2 => rw [a1] at b1; cases b1; rw [a2] at b2; exact absurd b2 (by simp)
  | .tuple xs, d', _, _, _, n, r, q => by
    rw [L2.nd] at n
    cases r with
    | tuple a1 a2 a3 a4 =>
      cases q with
      | tuple b1 b2 b3 b4 => rw [a1] at b1; cases b1; rw [a3] at b3; cases b3; rw [one_reads xs _ _ _ _ n a4 b4]
      | list b1 b2 b3 b4 => rw [a1] at b1; cases b1; rw [a2] at b2; exact absurd b2 (by simp)
      | dict b1 b2 => rw [a1] at b1; cases b1; rw [a2] at b2; exact absurd b2 (by simp)
theorem one_reads {h : Heap} : ∀ (xs ys : List PyData) (vs : List Value) (as as' : List Addr), nds xs = true → ReadsAll h vs xs as → ReadsAll h vs ys as' → xs = ys
  | [], _, _, _, _, _, r, q => by cases r; cases q; rfl
  | x :: xs, _, _, _, _, n, r, q => by
    rw [nds, Bool.and_eq_true] at n
    cases r with
    | cons r1 r2 =>
      cases q with
      | cons q1 q2 => rw [one_read x _ _ _ _ n.1 r1 q1, one_reads xs _ _ _ _ n.2 r2 q2]
end
mutual
theorem eqv_self : ∀ d : PyData, nd d = true → PyData.eqv d d = true
  | .none, _ => rfl
  | .bool b, _ => by simp [PyData.eqv]
  | .int i, _ => by simp [PyData.eqv]
  | .str x, _ => by simp [PyData.eqv]
  | .list xs, h => by rw [PyData.eqv]; rw [L2.nd] at h; exact eqvs_self xs h
  | .tuple xs, h => by rw [PyData.eqv]; rw [L2.nd] at h; exact eqvs_self xs h
  | .dict _, h => by rw [L2.nd] at h; cases h
theorem eqvs_self : ∀ xs : List PyData, nds xs = true → PyData.eqvAll xs xs = true
  | [], _ => rfl
  | x :: xs, h => by
    rw [nds, Bool.and_eq_true] at h
    rw [PyData.eqvAll, eqv_self x h.1, eqvs_self xs h.2]; rfl
end
theorem readsAll_len {h : Heap} : ∀ {xs : List PyData} {vs : List Value} {as : List Addr}, ReadsAll h vs xs as → vs.length = xs.length
  | [], _, _, r => by cases r; rfl
  | _ :: xs, _, _, r => by
    cases r with
    | cons _ r' => rw [List.length_cons, List.length_cons, readsAll_len r']
mutual
theorem eqAt_own : ∀ (da db : PyData) (A : Around) (s : Shared) (a b : Value) (as bs : List Addr), Reads s.heap a da as → Reads s.heap b db bs → nd da = true → nd db = true → A.units + min da.depth db.depth < cLine → EqAt A s a b (PyData.eqv da db)
  | .none, db, A, s, _, _, _, _, ra, rb, _, hb, hu => by
    cases ra
    cases rb with
    | none => exact EqAt.same _
    | bool y => exact EqAt.none_bool y
    | int y u => exact EqAt.none_int y u
    | str y u => exact EqAt.none_str y u
    | list k1 k2 k3 k4 => exact EqAt.none_list ⟨_, k1, k2, _, k3⟩ (room_here hu)
    | tuple k1 k2 k3 k4 => exact EqAt.none_tuple ⟨_, k1, k2, _, k3⟩ (room_here hu)
    | dict => rw [L2.nd] at hb; cases hb
  | .bool x, db, A, s, _, _, _, _, ra, rb, _, hb, hu => by
    cases ra
    cases rb with
    | none => exact EqAt.bool_none x
    | bool y => exact EqAt.bool_bool x y
    | int y u => exact EqAt.bool_int x y u
    | str y u => exact EqAt.bool_str x y u
    | list k1 k2 k3 k4 => exact EqAt.bool_list x ⟨_, k1, k2, _, k3⟩ (room_here hu)
    | tuple k1 k2 k3 k4 => exact EqAt.bool_tuple x ⟨_, k1, k2, _, k3⟩ (room_here hu)
    | dict => rw [L2.nd] at hb; cases hb
  | .int x, db, A, s, _, _, _, _, ra, rb, _, hb, hu => by
    cases ra
    cases rb with
    | none => exact EqAt.int_none x _
    | bool y => exact EqAt.int_bool x _ y
    | int y u => exact EqAt.int_int x _ y u
    | str y u => exact EqAt.int_str x _ y u
    | list k1 k2 k3 k4 => exact EqAt.int_list x _ ⟨_, k1, k2, _, k3⟩ (room_here hu)
    | tuple k1 k2 k3 k4 => exact EqAt.int_tuple x _ ⟨_, k1, k2, _, k3⟩ (room_here hu)
    | dict => rw [L2.nd] at hb; cases hb
  | .str x, db, A, s, _, _, _, _, ra, rb, _, hb, hu => by
    cases ra
    cases rb with
    | none => exact EqAt.str_none x _
    | bool y => exact EqAt.str_bool x _ y
    | int y u => exact EqAt.str_int x _ y u
    | str y u => exact EqAt.str_str x _ y u
    | list k1 k2 k3 k4 => exact EqAt.str_list x _ ⟨_, k1, k2, _, k3⟩ (room_here hu)
    | tuple k1 k2 k3 k4 => exact EqAt.str_tuple x _ ⟨_, k1, k2, _, k3⟩ (room_here hu)
    | dict => rw [L2.nd] at hb; cases hb
  | .list xs, db, A, s, _, _, _, _, ra, rb, ha, hb, hu => by
    have ra0 := ra
    have rb0 := rb
    cases ra with
    | @list l o1 vs1 n1 xs as h1 h2 h3 h4 =>
      cases rb with
      | none => exact EqAt.list_none ⟨_, h1, h2, _, h3⟩ (room_here hu)
      | bool y => exact EqAt.list_bool y ⟨_, h1, h2, _, h3⟩ (room_here hu)
      | int y u => exact EqAt.list_int y u ⟨_, h1, h2, _, h3⟩ (room_here hu)
      | str y u => exact EqAt.list_str y u ⟨_, h1, h2, _, h3⟩ (room_here hu)
      | tuple k1 k2 k3 k4 => exact EqAt.list_tuple ⟨_, h1, h2, _, h3⟩ ⟨_, k1, k2, _, k3⟩ (room_here hu)
      | @list b o vs2 n2 ys bs k1 k2 k3 k4 =>
        by_cases e : l = b
        · subst e
          rw [one_read _ _ _ _ _ ha ra0 rb0, eqv_self _ hb]
          exact EqAt.same _
        · refine EqAt.of_refs e ?_
          have l1 := readsAll_len h4
          have l2 := readsAll_len k4
          rw [L2.nd] at ha hb
          by_cases hz : xs.length = ys.length
          · have := RcAt.lists (A := A) (s := s) (e := pairEq xs ys) ⟨_, h1, h2, _, h3⟩ ⟨_, k1, k2, _, k3⟩ (by simp at l1 l2; omega) (room_here hu) (fun j h1 h2 => by have q := eqAt_items xs ys A.in1 s _ _ _ _ h4 k4 ha hb (room_in (by rw [PyData.depth, PyData.depth] at hu; exact hu)) j (by simpa using h1) (by simpa using h2); rw [Array.getElem_toList, Array.getElem_toList] at q; exact q)
            rw [show PyData.eqv (.list xs) (.list ys) = PyData.eqvAll xs ys by rw [PyData.eqv], ← eqvAll_same_length hz]
            have e1 : vs1.size = xs.length := by simpa using l1
            rw [e1] at this
            exact this
          · rw [show PyData.eqv (.list xs) (.list ys) = PyData.eqvAll xs ys by rw [PyData.eqv], eqvAll_other_length hz]
            exact RcAt.lists_lengths ⟨_, h1, h2, _, h3⟩ ⟨_, k1, k2, _, k3⟩ (by simp at l1 l2; simp; omega) (room_here hu)
      | dict => rw [L2.nd] at hb; cases hb
  | .tuple xs, db, A, s, _, _, _, _, ra, rb, ha, hb, hu => by
    have ra0 := ra
    have rb0 := rb
    cases ra with
    | @tuple l o1 vs1 n1 xs as h1 h2 h3 h4 =>
      cases rb with
      | none => exact EqAt.tuple_none ⟨_, h1, h2, _, h3⟩ (room_here hu)
      | bool y => exact EqAt.tuple_bool y ⟨_, h1, h2, _, h3⟩ (room_here hu)
      | int y u => exact EqAt.tuple_int y u ⟨_, h1, h2, _, h3⟩ (room_here hu)
      | str y u => exact EqAt.tuple_str y u ⟨_, h1, h2, _, h3⟩ (room_here hu)
      | list k1 k2 k3 k4 => exact EqAt.tuple_list ⟨_, h1, h2, _, h3⟩ ⟨_, k1, k2, _, k3⟩ (room_here hu)
      | @tuple b o vs2 n2 ys bs k1 k2 k3 k4 =>
        by_cases e : l = b
        · subst e
          rw [one_read _ _ _ _ _ ha ra0 rb0, eqv_self _ hb]
          exact EqAt.same _
        · refine EqAt.of_refs e ?_
          have l1 := readsAll_len h4
          have l2 := readsAll_len k4
          rw [L2.nd] at ha hb
          have := RcAt.tuples (A := A) (s := s) (e := pairEq xs ys) ⟨_, h1, h2, _, h3⟩ ⟨_, k1, k2, _, k3⟩ (room_here hu) (fun j h1 h2 => by have q := eqAt_items xs ys A.in1 s _ _ _ _ h4 k4 ha hb (room_in (by rw [PyData.depth, PyData.depth] at hu; exact hu)) j (by simpa using h1) (by simpa using h2); rw [Array.getElem_toList, Array.getElem_toList] at q; exact q)
          rw [show PyData.eqv (.tuple xs) (.tuple ys) = PyData.eqvAll xs ys by rw [PyData.eqv], ← eqvAll_eq xs ys]
          have e1 : vs1.size = xs.length := by simpa using l1
          have e2 : vs2.size = ys.length := by simpa using l2
          rw [e1, e2] at this
          exact this
      | dict => rw [L2.nd] at hb; cases hb
  | .dict _, _, _, _, _, _, _, _, _, _, ha, _, _ => by rw [L2.nd] at ha; cases ha
theorem eqAt_items : ∀ (xs ys : List PyData) (A : Around) (s : Shared) (us ws : List Value) (as bs : List Addr), ReadsAll s.heap us xs as → ReadsAll s.heap ws ys bs → nds xs = true → nds ys = true → A.units + min (PyData.depthAll xs) (PyData.depthAll ys) < cLine →
    ∀ j (h1 : j < us.length) (h2 : j < ws.length), EqAt A s us[j] ws[j] (pairEq xs ys j)
  | [], _, _, _, _, _, _, _, r, _, _, _, _ => by cases r; intro j h1; simp at h1
  | x :: xs, ys, A, s, _, ws, _, _, r, q, ha, hb, hu => by
    cases r with
    | @cons u us d ds as1 as2 r1 r2 =>
      cases q with
      | nil => intro j h1 h2; simp at h2
      | @cons w ws y ys bs1 bs2 q1 q2 =>
        rw [nds, Bool.and_eq_true] at ha hb
        rw [PyData.depthAll, PyData.depthAll] at hu
        intro j h1 h2
        cases j with
        | zero => exact eqAt_own x y A s u w _ _ r1 q1 ha.1 hb.1 (room_head hu)
        | succ j =>
          exact eqAt_items xs ys A s us ws _ _ r2 q2 ha.2 hb.2 (room_tail hu) j (by simpa using h1) (by simpa using h2)
end
theorem rc_own {da db : PyData} {A : Around} {s : Shared} {a b : Value} {as bs : List Addr} (ra : Reads s.heap a da as) (rb : Reads s.heap b db bs) (ha : nd da = true) (hb : nd db = true) (hu : A.units + min da.depth db.depth < cLine) : RcAt A s a b (PyData.eqv da db) := by
  cases ra with
  | none =>
    cases rb with
    | none => exact RcAt.none_none
    | bool y => exact RcAt.none_bool y
    | int y u => exact RcAt.none_int y u
    | str y u => exact RcAt.none_str y u
    | @list l2 o2 ws n2 ys bs k1 k2 k3 k4 => exact RcAt.none_list ⟨_, k1, k2, _, k3⟩ (room_here hu)
    | @tuple l2 o2 ws n2 ys bs k1 k2 k3 k4 => exact RcAt.none_tuple ⟨_, k1, k2, _, k3⟩ (room_here hu)
    | dict => rw [L2.nd] at hb; cases hb
  | bool x =>
    cases rb with
    | none => exact RcAt.bool_none x
    | bool y => exact RcAt.bool_bool x y
    | int y u => exact RcAt.bool_int x y u
    | str y u => exact RcAt.bool_str x y u
    | @list l2 o2 ws n2 ys bs k1 k2 k3 k4 => exact RcAt.bool_list x ⟨_, k1, k2, _, k3⟩ (room_here hu)
    | @tuple l2 o2 ws n2 ys bs k1 k2 k3 k4 => exact RcAt.bool_tuple x ⟨_, k1, k2, _, k3⟩ (room_here hu)
    | dict => rw [L2.nd] at hb; cases hb
  | int x t =>
    cases rb with
    | none => exact RcAt.int_none x t
    | bool y => exact RcAt.int_bool x t y
    | int y u => exact RcAt.int_int x t y u
    | str y u => exact RcAt.int_str x t y u
    | @list l2 o2 ws n2 ys bs k1 k2 k3 k4 => exact RcAt.int_list x t ⟨_, k1, k2, _, k3⟩ (room_here hu)
    | @tuple l2 o2 ws n2 ys bs k1 k2 k3 k4 => exact RcAt.int_tuple x t ⟨_, k1, k2, _, k3⟩ (room_here hu)
    | dict => rw [L2.nd] at hb; cases hb
  | str x t =>
    cases rb with
    | none => exact RcAt.str_none x t
    | bool y => exact RcAt.str_bool x t y
    | int y u => exact RcAt.str_int x t y u
    | str y u => exact RcAt.str_str x t y u
    | @list l2 o2 ws n2 ys bs k1 k2 k3 k4 => exact RcAt.str_list x t ⟨_, k1, k2, _, k3⟩ (room_here hu)
    | @tuple l2 o2 ws n2 ys bs k1 k2 k3 k4 => exact RcAt.str_tuple x t ⟨_, k1, k2, _, k3⟩ (room_here hu)
    | dict => rw [L2.nd] at hb; cases hb
  | @list l o vs n xs as h1 h2 h3 h4 =>
    cases rb with
    | none => exact RcAt.list_none ⟨_, h1, h2, _, h3⟩ (room_here hu)
    | bool y => exact RcAt.list_bool y ⟨_, h1, h2, _, h3⟩ (room_here hu)
    | int y u => exact RcAt.list_int y u ⟨_, h1, h2, _, h3⟩ (room_here hu)
    | str y u => exact RcAt.list_str y u ⟨_, h1, h2, _, h3⟩ (room_here hu)
    | @list l2 o2 ws n2 ys bs k1 k2 k3 k4 =>
      have l1 : vs.size = xs.length := by simpa using readsAll_len h4
      have l2 : ws.size = ys.length := by simpa using readsAll_len k4
      rw [L2.nd] at ha hb
      rw [PyData.depth, PyData.depth] at hu
      have hi : ∀ j (h1 : j < vs.size) (h2 : j < ws.size), EqAt A.in1 s vs[j] ws[j] (pairEq xs ys j) := fun j h1 h2 => by
        have q := eqAt_items xs ys A.in1 s _ _ _ _ h4 k4 ha hb (room_in hu) j (by simpa using h1) (by simpa using h2)
        rw [Array.getElem_toList, Array.getElem_toList] at q
        exact q
      have hu' : A.units < cLine := room_here hu
      rw [show PyData.eqv (.list xs) (.list ys) = PyData.eqvAll xs ys by rw [PyData.eqv]]
      by_cases hz : xs.length = ys.length
      · have q := RcAt.lists (A := A) (s := s) (e := pairEq xs ys) ⟨_, h1, h2, _, h3⟩ ⟨_, k1, k2, _, k3⟩ (by omega) hu' hi
        rw [l1, eqvAll_same_length hz] at q
        exact q
      · rw [eqvAll_other_length hz]
        exact RcAt.lists_lengths ⟨_, h1, h2, _, h3⟩ ⟨_, k1, k2, _, k3⟩ (by simp; omega) hu'
    | @tuple l2 o2 ws n2 ys bs k1 k2 k3 k4 => exact RcAt.list_tuple ⟨_, h1, h2, _, h3⟩ ⟨_, k1, k2, _, k3⟩ (room_here hu)
    | dict => rw [L2.nd] at hb; cases hb
  | @tuple l o vs n xs as h1 h2 h3 h4 =>
    cases rb with
    | none => exact RcAt.tuple_none ⟨_, h1, h2, _, h3⟩ (room_here hu)
    | bool y => exact RcAt.tuple_bool y ⟨_, h1, h2, _, h3⟩ (room_here hu)
    | int y u => exact RcAt.tuple_int y u ⟨_, h1, h2, _, h3⟩ (room_here hu)
    | str y u => exact RcAt.tuple_str y u ⟨_, h1, h2, _, h3⟩ (room_here hu)
    | @list l2 o2 ws n2 ys bs k1 k2 k3 k4 => exact RcAt.tuple_list ⟨_, h1, h2, _, h3⟩ ⟨_, k1, k2, _, k3⟩ (room_here hu)
    | @tuple l2 o2 ws n2 ys bs k1 k2 k3 k4 =>
      have l1 : vs.size = xs.length := by simpa using readsAll_len h4
      have l2 : ws.size = ys.length := by simpa using readsAll_len k4
      rw [L2.nd] at ha hb
      rw [PyData.depth, PyData.depth] at hu
      have hi : ∀ j (h1 : j < vs.size) (h2 : j < ws.size), EqAt A.in1 s vs[j] ws[j] (pairEq xs ys j) := fun j h1 h2 => by
        have q := eqAt_items xs ys A.in1 s _ _ _ _ h4 k4 ha hb (room_in hu) j (by simpa using h1) (by simpa using h2)
        rw [Array.getElem_toList, Array.getElem_toList] at q
        exact q
      have hu' : A.units < cLine := room_here hu
      rw [show PyData.eqv (.tuple xs) (.tuple ys) = PyData.eqvAll xs ys by rw [PyData.eqv]]
      have q := RcAt.tuples (A := A) (s := s) (e := pairEq xs ys) ⟨_, h1, h2, _, h3⟩ ⟨_, k1, k2, _, k3⟩ hu' hi
      rw [l1, l2, eqvAll_eq xs ys] at q
      exact q
    | dict => rw [L2.nd] at hb; cases hb
  | dict => rw [L2.nd] at ha; cases ha
theorem rcNe_own {da db : PyData} {A : Around} {s : Shared} {a b : Value} {as bs : List Addr} (ra : Reads s.heap a da as) (rb : Reads s.heap b db bs) (ha : nd da = true) (hb : nd db = true) (hu : A.units + min da.depth db.depth < cLine) : RcNeAt A s a b (!PyData.eqv da db) := by
  cases ra with
  | none =>
    cases rb with
    | none => exact RcNeAt.none_none
    | bool y => exact RcNeAt.none_bool y
    | int y u => exact RcNeAt.none_int y u
    | str y u => exact RcNeAt.none_str y u
    | @list l2 o2 ws n2 ys bs k1 k2 k3 k4 => exact RcNeAt.none_list ⟨_, k1, k2, _, k3⟩ (room_here hu)
    | @tuple l2 o2 ws n2 ys bs k1 k2 k3 k4 => exact RcNeAt.none_tuple ⟨_, k1, k2, _, k3⟩ (room_here hu)
    | dict => rw [L2.nd] at hb; cases hb
  | bool x =>
    cases rb with
    | none => exact RcNeAt.bool_none x
    | bool y => exact RcNeAt.bool_bool x y
    | int y u => exact RcNeAt.bool_int x y u
    | str y u => exact RcNeAt.bool_str x y u
    | @list l2 o2 ws n2 ys bs k1 k2 k3 k4 => exact RcNeAt.bool_list x ⟨_, k1, k2, _, k3⟩ (room_here hu)
    | @tuple l2 o2 ws n2 ys bs k1 k2 k3 k4 => exact RcNeAt.bool_tuple x ⟨_, k1, k2, _, k3⟩ (room_here hu)
    | dict => rw [L2.nd] at hb; cases hb
  | int x t =>
    cases rb with
    | none => exact RcNeAt.int_none x t
    | bool y => exact RcNeAt.int_bool x t y
    | int y u => exact RcNeAt.int_int x t y u
    | str y u => exact RcNeAt.int_str x t y u
    | @list l2 o2 ws n2 ys bs k1 k2 k3 k4 => exact RcNeAt.int_list x t ⟨_, k1, k2, _, k3⟩ (room_here hu)
    | @tuple l2 o2 ws n2 ys bs k1 k2 k3 k4 => exact RcNeAt.int_tuple x t ⟨_, k1, k2, _, k3⟩ (room_here hu)
    | dict => rw [L2.nd] at hb; cases hb
  | str x t =>
    cases rb with
    | none => exact RcNeAt.str_none x t
    | bool y => exact RcNeAt.str_bool x t y
    | int y u => exact RcNeAt.str_int x t y u
    | str y u => exact RcNeAt.str_str x t y u
    | @list l2 o2 ws n2 ys bs k1 k2 k3 k4 => exact RcNeAt.str_list x t ⟨_, k1, k2, _, k3⟩ (room_here hu)
    | @tuple l2 o2 ws n2 ys bs k1 k2 k3 k4 => exact RcNeAt.str_tuple x t ⟨_, k1, k2, _, k3⟩ (room_here hu)
    | dict => rw [L2.nd] at hb; cases hb
  | @list l o vs n xs as h1 h2 h3 h4 =>
    cases rb with
    | none => exact RcNeAt.list_none ⟨_, h1, h2, _, h3⟩ (room_here hu)
    | bool y => exact RcNeAt.list_bool y ⟨_, h1, h2, _, h3⟩ (room_here hu)
    | int y u => exact RcNeAt.list_int y u ⟨_, h1, h2, _, h3⟩ (room_here hu)
    | str y u => exact RcNeAt.list_str y u ⟨_, h1, h2, _, h3⟩ (room_here hu)
    | @list l2 o2 ws n2 ys bs k1 k2 k3 k4 =>
      have l1 : vs.size = xs.length := by simpa using readsAll_len h4
      have l2 : ws.size = ys.length := by simpa using readsAll_len k4
      rw [L2.nd] at ha hb
      rw [PyData.depth, PyData.depth] at hu
      have hi : ∀ j (h1 : j < vs.size) (h2 : j < ws.size), EqAt A.in1 s vs[j] ws[j] (pairEq xs ys j) := fun j h1 h2 => by
        have q := eqAt_items xs ys A.in1 s _ _ _ _ h4 k4 ha hb (room_in hu) j (by simpa using h1) (by simpa using h2)
        rw [Array.getElem_toList, Array.getElem_toList] at q
        exact q
      have hu' : A.units < cLine := room_here hu
      rw [show PyData.eqv (.list xs) (.list ys) = PyData.eqvAll xs ys by rw [PyData.eqv]]
      by_cases hz : xs.length = ys.length
      · have q := RcNeAt.lists (A := A) (s := s) (e := pairEq xs ys) ⟨_, h1, h2, _, h3⟩ ⟨_, k1, k2, _, k3⟩ (by omega) hu' hi
        rw [l1, eqvAll_same_length hz] at q
        exact q
      · rw [eqvAll_other_length hz]
        exact RcNeAt.lists_lengths ⟨_, h1, h2, _, h3⟩ ⟨_, k1, k2, _, k3⟩ (by simp; omega) hu'
    | @tuple l2 o2 ws n2 ys bs k1 k2 k3 k4 => exact RcNeAt.list_tuple ⟨_, h1, h2, _, h3⟩ ⟨_, k1, k2, _, k3⟩ (room_here hu)
    | dict => rw [L2.nd] at hb; cases hb
  | @tuple l o vs n xs as h1 h2 h3 h4 =>
    cases rb with
    | none => exact RcNeAt.tuple_none ⟨_, h1, h2, _, h3⟩ (room_here hu)
    | bool y => exact RcNeAt.tuple_bool y ⟨_, h1, h2, _, h3⟩ (room_here hu)
    | int y u => exact RcNeAt.tuple_int y u ⟨_, h1, h2, _, h3⟩ (room_here hu)
    | str y u => exact RcNeAt.tuple_str y u ⟨_, h1, h2, _, h3⟩ (room_here hu)
    | @list l2 o2 ws n2 ys bs k1 k2 k3 k4 => exact RcNeAt.tuple_list ⟨_, h1, h2, _, h3⟩ ⟨_, k1, k2, _, k3⟩ (room_here hu)
    | @tuple l2 o2 ws n2 ys bs k1 k2 k3 k4 =>
      have l1 : vs.size = xs.length := by simpa using readsAll_len h4
      have l2 : ws.size = ys.length := by simpa using readsAll_len k4
      rw [L2.nd] at ha hb
      rw [PyData.depth, PyData.depth] at hu
      have hi : ∀ j (h1 : j < vs.size) (h2 : j < ws.size), EqAt A.in1 s vs[j] ws[j] (pairEq xs ys j) := fun j h1 h2 => by
        have q := eqAt_items xs ys A.in1 s _ _ _ _ h4 k4 ha hb (room_in hu) j (by simpa using h1) (by simpa using h2)
        rw [Array.getElem_toList, Array.getElem_toList] at q
        exact q
      have hu' : A.units < cLine := room_here hu
      rw [show PyData.eqv (.tuple xs) (.tuple ys) = PyData.eqvAll xs ys by rw [PyData.eqv]]
      have q := RcNeAt.tuples (A := A) (s := s) (e := pairEq xs ys) ⟨_, h1, h2, _, h3⟩ ⟨_, k1, k2, _, k3⟩ hu' hi
      rw [l1, l2, eqvAll_eq xs ys] at q
      exact q
    | dict => rw [L2.nd] at hb; cases hb
  | dict => rw [L2.nd] at ha; cases ha
end L2
namespace L2
open PySem PySem.Spec PyProof.Rows PySem.SeqAt
section
variable {X : Cx}
theorem u190 {k : Nat} {A : Around} (r : Room k A) : A.units + 190 < cLine := by have := r.un; omega
def rEqA (K : PySem.W.Frag) : R2 := fun x y H Q => rEq x y H Q ∨ ∃ d e, Dv K H d x ∧ Dv K H e y ∧ min d.depth e.depth ≤ 190 ∧ Q (.bl (PyData.eqv d e)) H
def rNeA (K : PySem.W.Frag) : R2 := fun x y H Q => rNe x y H Q ∨ ∃ d e, Dv K H d x ∧ Dv K H e y ∧ min d.depth e.depth ≤ 190 ∧ Q (.bl (!PyData.eqv d e)) H
theorem op_eqA (hu : X.A.units + 190 < cLine) : OpR X (compareOp .Eq) (rEqA X.K) := by
  refine op_eq.or ?_
  intro pins s σ H x y v u Q I rx ry h
  obtain ⟨d, e, hx, hy, hz, q⟩ := h
  obtain ⟨as, ra⟩ := Dv.reads I d x v hx rx
  obtain ⟨bs, rb⟩ := Dv.reads I e y u hy ry
  have hroom : X.A.units + min d.depth e.depth < cLine := Nat.lt_of_le_of_lt (Nat.add_le_add_left hz _) hu
  exact rc_own ra rb (Dv.nd d x hx) (Dv.nd e y hy) hroom X.prog X.w X.xe _ ⟨.bl _, H, I, rfl, q⟩
theorem op_neA (hu : X.A.units + 190 < cLine) : OpR X (compareOp .NotEq) (rNeA X.K) := by
  refine op_ne.or ?_
  intro pins s σ H x y v u Q I rx ry h
  obtain ⟨d, e, hx, hy, hz, q⟩ := h
  obtain ⟨as, ra⟩ := Dv.reads I d x v hx rx
  obtain ⟨bs, rb⟩ := Dv.reads I e y u hy ry
  have hroom : X.A.units + min d.depth e.depth < cLine := Nat.lt_of_le_of_lt (Nat.add_le_add_left hz _) hu
  exact rcNe_own ra rb (Dv.nd d x hx) (Dv.nd e y hy) hroom X.prog X.w X.xe _ ⟨.bl _, H, I, rfl, q⟩
def rAddA (K : PySem.W.Frag) : R2 := fun x y H Q => rI0 (fun i j => .int (i + j)) x y H Q ∨ (∃ i j, x = .str i ∧ y = .str j ∧ i.length + j.length ≤ sizeLine ∧ Q (.str (i ++ j)) H) ∨ rCat x y H Q ∨ rCatT K x y H Q
theorem op_addA : OpR X (binaryOp .Add) (rAddA X.K) := op_add.or (op_add_str.or (op_cat.or op_catT))
def rMulS : R2 := fun x y H Q => ∃ z n, x = .str z ∧ y = .int n ∧ 0 ≤ n ∧ n ≤ 1000 ∧ z.length ≤ 1000 ∧ Q (.str (PySem.Txt.mul z n)) H
theorem op_mul_str : OpR X (binaryOp .Mult) rMulS := by
  intro pins s σ H x y v u Q I rx ry h
  obtain ⟨z, n, rfl, rfl, h0, h1, h2, q⟩ := h
  obtain ⟨t, rfl⟩ := rx
  obtain ⟨t', rfl⟩ := ry
  refine wpAny_with_toks (n := 1) I.tk (SB.mul ⟨?_, fun hn _ => ?_, fun hn _ => ?_⟩ fun t' k ht => ⟨.str _, H, I.tok _ ht, ⟨_, rfl⟩, q⟩)
  · rw [decide_eq_false (by omega), decide_eq_false (by omega)]; rfl
  · have e1 : (2 ^ 63 - 1 : Int) / n ≥ (2 ^ 63 - 1) / 1000 := by
      have hp : (0 : Int) < n := by omega
      apply Int.le_ediv_of_mul_le hp
      have : (2 ^ 63 - 1 : Int) / 1000 * n ≤ (2 ^ 63 - 1) / 1000 * 1000 := Int.mul_le_mul_of_nonneg_left h1 (by decide)
      have e : (2 ^ 63 - 1 : Int) / 1000 * 1000 ≤ 2 ^ 63 - 1 := by decide
      omega
    have e2 : (2 ^ 63 - 1 : Int) / 1000 ≥ 1000 := by decide
    omega
  · have : z.length * n.toNat ≤ 1000 * 1000 := Nat.mul_le_mul h2 (by omega)
    have hs : sizeLine = 16777216 := sizeLine_eq
    unfold Builtin.Str.tooLong
    exact decide_eq_false (by omega)
def rMulA : R2 := fun x y H Q => rI CMul (fun i j => .int (i * j)) x y H Q ∨ rMulS x y H Q ∨ rRep x y H Q
theorem op_mulA : OpR X (binaryOp .Mult) rMulA := op_mul.or (op_mul_str.or op_rep)
def rLtS : R2 := fun x y H Q => ∃ i j : Str, x = .str i ∧ y = .str j ∧ Q (.bl (decide (i.cps.toList < j.cps.toList))) H
def rGtS : R2 := fun x y H Q => ∃ i j : Str, x = .str i ∧ y = .str j ∧ Q (.bl (decide (j.cps.toList < i.cps.toList))) H
theorem op_gt_str : OpR X (compareOp .Gt) rGtS := by
  intro pins s σ H x y v u Q I rx ry h
  obtain ⟨i, j, rfl, rfl, q⟩ := h
  obtain ⟨t, rfl⟩ := rx
  obtain ⟨t', rfl⟩ := ry
  exact PySem.P.gt_str ⟨.bl _, H, I, rfl, q⟩
def rLtA : R2 := fun x y H Q => rI0 (fun i j => .bl (decide (i < j))) x y H Q ∨ rLtS x y H Q
def rGtA : R2 := fun x y H Q => rI0 (fun i j => .bl (decide (j < i))) x y H Q ∨ rGtS x y H Q
theorem op_ltA : OpR X (compareOp .Lt) rLtA := op_lt.or op_lt_str
theorem op_gtA : OpR X (compareOp .Gt) rGtA := op_gt.or op_gt_str
def rInS (neg : Bool) : R2 := fun x y H Q => ∃ i j : Str, x = .str i ∧ y = .str j ∧ Q (.bl (if neg then !(!(Builtin.Str.occurrences j i 0 j.length 1).isEmpty) else !(Builtin.Str.occurrences j i 0 j.length 1).isEmpty)) H
def rInA (K : PySem.W.Frag) (neg : Bool) : R2 := fun x y H Q => rIn K neg x y H Q ∨ rInS neg x y H Q
theorem op_inA : OpR X (compareOp .In) (rInA X.K false) := op_in_seq.or op_in_str
theorem op_notinA : OpR X (compareOp .NotIn) (rInA X.K true) := op_notIn_seq.or op_notIn_str
def rIsA : R2 := fun x y H Q => y = .non ∧ Q (.bl (decide (x = .non))) H
theorem op_isA : OpR X (compareOp .Is) rIsA := op_isN
def rLenA (K : PySem.W.Frag) : List V → Hp → VK → Prop := fun xs H Q => (∃ p ys, xs = [.ref p] ∧ (SqL K H p ys ∨ SqT K H p ys) ∧ Q (.int ys.length) H) ∨ (∃ z, xs = [.str z] ∧ z.length ≤ sizeLine ∧ Q (.int z.length) H) ∨
  ∃ a kvs, xs = [V.ref a] ∧ H a = some (.dK kvs) ∧ Q (.int kvs.length) H
theorem call_lenA : CallR X (.builtin "len") (rLenA X.K) := call_len_seq.or (call_len_str.or call_lenD)
def rTupleA (K : PySem.W.Frag) : List V → Hp → VK → Prop := fun xs H Q => ∃ p ys, xs = [.ref p] ∧ ((SqL K H p ys ∧ ∀ l, H l = none → Q (.ref l) (upd H l (.tup ys))) ∨ (SqT K H p ys ∧ Q (.ref p) H))
theorem call_tupleA : CallR X (.type "tuple") (rTupleA X.K) := call_tuple_of
def rIntA : List V → Hp → VK → Prop := fun xs H Q => (∃ i, xs = [.int i] ∧ Q (.int i) H) ∨ ∃ k, xs = [.bl k] ∧ Q (.int (if k then 1 else 0)) H
theorem call_intA : CallR X (.type "int") rIntA := call_int1
theorem strs_are : ∀ {xs : List Str} {us : List Value}, Vals (strV xs) us → StrsAre us xs
  | [], _, h => by cases h; exact .nil
  | x :: xs, _, h => by
    have h : Vals (V.str x :: strV xs) _ := h
    cases h with
    | cons r t =>
      obtain ⟨t', rfl⟩ := r
      exact .cons x t' (strs_are t)
theorem vals_strs : ∀ {xs : List Str} {us : List Value}, StrsAre us xs → Vals (strV xs) us
  | _, _, .nil => .nil
  | _, _, .cons y t h => .cons ⟨t, rfl⟩ (vals_strs h)
def rSortedS (K : PySem.W.Frag) : List V → Hp → VK → Prop := fun xs H Q => ∃ p ys, xs = [.ref p] ∧ SqL K H p (strV ys) ∧ ys.length < 64 ∧
  ∀ l ys', ys'.Perm ys → sortedS ys' = true → H l = none → Q (.ref l) (upd H l (.lst (strV ys')))
theorem call_sortedA : CallR X (.builtin "sorted") (rSortedS X.K) := by
  intro pins s σ H xs us Q I r h
  obtain ⟨p, ys, rfl, hq, hl, q⟩ := h
  obtain ⟨u, rfl, rx⟩ := vals1 r
  cases rx
  obtain ⟨its, rv, pl, hz⟩ := I.list hq
  have hlen := rv.length
  have hn : (strV ys).length = ys.length := List.length_map _
  refine sorted_strs pl.isList (strs_are rv) (by omega) fun out ss' h1 h2 h3 => ?_
  have kp : ∀ b o, s.heap.get? b = some o → (sortedAll s.heap its out).get? b = some o := fun b o e => sortedAll_old e
  obtain ⟨e, he⟩ := sortedAll_at s.heap its out
  have hf : H (s.heap.objs.size + 1) = none := I.hok.fresh (Nat.le_succ _)
  have hz' : (strV ss').length ≤ sizeLine := by
    have := h2.length_eq
    show (ss'.map V.str).length ≤ _
    rw [List.length_map]; rw [hn] at hz; omega
  refine ⟨.ref (s.heap.objs.size + 1), _, I.laid (t' := s.toks) (o := .lst (strV ss')) kp (Nat.le_succ _) ?_, rfl, q _ _ h2 h3 hf⟩
  exact ⟨hz', out.toList, e, vals_strs h1, by simpa [seqObj] using he⟩
def rJoin (K : PySem.W.Frag) : V → List V → Hp → VK → Prop := fun x vs H Q => ∃ z p ys, x = .str z ∧ vs = [.ref p] ∧ (SqL K H p (strV ys) ∨ SqT K H p (strV ys)) ∧ (ys.map (·.length)).sum + ys.length * z.length ≤ 16777216 ∧ Q (.str (PySem.Txt.join z ys)) H
theorem mt_join : MtR X "str.join" (rJoin X.K) := by
  intro pins s σ H x vs v us Q I rx rv h
  obtain ⟨z, p, ys, rfl, rfl, hq, hs, q⟩ := h
  obtain ⟨t, rfl⟩ := rx
  obtain ⟨u, rfl, ru⟩ := rv.one
  cases ru
  rcases hq with hq | hq
  · obtain ⟨its, r, pl, hz⟩ := I.list hq
    exact wpAny_with_toks (n := 1) I.tk (join_list pl.isList (by simpa using strs_are r) hs fun t' k ht => ⟨.str _, H, I.tok _ ht, ⟨_, rfl⟩, q⟩)
  · obtain ⟨its, r, pl, hz⟩ := I.tuple hq
    exact wpAny_with_toks (n := 1) I.tk (join_tuple pl (by simpa using strs_are r) hs fun t' k ht => ⟨.str _, H, I.tok _ ht, ⟨_, rfl⟩, q⟩)
end
end L2
namespace L2
open PySem PySem.Spec PyProof.Rows PySem.SeqAt
def iAny (K : PySem.W.Frag) (tl : TE) : TI := fun σ H R => tl σ H fun x H1 => ∃ a, x = .ref a ∧ (((∃ xs, SqL K H1 a xs) ∧ R (Itl K a) H1) ∨ ((∃ xs, SqT K H1 a xs) ∧ R (Itt K a) H1))
theorem pi_any {X : Cx} {tg l : Expr} {tl : TE} (hl : PE X l tl) : PI X tg l (iAny X.K tl) := by
  intro pins s σ H R I h
  refine thn (hl pins s σ H _ I h) fun v s1 ⟨x, H1, I1, r1, q1⟩ => ?_
  obtain ⟨a, e, q⟩ := q1
  subst e
  cases r1
  rcases q with ⟨⟨xs, hq⟩, q⟩ | ⟨⟨xs, hq⟩, q⟩
  · obtain ⟨its, rv, p, hz⟩ := I1.list hq
    refine wpAny_pyIter_list p.isList ?_
    refine ⟨s1.heap.objs.size, [s1.heap.objs.size], _, _, H1, rfl, I1.kept (t' := s1.toks) fun b o e => Heap.get?_push_of_some _ e, turn_list a _, ⟨_, Heap.get?_push_size _ rfl, rfl, rfl⟩, fun b hb => ?_, q⟩
    have e : b = s1.heap.objs.size := by simpa using hb
    subst e
    exact I1.fpOk (Nat.le_refl _) (I1.hok.fresh (Nat.le_refl _))
  · obtain ⟨its, rv, p, hz⟩ := I1.tuple hq
    refine wpAny_pyIter_tuple (show s1.heap.IsTuple a its.toArray from p) ?_
    refine ⟨s1.heap.objs.size, [s1.heap.objs.size], _, _, H1, rfl, I1.kept (t' := s1.toks) fun b o e => Heap.get?_push_of_some _ e, turn_tuple a _, ⟨_, Heap.get?_push_size _ rfl, rfl, rfl⟩, fun b hb => ?_, q⟩
    have e : b = s1.heap.objs.size := by simpa using hb
    subst e
    exact I1.fpOk (Nat.le_refl _) (I1.hok.fresh (Nat.le_refl _))
theorem st_for {wi : TI} {g : TG} {tb : TS} {D : Ends} {σ : St} {H : Hp} (h : wi σ H fun J H1 => ∃ W : Nat → Nat → St → Hp → Prop, (∃ m, W 0 m σ H1) ∧ ∀ i m σ H, W i m σ H →
  (J.stop i H ∧ D.nx σ H) ∨ (J.go i H ∧ ∃ N : St → Hp → Prop, (∀ σ' H', N σ' H' → ∃ m', m' < m ∧ W (i + 1) m' σ' H') ∧ ∀ x H', J.yld i H x H' → g x σ H' fun σ2 H2 => tb { D with nx := N, ct := N, bk := D.nx } σ2 H2)) : tFor wi g tb D σ H := h
abbrev ForW (g : TG) (tb : TS) (D : Ends) (σ : St) (J : It) (H1 : Hp) : Prop := ∃ W : Nat → Nat → St → Hp → Prop, (∃ m, W 0 m σ H1) ∧ ∀ i m σ H, W i m σ H →
  (J.stop i H ∧ D.nx σ H) ∨ (J.go i H ∧ ∃ N : St → Hp → Prop, (∀ σ' H', N σ' H' → ∃ m', m' < m ∧ W (i + 1) m' σ' H') ∧ ∀ x H', J.yld i H x H' → g x σ H' fun σ2 H2 => tb { D with nx := N, ct := N, bk := D.nx } σ2 H2)
theorem any_for {K : PySem.W.Frag} {g : TG} {tb : TS} {D : Ends} {σ : St} {H : Hp} {a : Addr} {xs : List V} (hq : SqL K H a xs ∨ SqT K H a xs) (Pv : Nat → St → Hp → Prop) (h0 : Pv 0 σ H)
    (hl : SqL K H a xs → ∀ i σ H, i ≤ xs.length → Pv i σ H → SqL K H a xs) (ht : SqT K H a xs → ∀ i σ H, i ≤ xs.length → Pv i σ H → SqT K H a xs)
    (hs : ∀ i x σ H, xs[i]? = some x → Pv i σ H → g x σ H fun σ2 H2 => tb { D with nx := PAt Pv (i + 1), ct := PAt Pv (i + 1), bk := D.nx } σ2 H2) (hd : ∀ σ H, Pv xs.length σ H → D.nx σ H) :
    ∃ b, V.ref a = .ref b ∧ (((∃ xs, SqL K H b xs) ∧ ForW g tb D σ (Itl K b) H) ∨ ((∃ xs, SqT K H b xs) ∧ ForW g tb D σ (Itt K b) H)) := by
  refine ⟨a, rfl, ?_⟩
  rcases hq with hq | hq
  · exact .inl ⟨⟨xs, hq⟩, for_list Pv h0 (hl hq) hs hd⟩
  · exact .inr ⟨⟨xs, hq⟩, for_tup Pv h0 (ht hq) hs hd⟩
theorem rng1_for {g : TG} {tb : TS} {D : Ends} {σ : St} {H : Hp} {n : Int} (h0 : 0 ≤ n) (hn : n < 2 ^ 62) (Pv : Nat → St → Hp → Prop) (p0 : Pv 0 σ H)
    (hs : ∀ (i : Nat) σ H, (i : Int) < n → Pv i σ H → g (.int i) σ H fun σ2 H2 => tb { D with nx := PAt Pv (i + 1), ct := PAt Pv (i + 1), bk := D.nx } σ2 H2) (hd : ∀ σ H, Pv n.toNat σ H → D.nx σ H) :
    ∃ j : Int, [V.int n] = [.int j] ∧ -(2 ^ 62) ≤ j ∧ j < 2 ^ 62 ∧ ForW g tb D σ (Itr 0 j.toNat) H :=
  ⟨n, rfl, by omega, hn, for_range (lo := 0) (n := n.toNat) Pv p0 (fun i σ H hi p => by rw [Int.zero_add]; exact hs i σ H (by omega) p) hd⟩
abbrev CompW (g : TG) (tt : TT) (te : TE) (σ' : St) (Q : VK) (J : It) (H1 : Hp) : Prop := ∃ W : Nat → Nat → List V → Hp → Prop, (∃ m, W 0 m [] H1) ∧ ∀ i m ys H, W i m ys H → ys.length ≤ sizeLine ∧
    ((J.stop i H ∧ ∀ p, H p = none → Q (.ref p) (upd H p (.lst ys))) ∨
     (J.go i H ∧ ∃ NN : List V → Hp → Prop, (∀ ys' H', NN ys' H' → ∃ m', m' < m ∧ W (i + 1) m' ys' H') ∧ ∀ x H', J.yld i H x H' → g x σ' H' fun σ2 H2 => tt σ2 H2 fun b H3 =>
        if b = true then te σ2 H3 fun y H4 => NN (ys ++ [y]) H4 else NN ys H3))
theorem st_comp {fr : List (Option Nat)} {wi : TI} {g : TG} {tt : TT} {te : TE} {σ : St} {H : Hp} {Q : VK} (h : wi σ H (CompW g tt te (grab fr σ) Q)) : tComp fr wi g tt te σ H Q := h
theorem comp_of {J : It} {n : Nat} {g : TG} {tt : TT} {te : TE} {σ' : St} {H : Hp} {Q : VK} (item : Nat → V → Prop) (Pv : Nat → List V → Hp → Prop) (h0 : Pv 0 [] H) (hlen : ∀ i ys H, i ≤ n → Pv i ys H → ys.length ≤ sizeLine)
    (hgo : ∀ i ys H, i < n → Pv i ys H → J.go i H) (hy : ∀ i ys H x H', i < n → Pv i ys H → J.yld i H x H' → H' = H ∧ item i x) (hst : ∀ ys H, Pv n ys H → J.stop n H)
    (hs : ∀ i x ys H, i < n → item i x → Pv i ys H → g x σ' H fun σ2 H2 => tt σ2 H2 fun b H3 => if b = true then te σ2 H3 fun y H4 => PAt Pv (i + 1) (ys ++ [y]) H4 else PAt Pv (i + 1) ys H3)
    (hd : ∀ ys H, Pv n ys H → ∀ p, H p = none → Q (.ref p) (upd H p (.lst ys))) : CompW g tt te σ' Q J H := by
  refine ⟨fun i m ys H => m = n - i ∧ i ≤ n ∧ Pv i ys H, ⟨n, by simp, Nat.zero_le _, h0⟩, ?_⟩
  rintro i m ys H ⟨rfl, hi, p⟩
  refine ⟨hlen i ys H hi p, ?_⟩
  by_cases hlt : i < n
  · refine .inr ⟨hgo i ys H hlt p, Pv (i + 1), fun ys' H' q => ⟨n - (i + 1), by omega, rfl, hlt, q⟩, fun x H' y => ?_⟩
    obtain ⟨rfl, hx⟩ := hy i ys H x H' hlt p y
    exact hs i x ys _ hlt hx p
  · have e : i = n := by omega
    subst e
    exact .inl ⟨hst ys H p, hd ys H p⟩
theorem any_compL {K : PySem.W.Frag} {g : TG} {tt : TT} {te : TE} {σ' : St} {H : Hp} {Q : VK} {a : Addr} {xs : List V} (hq : SqL K H a xs) (Pv : Nat → List V → Hp → Prop) (h0 : Pv 0 [] H) (hlen : ∀ i ys H, i ≤ xs.length → Pv i ys H → ys.length ≤ sizeLine)
    (hl : ∀ i ys H, i ≤ xs.length → Pv i ys H → SqL K H a xs)
    (hs : ∀ i x ys H, xs[i]? = some x → Pv i ys H → g x σ' H fun σ2 H2 => tt σ2 H2 fun b H3 => if b = true then te σ2 H3 fun y H4 => PAt Pv (i + 1) (ys ++ [y]) H4 else PAt Pv (i + 1) ys H3)
    (hd : ∀ ys H, Pv xs.length ys H → ∀ p, H p = none → Q (.ref p) (upd H p (.lst ys))) :
    ∃ b, V.ref a = .ref b ∧ (((∃ xs, SqL K H b xs) ∧ CompW g tt te σ' Q (Itl K b) H) ∨ ((∃ xs, SqT K H b xs) ∧ CompW g tt te σ' Q (Itt K b) H)) := by
  refine ⟨a, rfl, .inl ⟨⟨xs, hq⟩, comp_of (n := xs.length) (fun i x => xs[i]? = some x) Pv h0 hlen (fun i ys H hi p => ?_) (fun i ys H x H' hi p y => ?_) (fun ys H p => ?_) (fun i x ys H _ hx p => hs i x ys H hx p) hd⟩⟩
  · exact ⟨xs, xs[i], hl i ys H (Nat.le_of_lt hi) p, by simp [hi]⟩
  · exact ⟨y.1, y.2 xs (hl i ys H (Nat.le_of_lt hi) p)⟩
  · exact ⟨xs, hl _ ys H (Nat.le_refl _) p, Nat.le_refl _⟩
theorem rng1_comp {g : TG} {tt : TT} {te : TE} {σ' : St} {H : Hp} {Q : VK} {n : Int} (h0 : 0 ≤ n) (hn : n < 2 ^ 62) (Pv : Nat → List V → Hp → Prop) (p0 : Pv 0 [] H) (hlen : ∀ (i : Nat) ys H, (i : Int) ≤ n → Pv i ys H → ys.length ≤ sizeLine)
    (hs : ∀ (i : Nat) ys H, (i : Int) < n → Pv i ys H → g (.int i) σ' H fun σ2 H2 => tt σ2 H2 fun b H3 => if b = true then te σ2 H3 fun y H4 => PAt Pv (i + 1) (ys ++ [y]) H4 else PAt Pv (i + 1) ys H3)
    (hd : ∀ ys H, Pv n.toNat ys H → ∀ p, H p = none → Q (.ref p) (upd H p (.lst ys))) :
    ∃ j : Int, [V.int n] = [.int j] ∧ -(2 ^ 62) ≤ j ∧ j < 2 ^ 62 ∧ CompW g tt te σ' Q (Itr 0 j.toNat) H :=
  ⟨n, rfl, by omega, hn, comp_of (n := n.toNat) (fun i x => x = .int i) Pv p0 (fun i ys H hi p => hlen i ys H (by omega) p) (fun i ys H hi _ => hi) (fun i ys H x H' hi _ y => ⟨y.1, by rw [y.2, Int.zero_add]⟩) (fun ys H _ => Nat.le_refl _)
    (fun i x ys H hi hx p => by subst hx; exact hs i ys H (by omega) p) hd⟩
theorem rng2_comp {g : TG} {tt : TT} {te : TE} {σ' : St} {H : Hp} {Q : VK} {lo hi : Int} (h1 : -(2 ^ 62) ≤ lo) (h2 : lo ≤ hi) (h3 : hi < 2 ^ 62) (Pv : Nat → List V → Hp → Prop) (p0 : Pv 0 [] H) (hlen : ∀ (i : Nat) ys H, lo + i ≤ hi → Pv i ys H → ys.length ≤ sizeLine)
    (hs : ∀ (i : Nat) ys H, lo + i < hi → Pv i ys H → g (.int (lo + i)) σ' H fun σ2 H2 => tt σ2 H2 fun b H3 => if b = true then te σ2 H3 fun y H4 => PAt Pv (i + 1) (ys ++ [y]) H4 else PAt Pv (i + 1) ys H3)
    (hd : ∀ ys H, Pv (hi - lo).toNat ys H → ∀ p, H p = none → Q (.ref p) (upd H p (.lst ys))) :
    ∃ i j : Int, [V.int lo, V.int hi] = [.int i, .int j] ∧ (-(2 ^ 62) ≤ i ∧ i < 2 ^ 62 ∧ -(2 ^ 62) ≤ j ∧ j < 2 ^ 62) ∧ CompW g tt te σ' Q (Itr i (j - i).toNat) H :=
  ⟨lo, hi, rfl, ⟨h1, by omega, by omega, h3⟩, comp_of (n := (hi - lo).toNat) (fun i x => x = .int (lo + i)) Pv p0 (fun i ys H hi' p => hlen i ys H (by omega) p) (fun i ys H hi' _ => hi') (fun i ys H x H' hi' _ y => y) (fun ys H _ => Nat.le_refl _)
    (fun i x ys H hi' hx p => by subst hx; exact hs i ys H (by omega) p) hd⟩
section
variable {σ : St} {H : Hp} {Q : VK} {D : Ends}
theorem st_seq {t u : TS} (h : t { D with nx := u D } σ H) : tSeq t u D σ H := h
theorem st_next (h : D.nx σ H) : tNext D σ H := h
theorem st_asg {te : TE} {g : TG} (h : te σ H fun x H1 => g x σ H1 D.nx) : tAsg te g D σ H := h
theorem st_name {i : Nat} {v : V} {R : St → Hp → Prop} (h : R (σ.set i (some v)) H) : gName i v σ H R := h
theorem st_var {i : Nat} {v : V} (e : σ[i]? = some (some v)) (h : Q v H) : tVar i σ H Q := ⟨v, e, h⟩
theorem st_C {v : V} (h : Q v H) : tC v σ H Q := h
theorem st_op {r : R2} {ta tb : TE} (h : ta σ H fun x H1 => tb σ H1 fun y H2 => r x y H2 Q) : tOp r ta tb σ H Q := h
theorem st_un {r : V → Hp → VK → Prop} {ta : TE} (h : ta σ H fun x H1 => r x H1 Q) : tUn r ta σ H Q := h
theorem st_ret {te : TE} (h : te σ H D.rt) : tRet te D σ H := h
theorem st_drop {te : TE} (h : te σ H fun _ H1 => D.nx σ H1) : tDrop te D σ H := h
theorem st_if {c : TT} {t u : TS} (h : c σ H fun b H1 => if b = true then t D σ H1 else u D σ H1) : tIfS c t u D σ H := h
theorem st_ifE {c : TT} {ta tb : TE} (h : c σ H fun b H1 => if b = true then ta σ H1 Q else tb σ H1 Q) : tIf c ta tb σ H Q := h
theorem st_test {t : TE} {R : Bool → Hp → Prop} (h : t σ H fun x H' => ∃ k, x = .bl k ∧ R k H') : tTest t σ H R := h
theorem st_B {t : TE} {R : Bool → Hp → Prop} (h : t σ H fun x H' => ∃ k, x = .bl k ∧ R k H') : tB t σ H R := h
theorem st_bl {b : Bool} {R : Bool → Prop} (h : R b) : ∃ k, V.bl b = .bl k ∧ R k := ⟨b, rfl, h⟩
theorem st_and {t u : TT} {R : Bool → Hp → Prop} (h : t σ H fun c H1 => if c = true then u σ H1 R else R false H1) : tAnd t u σ H R := h
theorem st_or {t u : TT} {R : Bool → Hp → Prop} (h : t σ H fun c H1 => if c = true then R true H1 else u σ H1 R) : tOr t u σ H R := h
theorem st_not {t : TT} {R : Bool → Hp → Prop} (h : t σ H fun c H1 => R (!c) H1) : tNot t σ H R := h
theorem st_nil {R : List V → Hp → Prop} (h : R [] H) : tNil σ H R := h
theorem st_cons {ta : TE} {tr : TA} {R : List V → Hp → Prop} (h : ta σ H fun x H1 => tr σ H1 fun xs H2 => R (x :: xs) H2) : tCons ta tr σ H R := h
theorem st_tup {t : TA} (h : t σ H fun xs H1 => xs.length ≤ sizeLine ∧ ∀ p, H1 p = none → Q (.ref p) (upd H1 p (.tup xs))) : tTup t σ H Q := h
theorem st_lst {t : TA} (h : t σ H fun xs H1 => xs.length ≤ sizeLine ∧ ∀ p, H1 p = none → Q (.ref p) (upd H1 p (.lst xs))) : tLst t σ H Q := h
theorem st_call {sp : Sp} {dvs : List V} {E : XK} {t : TA} (h : t σ H fun vs H1 => sp (vs ++ dvs) H1 Q E) : tCall sp dvs E t σ H Q := h
theorem st_CB {r : List V → Hp → VK → Prop} {t : TA} (h : t σ H fun vs H1 => r vs H1 Q) : tCB r t σ H Q := h
theorem st_tt {R : Bool → Hp → Prop} (h : R true H) : tTT σ H R := h
theorem st_any {K : PySem.W.Frag} {tl : TE} {R : It → Hp → Prop} (h : tl σ H fun x H1 => ∃ a, x = .ref a ∧ (((∃ xs, SqL K H1 a xs) ∧ R (Itl K a) H1) ∨ ((∃ xs, SqT K H1 a xs) ∧ R (Itt K a) H1))) : iAny K tl σ H R := h
theorem st_rng1 {ta : TA} {R : It → Hp → Prop} (h : ta σ H fun vs H1 => ∃ j : Int, vs = [.int j] ∧ -(2 ^ 62) ≤ j ∧ j < 2 ^ 62 ∧ R (Itr 0 j.toNat) H1) : iRng1 ta σ H R := h
theorem st_rng2 {ta : TA} {R : It → Hp → Prop} (h : ta σ H fun vs H1 => ∃ i j : Int, vs = [.int i, .int j] ∧ (-(2 ^ 62) ≤ i ∧ i < 2 ^ 62 ∧ -(2 ^ 62) ≤ j ∧ j < 2 ^ 62) ∧ R (Itr i (j - i).toNat) H1) : iRng2 ta σ H R := h
theorem st_sub {to ti : TE} {t : TSet} {v : V} {R : St → Hp → Prop} (h : to σ H fun o H1 => ti σ H1 fun i H2 => t o i v H2 fun H3 => R σ H3) : gSub to ti t v σ H R := h
theorem st_bm {K : PySem.W.Frag} {T : String} {r : V → List V → Hp → VK → Prop} {to : TE} {t : TA} (h : to σ H fun x H1 => tyV K T x H1 ∧ t σ H1 fun xs H2 => r x xs H2 Q) : tBM K T r to t σ H Q := h
end
section
variable {H : Hp} {Q : VK} {K : PySem.W.Frag}
theorem v_addI {i j : Int} (h : Q (.int (i + j)) H) : rAddA K (.int i) (.int j) H Q := .inl ⟨i, j, rfl, rfl, h⟩
theorem v_addS {i j : Str} (hz : i.length + j.length ≤ sizeLine) (h : Q (.str (i ++ j)) H) : rAddA K (.str i) (.str j) H Q := .inr (.inl ⟨i, j, rfl, rfl, hz, h⟩)
theorem v_cat {a b : Addr} {xs ys : List V} (h1 : H a = some (.lst xs)) (h2 : H b = some (.lst ys)) (hz : xs.length + ys.length ≤ sizeLine) (h : ∀ p, H p = none → Q (.ref p) (upd H p (.lst (xs ++ ys)))) : rAddA K (.ref a) (.ref b) H Q := .inr (.inr (.inl ⟨a, b, xs, ys, rfl, rfl, h1, h2, hz, h⟩))
theorem v_mulI {i j : Int} (c : CMul i j) (h : Q (.int (i * j)) H) : rMulA (.int i) (.int j) H Q := .inl ⟨i, j, rfl, rfl, c, h⟩
theorem v_fdiv {i j : Int} (c : CDiv i j) (h : Q (.int (i / j)) H) : rI CDiv (fun i j => .int (i / j)) (.int i) (.int j) H Q := ⟨i, j, rfl, rfl, c, h⟩
theorem v_mod {i j : Int} (c : 0 < j) (h : Q (.int (i % j)) H) : rI (fun _ j => 0 < j) (fun i j => .int (i % j)) (.int i) (.int j) H Q := ⟨i, j, rfl, rfl, c, h⟩
theorem v_ltI {i j : Int} (h : Q (.bl (decide (i < j))) H) : rLtA (.int i) (.int j) H Q := .inl ⟨i, j, rfl, rfl, h⟩
theorem v_gtI {i j : Int} (h : Q (.bl (decide (j < i))) H) : rGtA (.int i) (.int j) H Q := .inl ⟨i, j, rfl, rfl, h⟩
theorem v_eq {x y : V} (c : scal x y = true) (h : Q (.bl (decide (x = y))) H) : rEqA K x y H Q := .inl ⟨c, h⟩
theorem v_ne {x y : V} (c : scal x y = true) (h : Q (.bl (!decide (x = y))) H) : rNeA K x y H Q := .inl ⟨c, h⟩
theorem v_eqM {x y : V} {d e : PyData} (h1 : Dv K H d x) (h2 : Dv K H e y) (hz : min d.depth e.depth ≤ 190) (h : Q (.bl (PyData.eqv d e)) H) : rEqA K x y H Q := .inr ⟨d, e, h1, h2, hz, h⟩
theorem v_ixL {p : Addr} {xs : List V} {i : Int} {v : V} (h1 : SqL K H p xs) (e : atI xs i = some v) (h : Q v H) : rIx K (.ref p) (.int i) H Q := .inl ⟨p, xs, i, v, rfl, rfl, h1, e, h⟩
theorem v_ixT {p : Addr} {xs : List V} {i : Int} {v : V} (h1 : SqT K H p xs) (e : atI xs i = some v) (h : Q v H) : rIx K (.ref p) (.int i) H Q := .inr (.inl ⟨p, xs, i, v, rfl, rfl, h1, e, h⟩)
theorem v_ixS {z : Str} {i : Int} {c : Nat} (hz : z.length ≤ sizeLine) (e : atI z.cps.toList i = some c) (h : Q (.str ⟨#[c]⟩) H) : rIx K (.str z) (.int i) H Q := .inr (.inr ⟨z, i, c, rfl, rfl, hz, e, h⟩)
theorem v_in {x : V} {p : Addr} {xs : List V} (h1 : SqL K H p xs ∨ SqT K H p xs) (fx : flatV x = true) (fs : xs.all flatV = true) (h : Q (.bl (inV x xs)) H) : rInA K false x (.ref p) H Q := .inl ⟨p, xs, rfl, h1, fx, fs, h⟩
theorem v_lenQ {p : Addr} {xs : List V} (h1 : SqL K H p xs ∨ SqT K H p xs) (h : Q (.int xs.length) H) : rLenA K [.ref p] H Q := .inl ⟨p, xs, rfl, h1, h⟩
theorem v_lenS {z : Str} (hz : z.length ≤ sizeLine) (h : Q (.int z.length) H) : rLenA K [.str z] H Q := .inr (.inl ⟨z, rfl, hz, h⟩)
theorem v_setL {p : Addr} {xs : List V} {k : Int} {v : V} {j : Nat} {R : Hp → Prop} (h1 : H p = some (.lst xs)) (e : ixN xs.length k = some j) (h : R (upd H p (.lst (xs.set j v)))) : rSetL (.ref p) (.int k) v H R := ⟨p, xs, k, j, rfl, rfl, h1, e, h⟩
theorem v_append {p : Addr} {xs : List V} {y : V} (h1 : H p = some (.lst xs)) (hz : xs.length < sizeLine) (h : Q .non (upd H p (.lst (xs ++ [y])))) : rAppend (.ref p) [y] H Q := ⟨p, xs, y, rfl, rfl, h1, hz, h⟩
end
end L2
namespace L2
open PySem PySem.Spec PyProof.Rows PySem.SeqAt
theorem sub_ri_reversed : isSubtype (.type "range_iterator") (.type "reversed") = pure false := by rw [isSubtype_type]; kernel_rfl
theorem range_rev_meets (r : Addr) (a b c : Int) (t u v : Tok) (hc0 : ¬(!(Builtin.Range.rangeFitsLong a && Builtin.Range.rangeFitsLong b && Builtin.Range.rangeFitsLong c && Builtin.Range.rangeFitsLong (-c) && Builtin.Range.rangeFitsLong (a - c) && Builtin.Range.rangeFitsLong (Builtin.Range.rangeSize a b c))) = true) :
    Meets (Builtin.«range.__reversed__» ⟨[.ref r], []⟩) (fun _ R s => s.heap.get? r = some { cls := .type "range", dict := none, data := .fields #[.int a t, .int b u, .int c v], slots := #[] } ∧
      R (.ok (.ret (Value.ref s.heap.objs.size))) { s with heap := s.heap.push { cls := Value.type (if (Builtin.Range.rangeFitsLong a && Builtin.Range.rangeFitsLong b && Builtin.Range.rangeFitsLong c && Builtin.Range.rangeFitsLong (-c) && Builtin.Range.rangeFitsLong (a - c) && Builtin.Range.rangeFitsLong (Builtin.Range.rangeSize a b c)) = true then "range_iterator" else "longrange_iterator"), data := .fields #[rawInt (a + (Builtin.Range.rangeSize a b c - 1) * c), rawInt (Builtin.Range.rangeSize a b c), rawInt (-c)] } }) :=
  .of_wp fun prog w A R s h => by obtain ⟨hp, g, d, tk, os⟩ := s; obtain ⟨hl, h⟩ := h; wp_walk; exact ⟨_, rfl, h⟩
section
variable {prog : Program} {w : World} {A : Around} {E : Value → Shared → Prop} {s : Shared}
def revRng (n : Int) : Obj := { cls := .type "range_iterator", data := .fields #[rawInt (n - 1), rawInt n, rawInt (-1)] }
theorem call_range_rev {r : Addr} {n : Int} {t u v : Tok} {Q : Value → Shared → Prop} (hr : s.heap.get? r = some { cls := .type "range", data := .fields #[.int 0 t, .int n u, .int 1 v] }) (h0 : 0 ≤ n) (h1 : n < 2 ^ 62)
    (h : Q (.ref s.heap.objs.size) { s with heap := s.heap.push (revRng n) }) : wpAny (model prog w) A (call (.builtin "range.__reversed__") [.ref r]) Q E s := by
  have e1 : Builtin.Range.rangeSize 0 n 1 = n := by rw [rangeSize_one]; split <;> omega
  have fit : ∀ k : Int, -(2 ^ 62) ≤ k → k ≤ 2 ^ 62 → Builtin.Range.rangeFitsLong k = true := fun k a b => by
    unfold Builtin.Range.rangeFitsLong
    simp only [Bool.and_eq_true, decide_eq_true_eq]
    constructor <;> omega
  have sm : (Builtin.Range.rangeFitsLong 0 && Builtin.Range.rangeFitsLong n && Builtin.Range.rangeFitsLong 1 && Builtin.Range.rangeFitsLong (-1) && Builtin.Range.rangeFitsLong (0 - 1) && Builtin.Range.rangeFitsLong (Builtin.Range.rangeSize 0 n 1)) = true := by
    rw [e1, fit 0 (by decide) (by decide), fit n (by omega) (by omega), fit 1 (by decide) (by decide), fit (-1) (by decide) (by decide), fit (0 - 1) (by decide) (by decide)]; rfl
  refine call_meets F.slot_range_reversed ⟨_, hr, rfl⟩ F.entry_range_reversed (F.args_range_reversed_1 _) (range_rev_meets r 0 n 1 t u v (by rw [sm]; decide)) ⟨hr, ?_⟩
  rw [if_pos sm, e1]
  have e2 : (0 : Int) + (n - 1) * 1 = n - 1 := by omega
  rw [e2]
  exact h
theorem code_reversed_rng {r : Addr} {n : Int} {t u v : Tok} {Q₁ : Value → Shared → Prop} (hr : s.heap.get? r = some { cls := .type "range", data := .fields #[.int 0 t, .int n u, .int 1 v] }) (h0 : 0 ≤ n) (h1 : n < 2 ^ 62)
    (h : Q₁ (.ref s.heap.objs.size) { s with heap := s.heap.push (revRng n) }) :
    codeAny (model prog w) A (.call (.builtin "reversed.__new__") ⟨[.type "reversed", .ref r], []⟩) (wants Q₁ E) s := by
  have hT : s.TypeIs (.ref r) "range" := ⟨_, hr, rfl⟩
  refine codeAny_of_tree ?_
  show wpAny _ A.in1 (do checkBuiltinCall "reversed.__new__" ⟨[.type "reversed", .ref r], []⟩; again (.builtin "reversed.__new__" ⟨[.type "reversed", .ref r], []⟩)) _ _ s
  refine wpAny_bind (wpAny_of_eq (F.newCall_reversed_1 _) (wpAny_pure ⟨plainId_quiet F.plain_reversed_new _, codeAny_builtin F.entry_reversed_new ?_⟩))
  rw [Around.under_plainId F.plain_reversed_new _]
  unfold Builtin.«reversed.__new__»
  refine wpAny_bind (wpAny_of_eq (newClass_reversed _) ?_)
  try dsimp only
  refine wpAny_bind (wpAny_of_eq (a := ()) (by first | rfl | kernel_rfl) ?_)
  refine wpAny_bind (wpAny_of_eq (a := ()) (by first | rfl | kernel_rfl) ?_)
  try dsimp only
  refine wpAny_bind (wpAny_specialOf hT F.slot_range_reversed.lookup ?_)
  try dsimp only
  refine wpAny_bind (wpAny_of_eq (F.slot_range_reversed.bind _) ?_)
  try dsimp only
  first
  | rw [if_neg (show ¬ ((Value.builtin "range.__reversed__" == Value.none) = true) from Bool.false_ne_true)]
  | (show wpAny _ _ (if (Value.builtin "range.__reversed__" == Value.none) = true then _ else _) _ _ _; rw [if_neg (show ¬ ((Value.builtin "range.__reversed__" == Value.none) = true) from Bool.false_ne_true)])
  refine wpAny_bind (wpAny_rule ?_)
  refine wpAny_bind (m := runValue (.call (.builtin "range.__reversed__") ⟨[.ref r], []⟩)) (show wpAny _ _ (call (.builtin "range.__reversed__") [.ref r]) _ _ _ from call_range_rev hr h0 h1 ?_)
  first
  | exact wpAny_pure h
  | exact wpAny_bind (wpAny_pure (wpAny_pure h))
theorem call_reversed_rng {r : Addr} {n : Int} {t u v : Tok} {Q : Value → Shared → Prop} (hr : s.heap.get? r = some { cls := .type "range", data := .fields #[.int 0 t, .int n u, .int 1 v] }) (h0 : 0 ≤ n) (h1 : n < 2 ^ 62)
    (h : Q (.ref s.heap.objs.size) { s with heap := s.heap.push (revRng n) }) : wpAny (model prog w) A (call (.type "reversed") [.ref r]) Q E s := by
  refine callType_other (U := "range_iterator") (Q₁ := fun obj s₁ => obj = .ref s.heap.objs.size ∧ s₁ = { s with heap := s.heap.push (revRng n) }) (by decide +kernel) F.create_reversed ⟨_, _, F.mro_reversed⟩ F.made_reversed sub_ri_reversed (F.typeCall_reversed_1 _) (code_reversed_rng hr h0 h1 ⟨rfl, rfl⟩) ?_
  rintro obj s₁ ⟨rfl, rfl⟩
  exact ⟨⟨_, Heap.get?_push_size _ rfl, rfl⟩, h⟩
end
def Itv (n : Nat) : It := ⟨fun i _ => i < n, fun i H x H' => H' = H ∧ x = .int ((n : Int) - 1 - i), fun i _ => n ≤ i⟩
theorem turn_rev {P : Program} {w : World} {K : PySem.W.Frag} {tg : Expr} (it : Addr) (n : Nat) : Turn P w K tg (Itv n) [it] it (fun i h => IsRangeIter h it ((n : Int) - 1 + (i : Nat) * (-1)) ((n : Int) - (i : Nat)) (-1)) where
  mem := by simp
  obj := fun i h st b hb => by
    have e : b = it := by simpa using hb
    subst e
    exact ⟨_, st, fun v z => by
      have z' : Data.fields _ = Data.cell v := z
      cases z'⟩
  keep := fun i h h' st k => k it (by simp) _ st
  item := by
    intro X hP hw hK hc i pins s σ H E I hf st hg
    subst hP hw hK
    obtain ⟨f0, f1, f2, f3, f4, f5⟩ := hf it (by simp)
    have W := Walks.range (prog := X.prog) (w := X.w) (I.ok.hd hc) it ((n : Int) - 1) (-1) n
    refine wpAny_with_toks (n := 1) I.tk (W.item i s _ _ hg st fun v h' tk hv st' kk ht => ?_)
    have ht : 0 < tk := ht
    obtain ⟨t, rfl⟩ := hv
    have I1 : Inv X pins σ H { s with heap := h', toks := tk } := I.turned (fun b o hb e => kk b o (by simpa using hb) e) f0 f1 f3 f4 f5
    refine ⟨_, rfl, go_of (s := { s with heap := h', toks := tk }) (n := "range_iterator") st' rfl rfl (by decide) ⟨.int ((n : Int) - 1 - i), H, I1, ⟨t, ?_⟩, ⟨rfl, rfl⟩, st', fun b hb => (hf b hb).1⟩⟩
    have e : (n : Int) - 1 + (i : Int) * (-1) = (n : Int) - 1 - i := by omega
    rw [e]
  done := by
    intro X hP hw hK hc i pins s σ H E I hf st hg
    subst hP hw hK
    obtain ⟨f0, f1, f2, f3, f4, f5⟩ := hf it (by simp)
    exact wpAny_pyNext_range_end (I.ok.hd hc) st (by have : n ≤ i := hg; omega) fun h' eb => ⟨rfl, I.turned (t' := s.toks) (fun b o hb e => eb b o hb e) f0 f1 f3 f4 f5⟩
  self := fun _ _ _ _ _ st h => wpAny_pyIter_rangeiter st h
def iRevRng (ta : TA) : TI := fun σ H R => ta σ H fun vs H1 => ∃ n : Nat, vs = [.int n] ∧ (n : Int) < 2 ^ 62 ∧ R (Itv n) H1
theorem pi_revrange {X : Cx} {tg : Expr} {a : Expr} {ta : TA} {p p2 pos pos2 : Pos} (hg : Gl X "reversed") (hm : X.mg "reversed" = none) (hg2 : Gl X "range") (hm2 : X.mg "range" = none) (ha : PA X [a] ta)
    (hs : starEach [a] X.env = [(false, eval a X.env)] := by rfl) (hs2 : starEach [.Call (.Name "range" p2) [a] [] pos2] X.env = [(false, eval (.Call (.Name "range" p2) [a] [] pos2) X.env)] := by rfl) :
    PI X tg (.Call (.Name "reversed" p) [.Call (.Name "range" p2) [a] [] pos2] [] pos) (iRevRng ta) := by
  intro pins s σ H R I h
  refine Call_ (ld_blt I hg hm boot_reversed (PyProof.Rows.callWith_type1 (Calls.spliced_cons ?_) hs2 rfl))
  refine Call_ (ld_blt I hg2 hm2 boot_range (PyProof.Rows.callWith_type1 (thn (ha pos2 pins s σ H _ I h) fun us s1 ⟨vs, H1, I1, r1, q1⟩ => ?_) hs rfl))
  obtain ⟨n, e, q1, q⟩ := q1
  subst e
  cases r1 with
  | cons r rr =>
    cases rr
    obtain ⟨t, rfl⟩ := r
    refine call_range_1 (Calls.spliced_nil ?_)
    have I2 : Inv X pins σ H1 { s1 with heap := s1.heap.push { cls := .type "range", data := .fields #[.int 0 s1.toks, .int n t, .int 1 (s1.toks + 1)] }, toks := s1.toks + 1 + 1 } := I1.kept fun b o e => Heap.get?_push_of_some _ e
    refine call_reversed_rng (n := n) (Heap.get?_push_size _ rfl) (by omega) q1 ?_
    refine wpAny_pyIter_rangeiter (x := (n : Int) - 1) (left := n) (step := -1) (Heap.get?_push_size _ rfl) ?_
    refine ⟨_, [_], _, _, H1, rfl, I2.kept (t' := s1.toks + 1 + 1) fun b o e => Heap.get?_push_of_some _ e, turn_rev _ n, ?_, fun b hb => ?_, q⟩
    · have e1 : (n : Int) - 1 + ((0 : Nat) : Int) * (-1) = (n : Int) - 1 := by simp
      have e2 : (n : Int) - ((0 : Nat) : Int) = n := by simp
      rw [e1, e2]
      exact Heap.get?_push_size _ rfl
    · have e : b = (s1.heap.push { cls := .type "range", data := .fields #[.int 0 s1.toks, .int n t, .int 1 (s1.toks + 1)] }).objs.size := by simpa using hb
      subst e
      exact I2.fpOk (Nat.le_refl _) (I2.hok.fresh (Nat.le_refl _))
theorem st_rev {σ : St} {H : Hp} {ta : TA} {R : It → Hp → Prop} (h : ta σ H fun vs H1 => ∃ n : Nat, vs = [.int n] ∧ (n : Int) < 2 ^ 62 ∧ R (Itv n) H1) : iRevRng ta σ H R := h
theorem rev_for {g : TG} {tb : TS} {D : Ends} {σ : St} {H : Hp} {n : Nat} (hn : (n : Int) < 2 ^ 62) (Pv : Nat → St → Hp → Prop) (p0 : Pv 0 σ H)
    (hs : ∀ (i : Nat) σ H, i < n → Pv i σ H → g (.int ((n : Int) - 1 - i)) σ H fun σ2 H2 => tb { D with nx := PAt Pv (i + 1), ct := PAt Pv (i + 1), bk := D.nx } σ2 H2) (hd : ∀ σ H, Pv n σ H → D.nx σ H) :
    ∃ m : Nat, [V.int n] = [.int m] ∧ (m : Int) < 2 ^ 62 ∧ ForW g tb D σ (Itv m) H := by
  refine ⟨n, rfl, hn, fun i m σ H => m = n - i ∧ i ≤ n ∧ Pv i σ H, ⟨n, by simp, Nat.zero_le _, p0⟩, ?_⟩
  rintro i m σ H ⟨rfl, hi, p⟩
  by_cases hlt : i < n
  · refine .inr ⟨hlt, Pv (i + 1), fun σ' H' p' => ⟨n - (i + 1), by omega, rfl, hlt, p'⟩, fun x H' y => ?_⟩
    obtain ⟨e, y⟩ := y
    subst e y
    exact hs i σ _ hlt p
  · have e : i = n := by omega
    subst e
    exact .inl ⟨Nat.le_refl _, hd σ H p⟩
section
variable {X : Cx}
def rSetA : TSet := fun o i v H Q => rSetL o i v H Q ∨ ∃ a H', o = .ref a ∧ DPut H a i v H' ∧ Q H'
theorem set_any' (hu : X.A.units + 1 < cLine) : PSet X rSetA := by
  intro pins s σ H o i v ov iv u Q I ro ri rv h
  rcases h with h | ⟨a, H', rfl, g, q⟩
  · exact set_list pins s σ H o i v ov iv u Q I ro ri rv h
  · cases ro
    exact d_setItem hu I g ri rv fun s' I' => ⟨H', I', q⟩
def rIxA (K : PySem.W.Frag) : R2 := rIx K
theorem ix_any' (hu : X.A.units + 1 < cLine) : IxR X (rIxA X.K) := ix_seq
def rInD (neg : Bool) : R2 := fun x y H Q => ∃ a o, y = .ref a ∧ DGet H a x o ∧ Q (.bl (if neg then !o.isSome else o.isSome)) H
def rInB (K : PySem.W.Frag) (neg : Bool) : R2 := fun x y H Q => rInA K neg x y H Q ∨ rInD neg x y H Q
theorem op_inB (hu : X.A.units + 1 < cLine) : OpR X (compareOp .In) (rInB X.K false) := by
  refine op_inA.or ?_
  intro pins s σ H x y v u Q I rx ry h
  obtain ⟨a, o, rfl, g, q⟩ := h
  cases ry
  exact d_in hu I g rx fun s' I' => ⟨.bl o.isSome, H, I', rfl, q⟩
theorem op_notinB (hu : X.A.units + 1 < cLine) : OpR X (compareOp .NotIn) (rInB X.K true) := by
  refine op_notinA.or ?_
  intro pins s σ H x y v u Q I rx ry h
  obtain ⟨a, o, rfl, g, q⟩ := h
  cases ry
  exact d_notIn hu I g rx fun s' I' => ⟨.bl (!o.isSome), H, I', rfl, q⟩
def rIsi (K : PySem.W.Frag) : List V → Hp → VK → Prop := fun xs H Q => (∃ (x : V) (T : String) (t : Value) (b : Bool), xs = [x, .ty T] ∧ TyOf K H x t ∧ PySem.W.kitOne K t (.type T) = some b ∧ Q (.bl b) H) ∨
  ∃ (a : Addr) (ys : List V) (T : String) (b : Bool), xs = [.ref a, .ty T] ∧ SqT K H a ys ∧ PySem.W.kitOne K (.type "tuple") (.type T) = some b ∧ Q (.bl b) H
theorem call_isinstanceA : CallR X (.builtin "isinstance") (rIsi X.K) := by
  intro pins s σ H xs us Q I r h
  rcases h with ⟨x, T, t, b, rfl, ty, e, q⟩ | ⟨a, ys, T, b, rfl, hq, e, q⟩
  · obtain ⟨u, w', rfl, r1, r2⟩ := vals2 r
    cases r2
    exact wpAny_with_toks (n := 1) I.tk (isinst_ok I r1 ty e fun tk ht => ⟨.bl b, H, I.tok _ ht, rfl, q⟩)
  · obtain ⟨u, w', rfl, r1, r2⟩ := vals2 r
    cases r2
    cases r1
    obtain ⟨its, rv, pl, hz⟩ := I.tuple hq
    obtain ⟨o, h1, h2, _⟩ := pl
    exact wpAny_with_toks (n := 1) I.tk (PySem.W.kia_one PySem.W.kitx_tuple I.kIn ⟨o, h1, h2⟩ e (fun z => nomatch z) fun tk ht => ⟨.bl b, H, I.tok _ ht, rfl, q⟩)
theorem v_isi {K : PySem.W.Frag} {H : Hp} {Q : VK} {x : V} {T : String} {t : Value} {b : Bool} (ty : TyOf K H x t) (e : PySem.W.kitOne K t (.type T) = some b) (h : Q (.bl b) H) : rIsi K [x, .ty T] H Q := .inl ⟨x, T, t, b, rfl, ty, e, h⟩
theorem v_isiT {K : PySem.W.Frag} {H : Hp} {Q : VK} {a : Addr} {ys : List V} {T : String} {b : Bool} (hq : SqT K H a ys) (e : PySem.W.kitOne K (.type "tuple") (.type T) = some b) (h : Q (.bl b) H) : rIsi K [.ref a, .ty T] H Q := .inr ⟨a, ys, T, b, rfl, hq, e, h⟩
example (K : PySem.W.Frag) : PySem.W.kitOne K (.type "str") (.type "str") = some true := by rfl
example (K : PySem.W.Frag) : PySem.W.kitOne K (.type "bool") (.type "int") = some true := by rfl
example (K : PySem.W.Frag) : PySem.W.kitOne K (.type "int") (.type "bool") = some false := by rfl
example (K : PySem.W.Frag) : PySem.W.kitOne K (.type "list") (.type "list") = some true := by rfl
end
end L2
namespace L2
open PySem PySem.Spec PyProof.Rows PySem.SeqAt
section
variable {X : Cx} {pins : List (Addr × Obj)} {σ : List (Option V)} {H : Hp} {s : Shared} {h' : Heap}
theorem Inv.turnLaid {a : Addr} {o : HO} {t' : Nat} {ch : List Addr} (I : Inv X pins σ H s) (hf : ∀ b ∈ ch, FpOk X pins H b)
    (k : ∀ b u, b ∉ ch → s.heap.get? b = some u → h'.get? b = some u) (hp : s.heap.objs.size ≤ a) (new : ObjOk X.prog X.w (upd H a o) h' a o) (ht : 0 < t') :
    Inv X pins σ (upd H a o) { s with heap := h', toks := t' } := by
  have hn : H a = none := I.hok.fresh hp
  have nit : ∀ b u, H b = some u → b ∉ ch := fun b u e z => by rw [(hf b z).1] at e; cases e
  have up : ∀ {b : Addr} {u : HO}, H b = some u → upd H a o b = some u := fun {b u} e => by rw [upd_ne (ne_of_none e hn)]; exact e
  have neA : ∀ b u, s.heap.get? b = some u → b ≠ a := fun b u e => Nat.ne_of_lt (Nat.lt_of_lt_of_le (Heap.lt_size e) hp)
  refine I.step (g' := s.gens) (d' := s.drawn) (ch := ch) (fun b hb => ?_) (fun b u _ _ hc e _ => k b u hc e) (fun b u _ _ hc e _ => ⟨u.slots, k b u hc e⟩) (fun b u _ e n => by rw [upd_ne (neA b u e)]; exact n)
    (fun b u hc e => ⟨u, k b u hc e⟩) (fun _ _ e => up e) (fun _ _ _ e => up e) (fun b ps e => ⟨#[], by rw [up e]; simp⟩) (fun m hm => ?_) (fun b u e => ?_) I.bare ht
  · obtain ⟨f0, f1, f2, f3, f4, f5⟩ := hf b hb
    exact ⟨f3, f1, f4, f5⟩
  · obtain ⟨ob, es, ep, ho, r⟩ := hm
    exact ⟨ob, es, ep, k _ ob (fun z => (hf _ z).2.1 rfl) ho, r⟩
  · by_cases hb : b = a
    · subst hb; rw [upd_same] at e; cases e; exact new
    · rw [upd_ne hb] at e
      refine (I.hok b u e).stay (fun c v hc q => k c v ?_ q) (fun _ q => up q) fun _ _ q => up q
      rcases hc with z | z
      · rw [z]; exact nit b u e
      · exact nit c _ z
end
def Itx (n : Nat) (V' : Nat → V → Prop) : It := ⟨fun i _ => i < n, fun i H x H' => H' = H ∧ V' i x, fun i _ => n ≤ i⟩
theorem turn_walks {P : Program} {w : World} {K : PySem.W.Frag} {tg : Expr} {it : Addr} {n : Nat} {Pv : Nat → Value → Prop} {St : Nat → Heap → Prop} {V' : Nat → V → Prop} {T : String} {vs : Nat → Array Value}
    (W : ∀ A : Around, A.handled = none → Walks P w A it [it] [it] n Pv St) (hV : ∀ i v, Pv i v → ∃ x, RelV x v ∧ V' i x)
    (hO : ∀ i h, St i h → ∃ o, h.get? it = some o ∧ o.cls = .type T ∧ o.data = .fields (vs i))
    (hT : ["enumerate", "zip", "dict_itemiterator", "dict_reverseitemiterator", "odict_iterator", "itertools.zip_longest", "itertools.pairwise"].contains T = false)
    (hS : ∀ (A : Around) (i : Nat) (s : Shared) (Q : Value → Shared → Prop) (E : Value → Shared → Prop), St i s.heap → Q (.ref it) s → wpAny (model P w) A (pyIter (.ref it)) Q E s) :
    Turn P w K tg (Itx n V') [it] it (fun i h => i ≤ n ∧ St i h) where
  mem := by simp
  obj := fun i h st b hb => by
    have e : b = it := by simpa using hb
    subst e
    obtain ⟨o, e, _, d⟩ := hO i h st.2
    exact ⟨o, e, fun v z => by rw [d] at z; cases z⟩
  keep := fun i h h' st k => ⟨st.1, (W {} rfl).frame i h h' st.2 k⟩
  item := by
    intro X hP hw hK hc i pins s σ H E I hf st hg
    subst hP hw hK
    obtain ⟨f0, f1, f2, f3, f4, f5⟩ := hf it (by simp)
    refine wpAny_with_toks (n := 1) I.tk ((W X.A (I.ok.hd hc)).item i s _ _ hg st.2 fun v h' tk hv st' kk ht => ?_)
    have ht : 0 < tk := ht
    obtain ⟨x, rx, vx⟩ := hV i v hv
    have I1 : Inv X pins σ H { s with heap := h', toks := tk } := I.turned (fun b o hb e => kk b o (by simpa using hb) e) f0 f1 f3 f4 f5
    obtain ⟨o, e, c, d⟩ := hO _ _ st'
    exact ⟨v, rfl, go_of (s := { s with heap := h', toks := tk }) e c d hT ⟨x, H, I1, rx, ⟨rfl, vx⟩, ⟨hg, st'⟩, fun b hb => (hf b hb).1⟩⟩
  done := by
    intro X hP hw hK hc i pins s σ H E I hf st hg
    subst hP hw hK
    obtain ⟨f0, f1, f2, f3, f4, f5⟩ := hf it (by simp)
    have hi : i = n := Nat.le_antisymm st.1 hg
    subst hi
    exact wpAny_with_toks (n := 1) I.tk ((W X.A (I.ok.hd hc)).done s _ _ st.2 fun h' tk eb ht => ⟨rfl, I.turned (fun b o hb e => eb b o (by simpa using hb) e) f0 f1 f3 f4 f5 ht⟩)
  self := fun A i s Q E st h => hS A i s Q E st.2 h
section
variable {X : Cx} {pins : List (Addr × Obj)} {σ : List (Option V)} {H : Hp} {s : Shared} {h' : Heap}
theorem Inv.turnedL {t' : Nat} {ch : List Addr} (I : Inv X pins σ H s) (hf : ∀ b ∈ ch, FpOk X pins H b) (k : ∀ b u, b ∉ ch → s.heap.get? b = some u → h'.get? b = some u) (ht : 0 < t') :
    Inv X pins σ H { s with heap := h', toks := t' } := by
  have nit : ∀ b u, H b = some u → b ∉ ch := fun b u e z => by rw [(hf b z).1] at e; cases e
  refine I.step (g' := s.gens) (d' := s.drawn) (ch := ch) (fun b hb => ?_) (fun b u _ _ hc e _ => k b u hc e) (fun b u _ _ hc e _ => ⟨u.slots, k b u hc e⟩) (fun _ _ _ _ n => n)
    (fun b u hc e => ⟨u, k b u hc e⟩) (fun _ _ e => e) (fun _ _ _ e => e) (fun b ps e => ⟨#[], by rw [e]; simp⟩) (fun m hm => ?_) (fun b u e => ?_) I.bare ht
  · obtain ⟨f0, f1, f2, f3, f4, f5⟩ := hf b hb
    exact ⟨f3, f1, f4, f5⟩
  · obtain ⟨ob, es, ep, ho, r⟩ := hm
    exact ⟨ob, es, ep, k _ ob (fun z => (hf _ z).2.1 rfl) ho, r⟩
  · refine (I.hok b u e).stay (fun c v hc q => k c v ?_ q) (fun _ q => q) fun _ _ q => q
    rcases hc with z | z
    · rw [z]; exact nit b u e
    · exact nit c _ z
end
theorem walks_str {P : Program} {w : World} {A : Around} (hh : A.handled = none) (it : Addr) (x : Str) (t : Tok) : Walks P w A it [it] [it] x.cps.size (SignAt x) (fun i h => h.IsStrIter it (strIterType x) x t i) := by
  unfold strIterType
  split
  · exact Walks.strAscii hh it x t
  · exact Walks.strWide hh it x t
theorem pyIter_strI {P : Program} {w : World} {A : Around} {E : Value → Shared → Prop} {s : Shared} {it : Addr} {x : Str} {t : Tok} {i : Nat} {Q : Value → Shared → Prop} (hit : s.heap.IsStrIter it (strIterType x) x t i) (h : Q (.ref it) s) :
    wpAny (model P w) A (pyIter (.ref it)) Q E s := by
  unfold strIterType at hit
  split at hit
  · exact wpAny_pyIter_striter_ascii hit h
  · exact wpAny_pyIter_striter_wide hit h
def signV (z : Str) (i : Nat) (x : V) : Prop := ∃ c, z.cps.toList[i]? = some c ∧ x = .str ⟨#[c]⟩
theorem signAt_V {z : Str} (i : Nat) (v : Value) (h : SignAt z i v) : ∃ x, RelV x v ∧ signV z i x := by
  obtain ⟨c, u, e, rfl⟩ := h
  exact ⟨.str ⟨#[c]⟩, ⟨u, rfl⟩, c, by simpa using e, rfl⟩
theorem turn_str {P : Program} {w : World} {K : PySem.W.Frag} {tg : Expr} (it : Addr) (z : Str) (t : Tok) : Turn P w K tg (Itx z.cps.size (signV z)) [it] it (fun i h => i ≤ z.cps.size ∧ h.IsStrIter it (strIterType z) z t i) := by
  refine turn_walks (T := strIterType z) (vs := fun i => #[.str z t, .int i 0]) (fun A hA => walks_str hA it z t) signAt_V (fun i h st => ?_) ?_ (fun A i s Q E st h => pyIter_strI st h)
  · obtain ⟨o, e, c, d⟩ := st
    exact ⟨o, e, c, d⟩
  · unfold strIterType
    split <;> decide
def iStr (tl : TE) : TI := fun σ H R => tl σ H fun x H1 => ∃ z, x = .str z ∧ R (Itx z.cps.size (signV z)) H1
theorem pi_strs {X : Cx} {tg l : Expr} {tl : TE} (hl : PE X l tl) : PI X tg l (iStr tl) := by
  intro pins s σ H R I h
  refine thn (hl pins s σ H _ I h) fun v s1 ⟨x, H1, I1, r1, q1⟩ => ?_
  obtain ⟨z, e, q⟩ := q1
  subst e
  obtain ⟨t, rfl⟩ := r1
  refine wpAny_pyIter_strU ?_
  refine ⟨s1.heap.objs.size, [s1.heap.objs.size], _, _, H1, rfl, I1.kept (t' := s1.toks) fun b o e => Heap.get?_push_of_some _ e, turn_str _ z t, ⟨Nat.zero_le _, _, Heap.get?_push_size _ rfl, rfl, rfl⟩, fun b hb => ?_, q⟩
  have e : b = s1.heap.objs.size := by simpa using hb
  subst e
  exact I1.fpOk (Nat.le_refl _) (I1.hok.fresh (Nat.le_refl _))
def tRepl (te : TE) (y z : Str) : TE := fun σ H Q => te σ H fun x H1 => ∃ a, x = .str a ∧ a.length ≤ 1048576 ∧ Q (.str (PySem.Txt.replace a y z)) H1
theorem pe_repl {X : Cx} {o : Expr} {y z : Str} {j1 j2 : Nat} {p1 p2 apos cpos : Pos} {te : TE} (ho : PE X o te) (hz : z.length ≤ 14 := by decide) (hyz : (y == z) = false := by decide)
    (hbase : attributeBase o "replace" X.env (eval o X.env) = eval o X.env := by rfl)
    (hfew : ((backTo cpos (starEach [.Constant (.str y) j1 p1, .Constant (.str z) j2 p2] X.env)).all (fun x => !x.1) && (backToKw cpos (keywordEach [] X.env)).all (fun x => x.1.isSome)
      && decide (([.Constant (.str y) j1 p1, .Constant (.str z) j2 p2] : List Expr).length + ([] : List Keyword).length + (if ([] : List Keyword).isEmpty then 0 else 1) < 30)) = true := by rfl)
    (hline : (apos.endLine == cpos.line) = true := by rfl) (hs : starEach [.Constant (.str y) j1 p1, .Constant (.str z) j2 p2] X.env = [(false, eval (.Constant (.str y) j1 p1) X.env), (false, eval (.Constant (.str z) j2 p2) X.env)] := by rfl) :
    PE X (.Call (.Attribute o "replace" apos) [.Constant (.str y) j1 p1, .Constant (.str z) j2 p2] [] cpos) (tRepl te y z) := by
  intro pins s σ H Q I h
  refine wpAny_Call_method_late hbase hfew hline rfl (thn (ho pins s σ H _ I h) fun v s1 ⟨x, H1, I1, r1, q1⟩ => ?_)
  obtain ⟨a, rfl, hl, q⟩ := q1
  obtain ⟨h1, h2⟩ := tyV_is (T := "str") I1 r1 (show tyV X.K "str" (.str a) H1 from rfl)
  refine ⟨"str", "str.replace", PySem.F.plainAttrs_str, PySem.F.slot_str_replace, PySem.F.type_str_replace, h1, h2, ?_⟩
  obtain ⟨t, rfl⟩ := r1
  rw [hs]
  refine Calls.callWith_builtin rfl (Calls.evalArgs_plain ?_)
  refine Calls.spliced_cons (Calls.Constant_str (k := j1) (pos := p1) (Calls.spliced_cons (Calls.Constant_str (k := j2) (pos := p2) (Calls.spliced_nil ?_))))
  exact wpAny_with_toks (n := 1) (s := { s1 with toks := s1.toks + 1 + 1 }) (Nat.succ_pos _) (PySem.SC.replaceW (Nat.ne_of_gt I1.tk) (Nat.succ_ne_zero _) (by show s1.toks ≠ s1.toks + 1; omega) hyz hl hz fun t' k ht => ⟨.str _, H1, I1.tok _ ht, ⟨_, rfl⟩, q⟩)
def cutS (x : Str) (lo hi : Option Int) : Str := ⟨((x.cps.toList.drop (HT.sIx x.cps.toList.length 0 lo)).take (HT.sIx x.cps.toList.length x.cps.toList.length hi - HT.sIx x.cps.toList.length 0 lo)).toArray⟩
def rSlS : V → Option Int → Option Int → Hp → VK → Prop := fun x lo hi H Q => ∃ z, x = .str z ∧ z.length ≤ sizeLine ∧ Q (.str (cutS z lo hi)) H
theorem pick_cutS (x : Str) (lo hi : Option Int) : (⟨((Builtin.Str.strSliceIndices lo hi 1 x.length).filterMap (x.cps[·]?)).toArray⟩ : Str) = cutS x lo hi := by
  obtain ⟨h1, h2, h3⟩ := slice_bounds lo hi x.length
  have e : Builtin.Str.strSliceIndices lo hi 1 x.length = sliceRange (sliceBounds lo hi none x.length).1 (sliceBounds lo hi none x.length).2.1 (sliceBounds lo hi none x.length).2.2 := rfl
  rw [e, h1, h2, h3]
  unfold cutS
  rw [sliceRange_one, pick_run]
  rfl
theorem sIx_le (n d : Nat) (o : Option Int) (h : d ≤ n) : HT.sIx n d o ≤ n := by
  cases o with
  | none => exact h
  | some v =>
    show (if v < 0 then (v + (n : Int)).toNat else min v.toNat n) ≤ n
    split <;> omega
theorem sl_str {X : Cx} : SlR X rSlS := by
  intro pins s σ H x v vl vu lo hi sl Q I rx hs pl pu h
  obtain ⟨z, rfl, hz, q⟩ := h
  obtain ⟨t, rfl⟩ := rx
  refine ⟨"str", _, PySem.F.slot_str_getitem.lookup, typeIs_str _ _ _, ?_⟩
  have part : ∀ {v : Value} {k : Option Int}, IsPart v k → ∃ l : Option (Int × Tok), v = partValue l ∧ l.map (·.1) = k := fun {v k} h => by
    cases h with
    | none => exact ⟨none, rfl, rfl⟩
    | int i t => exact ⟨some (i, t), rfl, rfl⟩
  obtain ⟨l, rfl, el⟩ := part pl
  obtain ⟨u, rfl, eu⟩ := part pu
  refine wpAny_getItem_str_slice (l := l) (u := u) (st := none) hs rfl ?_
  have ep : slicePicked z l u none = Builtin.Str.strSliceIndices lo hi 1 z.length := by unfold slicePicked; rw [el, eu]; rfl
  have ec := pick_cutS z lo hi
  unfold sliceMade
  rw [ep]
  split
  · rename_i hc
    have hlen : (Builtin.Str.strSliceIndices lo hi 1 z.length).length = z.length := by simpa using hc
    have : cutS z lo hi = z := by
      obtain ⟨h1, h2, h3⟩ := slice_bounds lo hi z.length
      have e : Builtin.Str.strSliceIndices lo hi 1 z.length = sliceRange (sliceBounds lo hi none z.length).1 (sliceBounds lo hi none z.length).2.1 (sliceBounds lo hi none z.length).2.2 := rfl
      rw [e, h1, h2, h3, sliceRange_one, List.length_map, List.length_range] at hlen
      have hb := sIx_le z.length z.length hi (Nat.le_refl _)
      have el : z.cps.toList.length = z.length := Array.length_toList
      obtain ⟨⟨l⟩⟩ := z
      unfold cutS
      rw [el, hlen]
      by_cases h0 : HT.sIx (Str.length ⟨⟨l⟩⟩) 0 lo = 0
      · rw [h0, List.drop_zero, List.take_of_length_le (Nat.le_of_eq el)]
      · have : Str.length ⟨⟨l⟩⟩ = 0 := by omega
        rw [this, List.take_zero]
        have : l = [] := List.eq_nil_of_length_eq_zero (by rw [← this]; exact el.symm ▸ rfl)
        rw [this]
    rw [this] at q
    exact ⟨.str z, H, I, ⟨_, rfl⟩, q⟩
  · rw [ec]
    refine ⟨?_, .str _, H, I.tok _, ⟨_, rfl⟩, q⟩
    have : (cutS z lo hi).length ≤ z.length := by
      unfold cutS Str.length
      simp only [List.size_toArray, List.length_take, List.length_drop, Array.length_toList]
      omega
    omega
def rSlA (K : PySem.W.Frag) : V → Option Int → Option Int → Hp → VK → Prop := fun x lo hi H Q => rSlS x lo hi H Q ∨ rSlT K x lo hi H Q ∨ rSlL K x lo hi H Q
theorem sl_any {X : Cx} : SlR X (rSlA X.K) := sl_str.or (sl_tup.or sl_list)
section
variable {K : PySem.W.Frag} {σ : St} {H : Hp} {Q : VK}
theorem v_slL {a : Addr} {xs : List V} {lo hi : Option Int} (hx : SqL K H a xs) (h : ∀ p, H p = none → Q (.ref p) (upd H p (.lst (cutV xs lo hi)))) : rSlA K (.ref a) lo hi H Q := .inr (.inr ⟨a, xs, rfl, hx, h⟩)
theorem st_sl {r : V → Option Int → Option Int → Hp → VK → Prop} {te : TE} {tl th : TO} (h : te σ H fun x H1 => tl σ H1 fun l H2 => th σ H2 fun u H3 => r x l u H3 Q) : tSl r te tl th σ H Q := h
theorem st_part {t : TE} {R : Option Int → Hp → Prop} (h : t σ H fun x H1 => ∃ i, x = .int i ∧ R (some i) H1) : tPart t σ H R := h
theorem st_nopart {R : Option Int → Hp → Prop} (h : R none H) : tNoPart σ H R := h
theorem st_int {i : Int} {R : Int → Prop} (h : R i) : ∃ j, V.int i = .int j ∧ R j := ⟨i, rfl, h⟩
theorem st_repl {te : TE} {y z : Str} (h : te σ H fun x H1 => ∃ a, x = .str a ∧ a.length ≤ 1048576 ∧ Q (.str (PySem.Txt.replace a y z)) H1) : tRepl te y z σ H Q := h
theorem st_iStr {tl : TE} {R : It → Hp → Prop} (h : tl σ H fun x H1 => ∃ z, x = .str z ∧ R (Itx z.cps.size (signV z)) H1) : iStr tl σ H R := h
theorem str_for {g : TG} {tb : TS} {D : Ends} {z : Str} (Pv : Nat → St → Hp → Prop) (p0 : Pv 0 σ H)
    (hs : ∀ (i c : Nat) σ H, z.cps.toList[i]? = some c → Pv i σ H → g (.str ⟨#[c]⟩) σ H fun σ2 H2 => tb { D with nx := PAt Pv (i + 1), ct := PAt Pv (i + 1), bk := D.nx } σ2 H2) (hd : ∀ σ H, Pv z.cps.size σ H → D.nx σ H) :
    ∃ z', V.str z = .str z' ∧ ForW g tb D σ (Itx z'.cps.size (signV z')) H := by
  refine ⟨z, rfl, fun i m σ H => m = z.cps.size - i ∧ i ≤ z.cps.size ∧ Pv i σ H, ⟨z.cps.size, by simp, Nat.zero_le _, p0⟩, ?_⟩
  rintro i m σ H ⟨rfl, hi, p⟩
  by_cases hlt : i < z.cps.size
  · refine .inr ⟨hlt, Pv (i + 1), fun σ' H' p' => ⟨z.cps.size - (i + 1), by omega, rfl, hlt, p'⟩, fun x H' y => ?_⟩
    obtain ⟨rfl, c, ec, rfl⟩ := y
    exact hs i c σ _ ec p
  · have e : i = z.cps.size := by omega
    subst e
    exact .inl ⟨Nat.le_refl _, hd σ H p⟩
theorem v_eqS {x y : Str} (h : Q (.bl (decide (x = y))) H) : rEqA K (.str x) (.str y) H Q := by
  refine v_eq rfl ?_
  have e : (decide ((V.str x) = V.str y)) = decide (x = y) := by simp
  rw [e]; exact h
theorem v_neS {x y : Str} (h : Q (.bl (!decide (x = y))) H) : rNeA K (.str x) (.str y) H Q := by
  refine v_ne rfl ?_
  have e : (decide ((V.str x) = V.str y)) = decide (x = y) := by simp
  rw [e]; exact h
theorem v_eqI {x y : Int} (h : Q (.bl (decide (x = y))) H) : rEqA K (.int x) (.int y) H Q := by
  refine v_eq rfl ?_
  have e : (decide ((V.int x) = V.int y)) = decide (x = y) := by simp
  rw [e]; exact h
end
def tStrs (xs : List Str) : TA := fun _ H R => R (strV xs) H
theorem pa_s0 {X : Cx} : PA X [] (tStrs []) := pa_nil
theorem pa_s1 {X : Cx} {es : List Expr} {xs : List Str} {x : Str} {j : Nat} {p : Pos} (h : PA X es (tStrs xs)) : PA X (.Constant (.str x) j p :: es) (tStrs (x :: xs)) := pa_cons (te := tC (.str x)) pe_str h
theorem st_strs {σ : St} {H : Hp} {xs : List Str} {R : List V → Hp → Prop} (h : R (strV xs) H) : tStrs xs σ H R := h
end L2
namespace L2
open PySem PySem.Spec PyProof.Rows PySem.SeqAt PySem.Builtin PySem.Builtin.Str
section
variable {X : Cx}
section
variable {K : PySem.W.Frag} {σ : St} {H : Hp} {Q : VK}
end
end
end L2
namespace L2
open PySem PySem.Spec PyProof.Rows PySem.SeqAt
theorem range_rev (n : Nat) : ((List.range n).map fun (k : Nat) => ((n : Int) - 1 + -1 * (k : Int)).toNat) = (List.range n).reverse := by
  apply List.ext_getElem
  · simp
  · intro i h1 h2
    simp only [List.getElem_map, List.getElem_range, List.getElem_reverse, List.length_range]
    simp only [List.length_map, List.length_range] at h1
    omega
theorem pick_range {α : Type} (xs : List α) : (List.range xs.length).filterMap (xs[·]?) = xs := by
  induction xs with
  | nil => rfl
  | cons x xs ih =>
    rw [List.length_cons, List.range_succ_eq_map, List.filterMap_cons, List.filterMap_map]
    show x :: _ = _
    congr 1
theorem slicePick_rev (items : List Value) : slicePick items.toArray none none (some (-1)) = items.reverse.toArray := by
  unfold slicePick sliceBounds sliceRange
  simp only [Option.getD_some, List.size_toArray]
  have h : ¬ ((-1 : Int) > 0) := by decide
  simp only [if_neg h]
  have ec : (if (items.length : Int) - 1 > -1 then ((items.length : Int) - 1 - -1 - -1 - 1) / (- -1) else 0).toNat = items.length := by
    by_cases h0 : (items.length : Int) - 1 > -1
    · rw [if_pos h0]
      have : (- -1 : Int) = 1 := by decide
      rw [this, Int.ediv_one]; omega
    · rw [if_neg h0]; omega
  rw [ec, range_rev, List.filterMap_reverse]
  congr 2
  have : (fun (x : Nat) => (items.toArray)[x]?) = fun (x : Nat) => items[x]? := by funext x; simp
  rw [this, pick_range]
section
variable {X : Cx}
def tRev3 (K : PySem.W.Frag) (te : TE) : TE := fun σ H Q => te σ H fun x H1 => ∃ a xs, x = .ref a ∧ SqL K H1 a xs ∧ ∀ p, H1 p = none → Q (.ref p) (upd H1 p (.lst xs.reverse))
theorem pe_rev3 {e k : Expr} {te : TE} {p2 pos : Pos} (he : PE X e te) (hk : PE X k (tUn (rU fun i => .int (-i)) (tC (.int 1)))) : PE X (.Subscript e (.Slice none none (some k) p2) pos) (tRev3 X.K te) := by
  intro pins s σ H Q I h
  refine Subscript_ (thn (he pins s σ H _ I h) fun v s1 ⟨x, H1, I1, r1, q1⟩ => ?_)
  obtain ⟨a, xs, rfl, hx, q⟩ := q1
  refine wpAny_Slice ?_
  rw [evalPart_none]
  refine wpAny_pure (wpAny_pure ?_)
  rw [evalPart_some]
  refine thn (hk pins s1 σ H1 (fun y H2 => y = .int (-1) ∧ H2 = H1) I1 ⟨1, rfl, rfl, rfl⟩) fun vk s2 ⟨y, H2, I2, r2, ey, eH⟩ => ?_
  subst ey
  subst eH
  obtain ⟨tk, rfl⟩ := r2
  have I4 : Inv X pins σ H2 { s2 with heap := s2.heap.push { cls := .type "slice", data := .fields #[.none, .none, .int (-1) tk] } } := I2.kept (t' := s2.toks) fun b ob q => Heap.get?_push_of_some _ q
  cases r1
  obtain ⟨its, r, ht, hz⟩ := I4.list hx
  have hlen := r.length
  refine tail_any (ops := [.ref a, .ref s2.heap.objs.size]) ht.isList.typeIs slot_list_getitem.lookup ?_ (by with_unfolding_all rfl)
  refine wpAny_getItem_list_slice ht.isList (Heap.IsSliceOf.new ..) .none .none (.int (-1) tk) (by simp) ?_ (by rw [List.size_toArray] <;> omega)
  rw [slicePick_rev]
  refine ⟨.ref _, _, I4.laid (t' := s2.toks) (o := .lst xs.reverse) (fun b ob q => Heap.get?_push_of_some _ q) (Nat.le_refl _) ?_, rfl, q _ (I4.hok.fresh (Nat.le_refl _))⟩
  exact ⟨by rw [List.length_reverse]; exact hz, _, 0, Vals.reverse r, Heap.get?_push_size _ rfl⟩
end
section
variable {σ : St} {H : Hp} {Q : VK} {K : PySem.W.Frag}
theorem st_rev3 {te : TE} (h : te σ H fun x H1 => ∃ a xs, x = .ref a ∧ SqL K H1 a xs ∧ ∀ p, H1 p = none → Q (.ref p) (upd H1 p (.lst xs.reverse))) : tRev3 K te σ H Q := h
theorem st_bm0 {T : String} {r : V → List V → Hp → VK → Prop} {to : TE} (h : to σ H fun x H1 => tyV K T x H1 ∧ r x [] H1 Q) : tBM0 K T r to σ H Q := h
theorem v_pop {p : Addr} {xs : List V} {y : V} (h1 : H p = some (.lst (xs ++ [y]))) (h : Q y (upd H p (.lst xs))) : rPop (.ref p) [] H Q :=
  ⟨p, xs ++ [y], y, rfl, rfl, h1, by simp, by rw [List.dropLast_concat]; exact h⟩
end
section
variable {prog : Program} {w : World} {A : Around} {E : Value → Shared → Prop} {s : Shared}
end
section
variable {X : Cx}
end
section
variable {H : Hp} {Q : VK} {K : PySem.W.Frag}
end
section
variable {σ : St} {H : Hp}
end
section
variable {prog : Program} {w : World} {A : Around} {E : Value → Shared → Prop} {s : Shared}
end
section
variable {σ : St} {H : Hp} {K : PySem.W.Frag}
end
section
variable {prog : Program} {w : World} {A : Around} {E : Value → Shared → Prop} {s : Shared}
end
end L2
namespace L2
open PySem PySem.Spec PyProof.Rows PySem.SeqAt
section
variable {X : Cx}
end
section
variable {H : Hp} {Q : VK} {K : PySem.W.Frag}
theorem v_extend {p b : Addr} {xs zs : List V} (h1 : H p = some (.lst xs)) (h2 : H b = some (.lst zs)) (hz : xs.length + zs.length ≤ sizeLine) (h : Q .non (upd H p (.lst (xs ++ zs)))) : rExtend (.ref p) [.ref b] H Q := ⟨p, b, xs, zs, rfl, rfl, h1, h2, hz, h⟩
end
section
variable {prog : Program} {w : World} {A : Around} {E : Value → Shared → Prop} {s : Shared} {κ : Type} [DecidableEq κ] {knd : KeyKind prog w κ}
end
section
variable {X : Cx} {e o : Expr} {apos cpos pos : Pos} {tx td : TE}
end
section
variable {σ : St} {H : Hp} {Q : VK}
theorem st_dget {td ty : TE} (h : td σ H fun x H1 => ty σ H1 fun y H2 => ∃ a v, x = .ref a ∧ DGet H2 a y (some v) ∧ Q v H2) : tDGet td ty σ H Q := h
end
end L2
namespace L2
open PySem PySem.Spec PyProof.Rows PySem.SeqAt
section
variable {σ : St} {H : Hp} {Q : VK} {K : PySem.W.Frag}
end
end L2
namespace L2
open PySem PySem.Spec PyProof.Rows PySem.SeqAt
section
variable {σ : St} {H : Hp} {Q : VK} {K : PySem.W.Frag}
end
section
variable {X : Cx}
end
section
variable {H : Hp} {Q : VK} {K : PySem.W.Frag}
end
end L2
namespace L2
open PySem PySem.Spec PyProof.Rows
section
variable {P : Program} {w : World} {H H' : Hp} {h h1 h2 : Heap} {a b T : Addr} {o : HO} {l : List Env}
end
section
variable {X : Cx} {pins : List (Addr × Obj)} {σ : St} {H H' : Hp} {s s' : Shared} {a : Addr} {cls : Value} {E : XK}
end
section
variable {P : Program} {w : World} {K : PySem.W.Frag} {mg : Str → Option Value} {base : Heap} {N : List Str} {qual : Str} {scope : Scope} {f : Addr} {cd : Value} {A : Around} {outer : List Env} {s : Shared} {H : Hp} {E : XK}
end
end L2
namespace L2
open PySem PySem.Spec PyProof.Rows
section
variable {X : Cx} {C : Addr} {x : Str} {np cpos pos : Pos} {e₀ : Expr} {es : List Expr} {t : TA} {E : XK}
end
section
variable {X : Cx} {pins : List (Addr × Obj)} {σ : St} {H : Hp} {s : Shared} {E : Value → Shared → Prop} {a : Addr}
end
section
variable {X : Cx} {k : Nat} {f C D : Addr} {fd : FuncData} {ps : List Str} {sp : Sp} {dvs : List V} {ds : List Value} {x : Str} {p pos cpos : Pos} {e : Expr} {es : List Expr} {t : TA}
end
end L2
namespace L2
open PySem PySem.Spec PyProof.Rows
section
variable {prog : Program} {w : World} {A : Around} {E : Value → Shared → Prop} {h : Heap} {g : Array GenState} {d : Drawn} {t : Nat} {os : OsState} {a C : Addr} {o : Obj} {K : PySem.W.Frag}
end
section
variable {X : Cx} {pins : List (Addr × Obj)} {σ : St} {H : Hp} {s : Shared}
end
end L2
namespace L2
open PySem PySem.Spec PyProof.Rows
section
variable {X : Cx} {pins : List (Addr × Obj)} {σ : St} {H H' : Hp} {s s2 : Shared} {a C : Addr}
end
section
variable {X : Cx} {C D : Addr} {pos : Pos} {e : Expr}
end
end L2
namespace L2
open PySem PySem.Spec PyProof.Rows
section
variable {K : PySem.W.Frag} {C D a : Addr} {b : Bool}
end
section
variable {K : PySem.W.Frag} {H : Hp} {Q : VK} {a C D p : Addr} {b : Bool}
end
end L2
namespace L2
open PySem PySem.Spec PyProof.Rows
section
variable {X : Cx} {e : Expr} {t : TE}
def tFs (c1 c2 : Str) (t : TE) : TE := fun σ H Q => t σ H fun x H1 => ∃ z, x = .str z ∧ z.length ≤ 4096 ∧ Q (.str (c1 ++ z ++ c2)) H1
theorem pe_fs {c1 c2 : Str} {j1 j2 : Nat} {p1 p2 p3 pos : Pos} (he : PE X e t) (h1 : c1.length ≤ 4096 := by decide) (h2 : c2.length ≤ 4096 := by decide) :
    PE X (.JoinedStr [.Constant (.str c1) j1 p1, .FormattedValue e (-1) none p2, .Constant (.str c2) j2 p3] pos) (tFs c1 c2 t) := by
  intro pins s σ H Q I h
  have e0 : Str.empty ++ c1 = c1 := Str.empty_append c1
  have hs : sizeLine = 16777216 := sizeLine_eq
  refine JoinedStr_many (joinParts_cons (Calls.Constant_str ?_))
  refine ⟨by rw [e0, hs]; omega, ?_⟩
  rw [e0]
  refine joinParts_cons (FormattedValue_plain (thn (he pins _ σ H _ (I.tok _) h) fun u s1 ⟨x, H1, I1, r1, z, e1, hz, q⟩ => ?_))
  subst e1
  obtain ⟨tk, rfl⟩ := r1
  refine wpAny_with_toks (n := 1) I1.tk (formatField_str (fun t' tk' => ?_) (by rw [hs]; omega))
  intro htk
  refine ⟨by rw [strLen_append, hs]; omega, ?_⟩
  refine joinParts_consE (joinParts_cons (Calls.Constant_str ?_))
  refine ⟨by rw [strLen_append, strLen_append, hs]; omega, joinParts_nilE (joinParts_nil ?_ (by rw [strLen_append, strLen_append, hs]; omega))⟩
  exact ⟨.str (c1 ++ z ++ c2), H1, I1.tok _, ⟨_, rfl⟩, q⟩
end
end L2
namespace L2
open PySem PySem.Spec PyProof.Rows PySem.SeqAt
theorem owner_rvd : Manifest.owners.lookup (String.ofList ['d', 'e', 's', 'r', 'e', 'v', 'e', 'r'].reverse) = some Manifest.sig_reversed := by kernel_rfl
theorem slot_rvd_next : Slot "reversed" "__next__" "reversed.__next__" :=
  .of (owner := "reversed") (n := "__next__") (by rw [typeLookup_type, builtinLookup_eq_fast]; kernel_rfl) (by decide +kernel) (by decide +kernel) (by decide +kernel)
    (by first | exact .inl (by decide +kernel) | exact .inr (by decide +kernel)) (by rw [isSubtype_type]; kernel_rfl)
theorem entry_rvd_next : entryFor table "reversed.__next__" = some Builtin.«reversed.__next__» := entryFor_of_tree (by kernel_rfl)
theorem args_rvd_next_1 (a : Value) : argsOk "reversed.__next__" ⟨[a], []⟩ := by
  unfold argsOk; rw [signature?_of (id := "reversed.__next__") (n := ['_', '_', 't', 'x', 'e', 'n', '_', '_']) (o := ['d', 'e', 's', 'r', 'e', 'v', 'e', 'r']) (by kernel_rfl) owner_rvd]; kernel_rfl
theorem slot_rvd_iter : Slot "reversed" "__iter__" "reversed.__iter__" :=
  .of (owner := "reversed") (n := "__iter__") (by rw [typeLookup_type, builtinLookup_eq_fast]; kernel_rfl) (by decide +kernel) (by decide +kernel) (by decide +kernel)
    (by first | exact .inl (by decide +kernel) | exact .inr (by decide +kernel)) (by rw [isSubtype_type]; kernel_rfl)
theorem args_rvd_iter_1 (a : Value) : argsOk "reversed.__iter__" ⟨[a], []⟩ := by
  unfold argsOk; rw [signature?_of (id := "reversed.__iter__") (n := ['_', '_', 'r', 'e', 't', 'i', '_', '_']) (o := ['d', 'e', 's', 'r', 'e', 'v', 'e', 'r']) (by kernel_rfl) owner_rvd]; kernel_rfl
theorem entry_rvd_iter : entryFor table "reversed.__iter__" = some Builtin.«dict_keyiterator.__iter__» :=
  entryFor_alias (id' := "dict_keyiterator.__iter__") (by kernel_rfl) (by first | rfl | decide +kernel | (unfold String.splitOn; simp +decide [String.splitOnAux])) (by decide +kernel) (by kernel_rfl)
theorem slot_rvd_init : Slot "reversed" "__init__" "object.__init__" :=
  .of (owner := "object") (n := "__init__") (by rw [typeLookup_type, builtinLookup_eq_fast]; kernel_rfl) (by decide +kernel) (by decide +kernel) (by decide +kernel)
    (by first | exact .inl (by decide +kernel) | exact .inr (by decide +kernel)) (by rw [isSubtype_type]; kernel_rfl)
theorem called_reversed : TypeCalled "reversed" "reversed.__new__" "object.__init__" :=
  ⟨by decide +kernel, by decide +kernel, ⟨_, _, F.mro_reversed⟩, F.made_reversed, by decide +kernel, by rw [isSubtype_type]; kernel_rfl, slot_rvd_init⟩
theorem tup_no_reversed : typeLookup (.type "tuple") "__reversed__" = pure none := by rw [typeLookup_type, builtinLookup_eq_fast]; kernel_rfl
theorem tup_getitem_lk : typeLookup (.type "tuple") "__getitem__" = pure (some (.builtin "tuple.__getitem__")) := by rw [typeLookup_type, builtinLookup_eq_fast]; kernel_rfl
def rvdObj (l : Addr) (i : Int) : Obj := { cls := .type "reversed", data := .fields #[.ref l, rawInt i] }
def IsRvd (h : Heap) (a l : Addr) (i : Int) : Prop := ∃ o, h.get? a = some o ∧ o.cls = .type "reversed" ∧ o.data = .fields #[.ref l, rawInt i]
theorem IsRvd.typeIs {s : Shared} {a l : Addr} {i : Int} (x : IsRvd s.heap a l i) : s.TypeIs (.ref a) "reversed" := let ⟨o, ho, hc, _⟩ := x; ⟨o, ho, hc⟩
theorem IsRvd.at {h h' : Heap} {a l : Addr} {i : Int} (x : IsRvd h a l i) (e : ∀ o, h.get? a = some o → h'.get? a = some o) : IsRvd h' a l i := let ⟨o, ho, r⟩ := x; ⟨o, e _ ho, r⟩
end L2
namespace L2
open PySem PySem.Spec PyProof.Rows PySem.SeqAt
theorem meets_reversed_newT (l : Addr) (items : Array Value) (hz : (items.size : Int) < 2 ^ 63) :
    Meets (Builtin.«reversed.__new__» ⟨[.type "reversed", .ref l], []⟩) (fun _ R s => IsTup s.heap l items ∧
      R (.ok (.ret (.ref s.heap.objs.size))) { s with heap := s.heap.push (rvdObj l ((items.size : Int) - 1)), toks := s.toks + 1 + 1 }) :=
  .of_wp fun prog w A R s h => by
    obtain ⟨ht, h⟩ := h
    unfold Builtin.«reversed.__new__»
    refine wpAny_bind (wpAny_of_eq (newClass_reversed _) ?_)
    try dsimp only
    refine wpAny_bind (wpAny_of_eq (a := ()) (by first | rfl | kernel_rfl) ?_)
    refine wpAny_bind (wpAny_of_eq (a := ()) (by first | rfl | kernel_rfl) ?_)
    try dsimp only
    refine wpAny_bind (wpAny_specialOf ht.typeIs tup_no_reversed ?_)
    try dsimp only
    refine wpAny_bind ?_
    show wpAny _ _ (isInstance (.ref l) (.type "dict") >>= _) _ _ _
    refine wpAny_bind (wpAny_isInstance ht.typeIs sub_tuple_dict ?_)
    try dsimp only
    rw [if_neg (by decide)]
    refine wpAny_bind (wpAny_specialOf ht.typeIs tup_getitem_lk ?_)
    try dsimp only
    rw [if_pos (by decide)]
    refine wpAny_pure ?_
    try dsimp only
    rw [if_neg (by decide)]
    refine wpAny_bind (len_tuple ht hz ?_)
    refine wpAny_bind (m := asInt? _) (wpAny_of_eq (a := some (items.size : Int)) rfl ?_)
    try dsimp only
    refine wpAny_bind ?_
    show wpAny _ _ (newObj (.type "reversed") (.fields #[.ref l, rawInt ((items.size : Int) - 1)]) none) _ _ _
    refine wpAny_newObj_type ?_ (by size_fits)
    exact wpAny_pure ⟨_, rfl, h⟩
section
variable {prog : Program} {w : World} {A : Around} {E : Value → Shared → Prop} {s : Shared}
theorem call_reversed_tup {l : Addr} {items : Array Value} {Q : Value → Shared → Prop} (hl : IsTup s.heap l items) (hz : (items.size : Int) < 2 ^ 63)
    (h : Q (.ref s.heap.objs.size) { s with heap := s.heap.push (rvdObj l ((items.size : Int) - 1)), toks := s.toks + 1 + 1 }) : wpAny (model prog w) A (call (.type "reversed") [.ref l]) Q E s :=
  callType_new called_reversed (by decide) (F.typeCall_reversed_1 _) (F.newCall_reversed_1 _) (fun obj => F.args_object_init_2 obj _) F.entry_reversed_new (meets_reversed_newT l items hz)
    ⟨hl, ⟨_, Heap.get?_push_size _ rfl, rfl⟩, h⟩
theorem pyNext_rvd_item {it l : Addr} {i : Nat} {items : Array Value} {x : Value} {Q : Option Value → Shared → Prop} (hit : IsRvd s.heap it l (i : Int)) (hl : IsTup s.heap l items) (hi : (i : Int) < 2 ^ 63) (hx : items[i]? = some x)
    (hQ : ∀ h' tk, IsRvd h' it l ((i : Int) - 1) → Heap.SameBut it s.heap h' → Q (some x) { s with heap := h', toks := tk }) : wpAny (model prog w) A (pyNext (.ref it)) Q E s := by
  obtain ⟨o, ho, hc, hd⟩ := id hit
  unfold pyNext
  refine wpAny_bind (wpAny_attempt (wpAny_callSpecial?_slot (name := Str.ofString "__next__") hit.typeIs slot_rvd_next
    (wpAny_call_entry slot_rvd_next hit.typeIs entry_rvd_next ?_ (args_rvd_next_1 _))))
  unfold Builtin.«reversed.__next__»
  refine wpAny_bind (wpAny_of_eq (a := (Value.ref it, [])) rfl ?_)
  try dsimp only
  refine wpAny_bind (wpAny_field ho hd (x := .ref l) rfl ?_)
  refine wpAny_bind (wpAny_field ho hd (x := rawInt (i : Int)) rfl ?_)
  show wpAny _ _ (if (i : Int) < 0 then _ else _) _ _ s
  rw [if_neg (by omega)]
  refine wpAny_bind (wpAny_specialOf hl.typeIs tup_getitem_lk ?_)
  try dsimp only
  rw [if_neg (by decide)]
  have hil : i < items.size := (Array.getElem?_eq_some_iff.mp hx).1
  refine wpAny_bind (wpAny_mkInt ?_)
  refine wpAny_bind (wpAny_attempt (getItem_tuple (j := i) hl (by omega) hi (by unfold seqIndex?; simp; omega) hx ?_))
  try dsimp only
  refine wpAny_bind (wpAny_field (s := { s with toks := s.toks + 1 }) ho hd (x := rawInt (i : Int)) rfl ?_)
  show wpAny _ _ (setField (.ref it) 1 (rawInt ((i : Int) - 1)) >>= _) _ _ _
  refine wpAny_bind (wpAny_setField (s := { s with toks := s.toks + 1 }) ho hd (by simp) ?_)
  refine wpAny_pure ⟨x, rfl, wpAny_pure (hQ _ _ ?_ (Heap.SameBut.update ..))⟩
  exact ⟨_, Heap.get?_update_self _ ho (Obj.isFreed_of_fields (Obj.data_mapFields hd _)), (Obj.cls_mapFields ..).trans hc, by
    rw [Obj.data_mapFields hd]; simp⟩
theorem pyNext_rvd_end {it l : Addr} {Q : Option Value → Shared → Prop} (hh : A.handled = none) (hit : IsRvd s.heap it l (-1))
    (hQ : ∀ h', Heap.ExtBut it s.heap h' → Q none { s with heap := h' }) : wpAny (model prog w) A (pyNext (.ref it)) Q E s := by
  obtain ⟨o, ho, hc, hd⟩ := id hit
  unfold pyNext
  refine wpAny_bind (wpAny_attempt (wpAny_callSpecial?_slot (name := Str.ofString "__next__") hit.typeIs slot_rvd_next
    (wpAny_call_entry slot_rvd_next hit.typeIs entry_rvd_next ?_ (args_rvd_next_1 _))))
  unfold Builtin.«reversed.__next__»
  refine wpAny_bind (wpAny_of_eq (a := (Value.ref it, [])) rfl ?_)
  try dsimp only
  refine wpAny_bind (wpAny_field ho hd (x := .ref l) rfl ?_)
  refine wpAny_bind (wpAny_field ho hd (x := rawInt (-1)) rfl ?_)
  show wpAny _ _ (if (-1 : Int) < 0 then _ else _) _ _ s
  rw [if_pos (by decide)]
  refine wpAny_bind (wpAny_rule ?_)
  refine wpAny_bind ?_
  show wpAny _ _ (setField (.ref it) 1 (rawInt (-1)) >>= _) _ _ _
  refine wpAny_bind (wpAny_setField ho hd (by simp) ?_)
  have h1 := Heap.get?_update_self (Obj.mapFields (·.setIfInBounds 1 (rawInt (-1)))) ho (Obj.isFreed_of_fields (Obj.data_mapFields hd _))
  have d1 := Obj.data_mapFields hd (·.setIfInBounds 1 (rawInt (-1)))
  refine wpAny_setField (s := { s with heap := _ }) h1 d1 (by simp) ?_
  have eb : Heap.ExtBut it s.heap ((s.heap.update it (Obj.mapFields (·.setIfInBounds 1 (rawInt (-1))))).update it (Obj.mapFields (·.setIfInBounds 0 Value.none))) := by
    intro b u hb e
    exact ((Heap.SameBut.update _ _ _).2 b hb).trans (((Heap.SameBut.update _ _ _).2 b hb).trans e)
  first
  | show wpAny _ _ (newExc (.type "StopIteration") [] >>= _) _ _ _
  | (refine wpAny_bind ?_; show wpAny _ _ (newExc (.type "StopIteration") [] >>= _) _ _ _)
  refine wpAny_bind ?_
  simp only [newExc, newTuple]
  refine wpAny_bind (wpAny_newObj_type ?_ (by size_fits))
  refine wpAny_bind (m := firstArgMember _ _) (wpAny_of_eq (a := Value.none) (by first | rfl | (simp only [firstArgMember]; rfl)) ?_)
  refine wpAny_newObj_type ?_ (by size_fits)
  simp only [raiseNew]
  refine wpAny_bind (wpAny_handled ?_)
  first | rw [show A.in1.handled = none from hh] | rw [hh]
  refine wpAny_bind (wpAny_pure (wpAny_throw ?_))
  refine wpAny_bind (wpAny_isInstance (T := "StopIteration") (b := true) ⟨_, Heap.get?_push_size _ rfl, rfl⟩ isSubtype_stop ?_)
  exact wpAny_pure (hQ _ ((eb.push _).push _))
theorem pyIter_rvd {it l : Addr} {i : Int} {Q : Value → Shared → Prop} (hit : IsRvd s.heap it l i) (h : Q (.ref it) s) : wpAny (model prog w) A (pyIter (.ref it)) Q E s := by
  refine wpAny_pyIter_slot hit.typeIs slot_rvd_iter (wpAny_call_entry slot_rvd_iter hit.typeIs entry_rvd_iter ?_ (args_rvd_iter_1 _))
  show wpAny _ _ (ret (.ref it)) _ _ s
  exact wpAny_pure ⟨_, rfl, "reversed", _, hit.typeIs, slot_rvd_next.lookup, h⟩
end
def Itbt (K : PySem.W.Frag) (a : Addr) (n : Nat) : It :=
  ⟨fun i H => i < n ∧ ∃ xs x, SqT K H a xs ∧ xs[n - 1 - i]? = some x, fun i H x H' => H' = H ∧ ∀ xs, SqT K H a xs → xs[n - 1 - i]? = some x, fun i _ => i = n⟩
theorem turn_revT {P : Program} {w : World} {K : PySem.W.Frag} {tg : Expr} (a it : Addr) (n : Nat) : Turn P w K tg (Itbt K a n) [it] it (fun i h => IsRvd h it a ((n : Int) - 1 - (i : Int))) where
  mem := by simp
  obj := fun i h st b hb => by
    have e : b = it := by simpa using hb
    subst e
    obtain ⟨o, e, c, d⟩ := st
    exact ⟨o, e, fun v z => by rw [d] at z; cases z⟩
  keep := fun i h h' st k => st.at fun o e => k it (by simp) o e
  item := by
    intro X hP hw hK hc i pins s σ H E I hf st hg
    subst hP hw hK
    obtain ⟨hi, xs, x, hq, hx⟩ := hg
    obtain ⟨its, rv, p, hz⟩ := I.tuple hq
    obtain ⟨u, hu, ru⟩ := rv.get hx
    obtain ⟨f0, f1, f2, f3, f4, f5⟩ := hf it (by simp)
    have e : (n : Int) - 1 - (i : Int) = ((n - 1 - i : Nat) : Int) := by omega
    have st1 := st
    rw [e] at st1
    have hlt := (List.getElem?_eq_some_iff.mp hx).1
    have hs : sizeLine = 16777216 := sizeLine_eq
    refine wpAny_with_toks (n := 1) I.tk (pyNext_rvd_item st1 p (by omega) (x := u) (by simpa using hu) fun h' tk st' sb => ?_)
    intro htk
    have I1 : Inv X pins σ H { s with heap := h', toks := tk } := I.turned (t' := tk) (fun b o hb e => (sb.2 b hb).trans e) f0 f1 f3 f4 f5
    obtain ⟨o, e', c, d⟩ := id st'
    have e2 : ((n - 1 - i : Nat) : Int) - 1 = (n : Int) - 1 - ((i + 1 : Nat) : Int) := by omega
    rw [e2] at st'
    exact ⟨u, rfl, go_of (s := { s with heap := h', toks := tk }) e' c d (by decide) ⟨x, H, I1, ru, ⟨rfl, fun ys hy => by rw [I.tuple_inj hy hq]; exact hx⟩, st', fun b hb => (hf b hb).1⟩⟩
  done := by
    intro X hP hw hK hc i pins s σ H E I hf st hg
    subst hP hw hK
    have hg : i = n := hg
    subst hg
    obtain ⟨f0, f1, f2, f3, f4, f5⟩ := hf it (by simp)
    have e : (i : Int) - 1 - (i : Int) = -1 := by omega
    have st1 := st
    rw [e] at st1
    exact pyNext_rvd_end (I.ok.hd hc) st1 fun h' eb => ⟨rfl, I.turned (t' := s.toks) (fun b o hb e => eb b o hb e) f0 f1 f3 f4 f5⟩
  self := fun _ _ _ _ _ st h => pyIter_rvd st h
def iRevT (K : PySem.W.Frag) (ta : TA) : TI := fun σ H R => ta σ H fun vs H1 => ∃ a xs, vs = [.ref a] ∧ SqT K H1 a xs ∧ R (Itbt K a xs.length) H1
theorem pi_revT {X : Cx} {tg : Expr} {l : Expr} {ta : TA} {p pos : Pos} (hg : Gl X "reversed") (hm : X.mg "reversed" = none) (ha : PA X [l] ta) (hs : starEach [l] X.env = [(false, eval l X.env)] := by rfl) :
    PI X tg (.Call (.Name "reversed" p) [l] [] pos) (iRevT X.K ta) := by
  intro pins s σ H R I h
  refine Call_ (ld_blt I hg hm boot_reversed (PyProof.Rows.callWith_type1 (thn (ha pos pins s σ H _ I h) fun us s1 ⟨vs, H1, I1, r1, q1⟩ => ?_) hs rfl))
  obtain ⟨a, xs, e, hq, q⟩ := q1
  subst e
  obtain ⟨v, rfl, rv⟩ := vals1 r1
  cases rv
  obtain ⟨its, rv, p, hz⟩ := I1.tuple hq
  have hsz : sizeLine = 16777216 := sizeLine_eq
  have hlen := rv.length
  refine call_reversed_tup p (by simp only [List.size_toArray]; omega) ?_
  have e : ((its.toArray.size : Nat) : Int) - 1 = (xs.length : Int) - 1 - ((0 : Nat) : Int) := by rw [rv.length]; simp
  rw [e]
  have hit : IsRvd (s1.heap.push (rvdObj a ((xs.length : Int) - 1 - ((0 : Nat) : Int)))) s1.heap.objs.size a ((xs.length : Int) - 1 - ((0 : Nat) : Int)) := ⟨_, Heap.get?_push_size _ rfl, rfl, rfl⟩
  refine pyIter_rvd hit ?_
  refine ⟨s1.heap.objs.size, [s1.heap.objs.size], _, _, H1, rfl, I1.kept (t' := s1.toks + 1 + 1) fun b o e => Heap.get?_push_of_some _ e, turn_revT a _ xs.length, hit, fun b hb => ?_, q⟩
  have e : b = s1.heap.objs.size := by simpa using hb
  subst e
  exact I1.fpOk (Nat.le_refl _) (I1.hok.fresh (Nat.le_refl _))
section
variable {σ : St} {H : Hp} {Q : VK} {K : PySem.W.Frag}
theorem st_revT {ta : TA} {R : It → Hp → Prop} (h : ta σ H fun vs H1 => ∃ a xs, vs = [.ref a] ∧ SqT K H1 a xs ∧ R (Itbt K a xs.length) H1) : iRevT K ta σ H R := h
theorem revT_comp {g : TG} {tt : TT} {te : TE} {σ' : St} {a : Addr} {xs : List V} (hq : SqT K H a xs) (Pv : Nat → List V → Hp → Prop) (h0 : Pv 0 [] H) (hlen : ∀ i ys H, i ≤ xs.length → Pv i ys H → ys.length ≤ sizeLine)
    (hk : ∀ i ys H, i ≤ xs.length → Pv i ys H → SqT K H a xs)
    (hs : ∀ i x ys H, xs[xs.length - 1 - i]? = some x → i < xs.length → Pv i ys H → g x σ' H fun σ2 H2 => tt σ2 H2 fun b H3 => if b = true then te σ2 H3 fun y H4 => PAt Pv (i + 1) (ys ++ [y]) H4 else PAt Pv (i + 1) ys H3)
    (hd : ∀ ys H, Pv xs.length ys H → ∀ p, H p = none → Q (.ref p) (upd H p (.lst ys))) :
    ∃ b ys, [V.ref a] = [.ref b] ∧ SqT K H b ys ∧ CompW g tt te σ' Q (Itbt K b ys.length) H := by
  refine ⟨a, xs, rfl, hq, comp_of (n := xs.length) (fun i x => xs[xs.length - 1 - i]? = some x) Pv h0 hlen (fun i ys H hi p => ?_) (fun i ys H x H' hi p y => ?_) (fun ys H p => rfl) (fun i x ys H hi hx p => hs i x ys H hx hi p) hd⟩
  · exact ⟨hi, xs, xs[xs.length - 1 - i], hk i ys H (Nat.le_of_lt hi) p, List.getElem?_eq_getElem (by omega)⟩
  · exact ⟨y.1, y.2 xs (hk i ys H (Nat.le_of_lt hi) p)⟩
end
end L2
namespace L2
open PySem PySem.Spec PyProof.Rows PySem.SeqAt
section
variable {prog : Program} {w : World} {A : Around} {E : Value → Shared → Prop} {s : Shared} {κ : Type} [DecidableEq κ] {knd : KeyKind prog w κ}
theorem hint_dict {d : Addr} {kvs : List (κ × Value)} {Q : Bool → Shared → Prop} (hm : s.heap.DictOf knd d kvs) (h : Q false s) : wpAny (model prog w) A (Builtin.List.listLengthHint (.ref d)) Q E s := by
  unfold Builtin.List.listLengthHint
  refine wpAny_bind (wpAny_specialOf hm.typeIs F.slot_dict_len.lookup ?_)
  generalize hid : ("dict.__len__" : String) = id0
  wp_delta
  rw [show splitId id0 = some ("dict", "__len__") from by subst hid; decide +kernel]
  subst hid
  refine wpAny_bind (wpAny_isInstance (T := "dict") (b := true) hm.typeIs (by rw [isSubtype_type]; kernel_rfl) ?_)
  refine wpAny_ite_split (fun hab => absurd hab (by decide)) (fun _ => ?_)
  refine wpAny_ite_split (fun _ => ?_) (fun hab => absurd (by decide +kernel) hab)
  exact wpAny_bind (wpAny_typeOf (T := "dict") hm.typeIs (wpAny_pure h))
abbrev KeyAt (knd : KeyKind prog w κ) (kvs : List (κ × Value)) : Nat → Value → Prop := fun i v => ∃ k x, kvs[i]? = some (k, x) ∧ knd.is k v = true
theorem extend_dict {R : Result → Shared → Prop} {d : Addr} {kvs : List (κ × Value)} {ep : Nat} (hh : A.handled = none) (hd : (d == sysModules) = false) (hm : s.heap.DictAt knd d kvs ep) (hlen : kvs.length ≤ 2 ^ 24)
    (S : Addr) (res : Value) (c₀ : Nat) (hSd : S ≠ d) (hS : s.heap.get? S = some { cls := .type "list", data := .seq #[] c₀ })
    (hR : ∀ h' tk acc' c', (∀ b o, b ≠ S → s.heap.get? b = some o → h'.get? b = some o) → h'.get? S = some { cls := .type "list", dict := none, data := .seq acc' c', slots := #[] } →
      ItemsOf (KeyAt knd kvs) acc' kvs.length → R (.ok (.ret res)) { s with heap := h', toks := tk }) :
    wpAny (model prog w) A.in1 (Builtin.List.listExtendWith (.ref S) (.ref d) res)
      (fun fin s' => match fin with | .done f => R (.ok f) s' | .again c' => c'.quiet = true ∧ codeAny (model prog w) A c' R s') (fun e s' => R (.error e) s') s := by
  have hSlt : S < s.heap.objs.size := Heap.lt_size hS
  have hSI : S ≠ s.heap.objs.size := Nat.ne_of_lt hSlt
  have hdI : d ≠ s.heap.objs.size := by obtain ⟨o, es, ho, _⟩ := hm; exact Nat.ne_of_lt (Heap.lt_size ho)
  have hSf : S ∉ [s.heap.objs.size, d] := by simp [hSI, hSd]
  have W := (Walks.dictKeys (knd := knd) (prog := prog) (w := w) (A := A.in1) hh s.heap.objs.size d hdI kvs ep).toS
  have key : ∀ (h : Heap) (c₁ tk : Nat), h.IsKeyIter s.heap.objs.size d 0 kvs.length ep → h.DictAt knd d kvs ep → (∀ b o, b ≠ S → s.heap.get? b = some o → h.get? b = some o) →
      h.get? S = some { cls := .type "list", data := .seq #[] c₁ } → codeAny (model prog w) A (.builtin "list.extend.loop" ⟨[.ref S, .ref s.heap.objs.size, res], []⟩) R { s with heap := h, toks := tk } := by
    intro h c₁ tk hit hdt hk hS₁
    refine codeAny_extend_loopS W (by rw [sizeLine_eq]; omega) S hSf res kvs.length 0 _ #[] c₁ rfl (Nat.zero_le _) ⟨hit, hdt⟩ hS₁ (ItemsOf.nil _) fun s' acc' c' hm hS' hacc => ?_
    rw [Moved.eq_with hm]
    refine hR s'.heap s'.toks acc' c' (fun b o hb e => hm.heap b o (fun hmem => ?_) (hk b o hb e)) hS' hacc
    rcases List.mem_cons.mp hmem with e' | hmem
    · exact hb e'
    · exact absurd (Heap.lt_size e) (by rw [List.mem_singleton.mp hmem]; exact Nat.lt_irrefl _)
  unfold Builtin.List.listExtendWith
  refine wpAny_bind (wpAny_typeOf (T := "dict") hm.dictOf.typeIs ?_)
  have h1 : Builtin.List.listSameRef (.ref S) (.ref d) = false := by simp [Builtin.List.listSameRef, hSd]
  have h2 : (Value.type "dict" == Value.type "list") = false := by decide
  have h3 : (Value.type "dict" == Value.type "tuple") = false := by decide
  simp only [h1, h2, h3, Bool.or_false, Bool.false_eq_true, if_false]
  refine wpAny_bind (wpAny_pyIter_dict hd hm ?_)
  have hdP : (s.heap.push { cls := .type "dict_keyiterator", data := .fields #[.ref d, .int 0 0, .int kvs.length 0, .int ep 0] }).DictAt knd d kvs ep := hm.at' fun o e => Heap.get?_push_of_some _ e
  refine wpAny_bind (wpAny_holding (hint_dict hdP.dictOf ?_))
  have hit₁ : Heap.IsKeyIter (s.heap.push { cls := .type "dict_keyiterator", data := .fields #[.ref d, .int 0 0, .int kvs.length 0, .int ep 0] }) s.heap.objs.size d 0 kvs.length ep := ⟨_, Heap.get?_push_size _ rfl, rfl, rfl⟩
  have hS₁ := Heap.get?_push_of_some { cls := .type "dict_keyiterator", data := .fields #[.ref d, .int 0 0, .int kvs.length 0, .int ep 0] } hS
  refine wpAny_ite_split (fun _ => ?_) (fun _ => wpAny_pure ⟨plainId_quiet F.plain_extend_loop _, key _ c₀ _ hit₁ hdP (fun b o _ e => Heap.get?_push_of_some _ e) hS₁⟩)
  refine wpAny_bind (wpAny_rule ?_)
  refine wpAny_bind ?_
  show wpAny _ _ (updateSeq S (·.push .none) >>= fun _ => updateSeq S (·.pop)) _ _ _
  refine wpAny_bind (wpAny_updateSeq hS₁ rfl ?_)
  have hS₂ := Heap.get?_update_self (Obj.mapSeq (·.push Value.none)) hS₁ rfl
  refine wpAny_updateSeq (hz := by seq_fits) hS₂ rfl ?_
  have hS₃ := Heap.get?_update_self (Obj.mapSeq (·.pop)) hS₂ rfl
  refine wpAny_pure ⟨plainId_quiet F.plain_extend_loop _, key _ _ _ ?_ ?_ (fun b o hb e => ?_) hS₃⟩
  · exact hit₁.at fun o e => (Heap.get?_update_other _ _ hSI).trans ((Heap.get?_update_other _ _ hSI).trans e)
  · exact hdP.at' fun o e => (Heap.get?_update_other _ _ hSd).trans ((Heap.get?_update_other _ _ hSd).trans e)
  · exact (Heap.get?_update_other _ _ (Ne.symm hb)).trans ((Heap.get?_update_other _ _ (Ne.symm hb)).trans (Heap.get?_push_of_some _ e))
theorem list_init_dict {R : Result → Shared → Prop} {d : Addr} {kvs : List (κ × Value)} {ep : Nat} (hh : A.handled = none) (hd : (d == sysModules) = false) (hm : s.heap.DictAt knd d kvs ep) (hlen : kvs.length ≤ 2 ^ 24)
    (S : Addr) (hSd : S ≠ d) (hS : s.heap.get? S = some { cls := .type "list", data := .seq #[] })
    (hR : ∀ h' tk acc' c', (∀ b o, b ≠ S → s.heap.get? b = some o → h'.get? b = some o) → h'.get? S = some { cls := .type "list", dict := none, data := .seq acc' c', slots := #[] } →
      ItemsOf (KeyAt knd kvs) acc' kvs.length → R (.ok (.ret .none)) { s with heap := h', toks := tk }) :
    wpAny (model prog w) A.in1 (Builtin.«list.__init__» ⟨[.ref S, .ref d], []⟩)
      (fun fin s' => match fin with | .done f => R (.ok f) s' | .again c' => c'.quiet = true ∧ codeAny (model prog w) A c' R s') (fun e s' => R (.error e) s') s := by
  show wpAny _ _ (do let old ← Builtin.List.listItems (.ref S); Builtin.List.listUpdate (.ref S) (fun _ => #[]); letGo old.toList.reverse; Builtin.List.listExtendWith (.ref S) (.ref d) .none) _ _ s
  refine wpAny_bind ?_
  unfold Builtin.List.listItems
  refine wpAny_bind (wpAny_seqItems hS rfl (wpAny_pure ?_))
  show wpAny _ _ (updateSeq S (fun _ => #[]) >>= fun _ => letGo (#[] : Array Value).toList.reverse >>= fun _ => Builtin.List.listExtendWith (.ref S) (.ref d) .none) _ _ s
  refine wpAny_bind (wpAny_updateSeq hS rfl ?_)
  have hS₂ := Heap.get?_update_self (Obj.mapSeq (fun _ => (#[] : Array Value))) hS rfl
  have oth : ∀ b o, b ≠ S → s.heap.get? b = some o → (s.heap.update S (Obj.mapSeq (fun _ => (#[] : Array Value)))).get? b = some o :=
    fun b o hb e => (Heap.get?_update_other _ _ (Ne.symm hb)).trans e
  refine wpAny_bind (wpAny_letGo ?_)
  refine extend_dict hh hd (hm.at' fun o e => oth d o (Ne.symm hSd) e) hlen S .none _ hSd hS₂ fun h' tk acc' c' hk hS' hacc => ?_
  exact hR h' tk acc' c' (fun b o hb e => hk b o hb (oth b o hb e)) hS' hacc
theorem call_list_dict {Q : Value → Shared → Prop} {d : Addr} {kvs : List (κ × Value)} {ep : Nat} (hh : A.handled = none) (hd : (d == sysModules) = false) (hm : s.heap.DictAt knd d kvs ep) (hlen : kvs.length ≤ 2 ^ 24)
    (hQ : ∀ h' tk acc' c', (∀ b o, s.heap.get? b = some o → h'.get? b = some o) →
      h'.get? s.heap.objs.size = some { cls := .type "list", dict := none, data := .seq acc' c', slots := #[] } → ItemsOf (KeyAt knd kvs) acc' kvs.length → Q (.ref s.heap.objs.size) { s with heap := h', toks := tk }) :
    wpAny (model prog w) A (call (.type "list") [.ref d]) Q E s := by
  refine callType_codes (Q₁ := fun obj s₁ => obj = .ref s.heap.objs.size ∧ s₁ = { s with heap := s.heap.push { cls := .type "list", data := .seq #[] } }) F.called_list (F.typeCall_list_1 _) F.entry_list_init
    (code_list_new _ ⟨rfl, rfl⟩) fun obj s₁ h₁ => ?_
  obtain ⟨rfl, rfl⟩ := h₁
  have hS : (s.heap.push { cls := .type "list", data := .seq #[] }).get? s.heap.objs.size = some { cls := .type "list", data := .seq #[] } := Heap.get?_push_size _ rfl
  have hdI : d ≠ s.heap.objs.size := by obtain ⟨o, es, ho, _⟩ := hm; exact Nat.ne_of_lt (Heap.lt_size ho)
  refine ⟨⟨_, hS, rfl⟩, F.args_list_init_2 _ _, list_init_dict (A := A.in1) hh hd (hm.at' fun o e => Heap.get?_push_of_some _ e) hlen _ (Ne.symm hdI) hS fun h' tk acc' c' hk hS' hacc => ?_⟩
  exact ⟨rfl, hQ h' tk acc' c' (fun b o e => hk b o (Nat.ne_of_lt (Heap.lt_size e)) (Heap.get?_push_of_some _ e)) hS' hacc⟩
end
theorem vals_items : ∀ (xs : List V) (us : List Value), xs.length = us.length → (∀ (j : Nat) (u : Value), us[j]? = some u → ∃ x, xs[j]? = some x ∧ RelV x u) → Vals xs us
  | [], [], _, _ => .nil
  | [], _ :: _, h, _ => by cases h
  | _ :: _, [], h, _ => by cases h
  | x :: xs, u :: us, h, g => by
    obtain ⟨y, e, r⟩ := g 0 u rfl
    cases e
    exact .cons r (vals_items xs us (by simpa using h) fun j v e => by simpa using g (j + 1) v (by simpa using e))
theorem is_kV {P : Program} {w : World} {k : Key} {u : Value} (h : (mixKind P w).is k u = true) : RelV (kV k) u := by
  rcases keyIs_shape (show keyIs k u = true from h) with ⟨i, t, rfl, rfl⟩ | ⟨x, t, rfl, rfl⟩
  · exact ⟨t, rfl⟩
  · exact ⟨t, rfl⟩
section
variable {X : Cx}
def rListK : List V → Hp → VK → Prop := fun xs H Q => ∃ p kvs, xs = [.ref p] ∧ Rd H p (.dK kvs) ∧ ∀ l, H l = none → Q (.ref l) (upd H l (.lst (kvs.map fun y => kV y.1)))
theorem call_list_keys (hc : X.calm = true) : CallR X (.type "list") rListK := by
  intro pins s σ H xs us Q I r h
  obtain ⟨p, kvs, rfl, hq, q⟩ := h
  obtain ⟨u, rfl, rx⟩ := vals1 r
  cases rx
  obtain ⟨z, hd, vs, rel, o, es, ep, dd⟩ := dk_rd I.hok hq
  have hlen := rel.length
  have hkeys := rel.keys
  have hs : sizeLine = 16777216 := sizeLine_eq
  refine wpAny_with_toks (n := 1) I.tk (call_list_dict (knd := mixKind X.prog X.w) (kvs := vs) (ep := ep) (I.ok.hd hc) hd ⟨o, es, dd⟩ (by omega) fun h' tk acc' c' kp e it => ?_)
  intro htk
  have hv : Vals (kvs.map fun y => kV y.1) acc'.toList := by
    refine vals_items _ _ (by simp [it.1, hlen]) fun j v hv => ?_
    obtain ⟨k, x, hx, hk⟩ := it.2 j v (by simpa using hv)
    refine ⟨kV k, ?_, is_kV hk⟩
    have : (kvs.map (·.1))[j]? = some k := by rw [hkeys, List.getElem?_map, hx]; rfl
    rw [List.getElem?_map] at this ⊢
    cases e2 : kvs[j]? with
    | none => rw [e2] at this; cases this
    | some y => rw [e2] at this; cases this; rfl
  exact ⟨.ref s.heap.objs.size, _, I.laid (t' := tk) kp (Nat.le_refl _) (show ObjOk X.prog X.w _ h' _ (.lst (kvs.map fun y => kV y.1)) from ⟨by rw [List.length_map]; exact z, acc'.toList, c', hv, by simpa using e⟩), rfl, q _ (I.hok.fresh (Nat.le_refl _))⟩
end
end L2
namespace L2
open PySem PySem.Spec PyProof.Rows PySem.SeqAt
def Iti (d : Addr) (o : Obj) (kvs : List (Key × V)) : It :=
  ⟨fun i H => i < kvs.length ∧ H d = some (.frz o (.dK kvs)), fun i H x H' => ∃ p k v, x = .ref p ∧ H p = none ∧ kvs[i]? = some (k, v) ∧ H' = upd H p (.tup [kV k, v]), fun i H => i = kvs.length ∧ H d = some (.frz o (.dK kvs))⟩
theorem kv_get : ∀ {kvs : List (Key × V)} {vs : List (Key × Value)} {i : Nat} {k : Key} {v : V}, KV kvs vs → kvs[i]? = some (k, v) → ∃ u, vs[i]? = some (k, u) ∧ RelV v u
  | _, _, _, _, _, .nil, e => by simp at e
  | _, (k', u) :: _, 0, _, _, .cons r _, e => by simp at e; subst e; obtain ⟨r1, r2⟩ := r; cases r1; exact ⟨u, rfl, r2⟩
  | _, _, i + 1, _, _, .cons _ t, e => by
    obtain ⟨u, h, r⟩ := kv_get (i := i) t (by simpa using e)
    exact ⟨u, by simpa using h, r⟩
theorem frz_at {P : Program} {w : World} {H : Hp} {h : Heap} {d : Addr} {o : Obj} {es : Array DictEntry} {ep : Nat} {kvs : List (Key × V)} (ok : HOk P w H h) (e : H d = some (.frz o (.dK kvs))) (ho : o.data = .dict es ep) :
    ∃ vs, KV kvs vs ∧ h.DictAt (mixKind P w) d vs ep := by
  obtain ⟨hd, z, hs, vs, rel, o', es', ep', e1, ex, e2, rest⟩ := (show ObjOk P w H h d (.frz o (.dK kvs)) from ok d _ e)
  rw [hd] at e1
  cases e1
  rw [ho] at e2
  cases e2
  exact ⟨vs, rel, o, es, hd, ex, ho, rest⟩
theorem entry_itemiter_iter : entryFor table "dict_itemiterator.__iter__" = some Builtin.«dict_keyiterator.__iter__» :=
  entryFor_alias (id' := "dict_keyiterator.__iter__") (by kernel_rfl) (by first | rfl | decide +kernel | (unfold String.splitOn; simp +decide [String.splitOnAux])) (by decide +kernel) (by kernel_rfl)
theorem pyIter_itemiter {prog : Program} {w : World} {A : Around} {E : Value → Shared → Prop} {s : Shared} {it d : Addr} {i n ep : Nat} {ok ov : Value} {Q : Value → Shared → Prop} (hit : IsItemIter s.heap it d i n ep ok ov) (h : Q (.ref it) s) : wpAny (model prog w) A (pyIter (.ref it)) Q E s := by
  have hT : s.TypeIs (.ref it) "dict_itemiterator" := ⟨_, hit, rfl⟩
  refine wpAny_pyIter_slot hT F.slot_dict_itemiterator_iter (wpAny_call_entry F.slot_dict_itemiterator_iter hT entry_itemiter_iter ?_ (F.args_dict_itemiterator_iter_1 _))
  show wpAny _ _ (ret (.ref it)) _ _ s
  exact wpAny_pure ⟨_, rfl, "dict_itemiterator", _, hT, F.slot_dict_itemiterator_next.lookup, h⟩
theorem turn_items {P : Program} {w : World} {K : PySem.W.Frag} {elts : List Expr} {k : Nat} {pos : Pos} (d it : Addr) (o : Obj) (es : Array DictEntry) (ep : Nat) (kvs : List (Key × V)) (ho : o.data = .dict es ep) :
    Turn P w K (.Tuple elts k pos) (Iti d o kvs) [it] it (fun i h => ∃ ok ov, IsItemIter h it d i kvs.length ep ok ov) where
  mem := by simp
  obj := by
    rintro i h ⟨ok, ov, e⟩ b hb
    have hb : b = it := by simpa using hb
    subst hb
    exact ⟨_, e, fun v z => by cases (show Data.fields _ = Data.cell v from z)⟩
  keep := fun i h h' st kk => let ⟨ok, ov, e⟩ := st; ⟨ok, ov, kk it (by simp) _ e⟩
  item := by
    intro X hP hw hK hc i pins s σ H E I hf st hg
    subst hP hw hK
    obtain ⟨hi, hH⟩ := hg
    obtain ⟨ok, ov, st⟩ := st
    obtain ⟨vs, rel, dA⟩ := frz_at I.hok hH ho
    have hlen := rel.length
    obtain ⟨⟨kk', v⟩, hx⟩ : ∃ y, kvs[i]? = some y := ⟨kvs[i], by simp [hi]⟩
    obtain ⟨u, hu, ru⟩ := kv_get rel hx
    have hil : it < s.heap.objs.size := Heap.lt_size st
    rw [hlen] at st ⊢
    refine wpAny_pyNext_items_item st dA hu fun key h' hk hout htup hsz kp => ⟨_, rfl, wpAny_letOwnedTupleGo_items hout fun h2 st2 sb => ?_⟩
    have htup2 : h2.get? s.heap.objs.size = some { cls := .type "tuple", data := .seq #[key, u] } := (sb.2 _ (Nat.ne_of_gt hil)).trans htup
    have I1 : Inv X pins σ (upd H s.heap.objs.size (.tup [kV kk', v])) { s with heap := h2 } :=
      I.turnLaid (t' := s.toks) (ch := [it]) (fun b hb => hf b hb) (fun b u hb e => (sb.2 b (by simpa using hb)).trans (kp b u (by simpa using hb) e)) (Nat.le_refl _) ⟨by rw [sizeLine_eq]; simp, [key, u], .cons (is_kV hk) (.cons ru .nil), ⟨_, htup2, rfl, _, rfl⟩⟩ I.tk
    refine ⟨.ref s.heap.objs.size, _, I1, rfl, ⟨_, kk', v, rfl, I.hok.fresh (Nat.le_refl _), hx, rfl⟩, ⟨key, u, by simpa using st2⟩, fun b hb => ?_⟩
    have hb' : b = it := by simpa using hb
    rw [upd_ne (by rw [hb']; exact Nat.ne_of_lt hil)]
    exact (hf b hb).1
  done := by
    intro X hP hw hK hc i pins s σ H E I hf st hg
    subst hP hw hK
    obtain ⟨hi, hH⟩ := hg
    obtain ⟨ok, ov, st⟩ := st
    obtain ⟨vs, rel, dA⟩ := frz_at I.hok hH ho
    have hlen := rel.length
    rw [hlen] at st
    exact wpAny_pyNext_items_end (I.ok.hd hc) st dA (by rw [List.getElem?_eq_none_iff]; omega) fun h' eb => ⟨rfl, I.turnedL (ch := [it]) (t' := s.toks) (fun b hb => hf b hb) (fun b o hb y => eb b o (fun z => hb (by simp [z])) y) I.tk⟩
  self := fun A i s Q E st h => let ⟨_, _, e⟩ := st; pyIter_itemiter e h
theorem Inv.freeze {X : Cx} {pins : List (Addr × Obj)} {σ : St} {H : Hp} {s : Shared} {d : Addr} {kvs : List (Key × V)} (I : Inv X pins σ H s) (e : H d = some (.dK kvs)) :
    ∃ o es ep, o.data = .dict es ep ∧ Inv X pins σ (upd H d (.frz o (.dK kvs))) s := by
  obtain ⟨z, hs, vs, rel, o, es, ep, ho, r⟩ := dk_of I.hok e
  refine ⟨o, es, ep, r.2.1, ?_⟩
  exact d_write (h' := s.heap) (t' := s.toks) I (by rw [e]; exact True.intro) ⟨rfl, fun _ _ => rfl⟩ ⟨o, ho⟩ (show ObjOk X.prog X.w _ s.heap d (.frz o (.dK kvs)) from ⟨ho, z, hs, vs, rel, o, es, ep, ho, r⟩) I.tk
def iItems (to : TE) : TI := fun σ H R => to σ H fun x H1 => ∃ d kvs, x = .ref d ∧ H1 d = some (.dK kvs) ∧ ∀ o, R (Iti d o kvs) (upd H1 d (.frz o (.dK kvs)))
theorem pi_items {X : Cx} {elts : List Expr} {k : Nat} {tpos apos pos : Pos} {o : Expr} {to : TE} (ho : PE X o to) (hbase : attributeBase o "items" X.env (eval o X.env) = eval o X.env) (hline : (apos.endLine == pos.line) = true) :
    PI X (.Tuple elts k tpos) (.Call (.Attribute o "items" apos) [] [] pos) (iItems to) := by
  intro pins s σ H R I h
  refine wpAny_Call_method (T := "dict") (id := "dict.items") hbase rfl hline F.plainAttrs_dict F.slot_dict_items F.type_dict_items (thn (ho pins s σ H _ I h) fun u s1 ⟨x, H1, I1, r1, q1⟩ => ?_)
  obtain ⟨d, kvs, e, hd, q⟩ := q1
  subst e
  cases r1
  obtain ⟨ob, es, ep, od, I2⟩ := I1.freeze hd
  obtain ⟨vs, rel, dA⟩ := frz_at I2.hok upd_same od
  have dd := dA.dictOf
  obtain ⟨_, hs, _⟩ := dk_of I1.hok hd
  refine ⟨dd.typeIs, dd.mapOf.noDict, ?_⟩
  show wpAny _ _ (callWith pos (.builtin "dict.items") [.ref d] [] []) _ _ s1
  refine method_meetsIn F.slot_dict_items F.entry_dict_items rfl (PySem.evalArgs_none ⟨rfl, dd.typeIs, F.args_dict_items_1 _, _, meets_dict_items (mixKind X.prog X.w) d hs, ⟨vs, dd⟩, ?_⟩)
  have hlen := rel.length
  refine wpAny_pyIter_items (v := s1.heap.objs.size) ⟨_, Heap.get?_push_size _ rfl, rfl, rfl⟩ (dA.at' fun o e => Heap.get?_push_of_some _ e) ?_
  have z1 : (s1.heap.push { cls := .type "dict_items", data := .fields #[.ref d] }).objs.size = s1.heap.objs.size + 1 := Heap.size_push ..
  have I3 : Inv X pins σ (upd H1 d (.frz ob (.dK kvs))) { s1 with heap := (s1.heap.push { cls := .type "dict_items", data := .fields #[.ref d] }).push { cls := .type "dict_itemiterator", data := .fields #[.none, .bool false, .ref d, .int 0 0, .int vs.length 0, .int ep 0, .none, .none] } } :=
    I2.kept (t' := s1.toks) fun b o e => Heap.get?_push_of_some _ (Heap.get?_push_of_some _ e)
  refine ⟨(s1.heap.push { cls := .type "dict_items", data := .fields #[.ref d] }).objs.size, _, _, _, _, rfl, I3, turn_items d _ ob es ep kvs od, ⟨.none, .none, by rw [hlen]; exact Heap.get?_push_size _ rfl⟩, fun b hb => ?_, q ob⟩
  have e : b = (s1.heap.push { cls := .type "dict_items", data := .fields #[.ref d] }).objs.size := by simpa using hb
  subst e
  exact I2.fpOk (by rw [z1]; exact Nat.le_succ _) (I2.hok.fresh (by rw [z1]; exact Nat.le_succ _))
section
variable {σ : St} {H : Hp}
theorem st_items {to : TE} {R : It → Hp → Prop} (h : to σ H fun x H1 => ∃ d kvs, x = .ref d ∧ H1 d = some (.dK kvs) ∧ ∀ o, R (Iti d o kvs) (upd H1 d (.frz o (.dK kvs)))) : iItems to σ H R := h
theorem items_for {g : TG} {tb : TS} {D : Ends} {d : Addr} {kvs : List (Key × V)} (hd : H d = some (.dK kvs)) (Pv : Obj → Nat → St → Hp → Prop) (h0 : ∀ o, Pv o 0 σ (upd H d (.frz o (.dK kvs)))) (hk : ∀ o i σ H', Pv o i σ H' → H' d = some (.frz o (.dK kvs)))
    (hs : ∀ o i k v p σ H, kvs[i]? = some (k, v) → H p = none → Pv o i σ H → g (.ref p) σ (upd H p (.tup [kV k, v])) fun σ2 H2 => tb { D with nx := PAt (Pv o) (i + 1), ct := PAt (Pv o) (i + 1), bk := D.nx } σ2 H2) (he : ∀ o σ H, Pv o kvs.length σ H → D.nx σ H) :
    ∃ b ys, V.ref d = .ref b ∧ H b = some (.dK ys) ∧ ∀ o, ForW g tb D σ (Iti b o ys) (upd H b (.frz o (.dK ys))) := by
  refine ⟨d, kvs, rfl, hd, fun o => ⟨fun i m σ H => m = kvs.length - i ∧ i ≤ kvs.length ∧ Pv o i σ H, ⟨kvs.length, by simp, Nat.zero_le _, h0 o⟩, ?_⟩⟩
  rintro i m σ H ⟨rfl, hi, p⟩
  have sq := hk o i σ H p
  by_cases hlt : i < kvs.length
  · refine .inr ⟨⟨hlt, sq⟩, Pv o (i + 1), fun σ' H' p' => ⟨kvs.length - (i + 1), by omega, rfl, hlt, p'⟩, fun x H' y => ?_⟩
    obtain ⟨q, k, v, rfl, hn, hx, rfl⟩ := y
    exact hs o i k v q σ _ hx hn p
  · have e : i = kvs.length := by omega
    subst e
    exact .inl ⟨⟨rfl, sq⟩, he o σ H p⟩
end
end L2
local macro_rules | `(tactic| walk_at "or") => `(tactic| first | exact .inl rfl | exact .inr rfl)
local macro_rules | `(tactic| walk_at "le") => `(tactic| first | decide | omega)
local macro_rules | `(tactic| walk_at "step") => `(tactic| (repeat (first | (with_reducible first | refine L2.st_seq ?_ | refine L2.iteT ?_ | refine L2.iteF ?_ | refine L2.st_asg ?_ | refine L2.st_name ?_ | refine L2.st_C ?_ | refine L2.st_op ?_ | refine L2.st_un ?_ | refine L2.st_ret ?_ | refine L2.st_retN ?_ | refine L2.st_drop ?_ | refine L2.st_if ?_ | refine L2.st_ifE ?_ | refine L2.st_test ?_ | refine L2.st_B ?_ | refine L2.st_bl ?_ | refine L2.st_and ?_ | refine L2.st_or ?_ | refine L2.st_not ?_ | refine L2.st_andV ?_ | refine L2.st_orV ?_ | refine L2.st_notV ?_ | refine L2.st_nil ?_ | refine L2.st_cons ?_ | refine L2.st_tup ?_ | refine L2.st_lst ?_ | refine L2.st_call ?_ | refine L2.st_CB ?_ | refine L2.st_tt ?_ | refine L2.st_break ?_ | refine L2.st_cont ?_ | refine L2.st_next ?_ | refine L2.st_sub ?_ | refine L2.st_bm ?_ | refine L2.st_chain ?_ | refine L2.st_for ?_ | refine L2.st_comp ?_ | refine L2.st_any ?_ | refine L2.st_rng1 ?_ | refine L2.st_rng2 ?_ | refine L2.st_rev ?_ | refine L2.st_sl ?_ | refine L2.st_part ?_ | refine L2.st_nopart ?_ | refine L2.st_int ?_ | refine L2.st_repl ?_ | refine L2.st_enumS ?_ | refine L2.st_iStr ?_ | refine L2.st_bm0 ?_ | refine L2.st_rng3 ?_ | refine L2.st_enumT ?_ | refine L2.st_rev2 ?_ | refine L2.st_rev3 ?_ | refine L2.st_inV ?_ | refine L2.st_dget ?_ | refine L2.st_orT ?_ | refine L2.st_revL ?_ | refine L2.v_min ?_ | refine L2.v_max ?_ | refine L2.st_strs ?_ | refine L2.v_addI ?_ | refine L2.v_subI ?_ | refine L2.v_ltI ?_ | refine L2.v_leI ?_ | refine L2.v_gtI ?_ | refine L2.v_geI ?_ | refine L2.v_eqI ?_ | refine L2.v_eqS ?_ | refine L2.v_neS ?_ | refine L2.v_neI ?_ | refine L2.v_is ?_ | refine L2.v_isnot ?_) | ((with_reducible refine' L2.st_var ?ev ?_); (case ev => exact rfl)) | ((with_reducible refine L2.v_mod ?ec ?_); (case ec => first | decide | omega | assumption)) | ((with_reducible refine L2.v_fdiv ?ec ?_); (case ec => first | exact ⟨by decide, by decide⟩ | exact ⟨by omega, by omega⟩)))))
namespace TX
open PySem PySem.StrLaws PySem.Builtin PySem.Builtin.Str
def rep (Y Z : List Nat) : Nat → List Nat → List Nat
  | _, [] => []
  | k + 1, _ :: l => rep Y Z k l
  | 0, c :: l => if Y.isPrefixOf (c :: l) = true then Z ++ rep Y Z (Y.length - 1) l else c :: rep Y Z 0 l
theorem rep_skip (Y Z : List Nat) : ∀ (k : Nat) (l : List Nat), rep Y Z k l = rep Y Z 0 (l.drop k)
  | 0, l => by simp
  | k + 1, [] => by simp [rep]
  | k + 1, _ :: l => by rw [rep, rep_skip Y Z k l]; simp
theorem rep_yes {Y Z l : List Nat} (h0 : 1 ≤ Y.length) (h : Y <+: l) : rep Y Z 0 l = Z ++ rep Y Z 0 (l.drop Y.length) := by
  cases l with
  | nil => rw [List.prefix_nil] at h; subst h; simp at h0
  | cons c l =>
    rw [rep, if_pos (List.isPrefixOf_iff_prefix.mpr h), rep_skip]
    congr 2
    cases Y with
    | nil => simp at h0
    | cons y Y => simp
theorem rep_no {Y Z l : List Nat} {c : Nat} (h : ¬ Y <+: c :: l) : rep Y Z 0 (c :: l) = c :: rep Y Z 0 l := by
  rw [rep, if_neg (by rw [List.isPrefixOf_iff_prefix]; exact h)]
theorem rep_free {Y Z : List Nat} : ∀ (l : List Nat), (∀ j, j < l.length → ¬ Y <+: l.drop j) → rep Y Z 0 l = l
  | [], _ => rfl
  | c :: l, h => by
    rw [rep_no (h 0 (by simp)), rep_free l fun j hj => by have := h (j + 1) (by simpa using hj); simpa using this]
theorem rep_to {Y Z : List Nat} (h0 : 1 ≤ Y.length) : ∀ (d : Nat) (l : List Nat), (∀ j, j < d → ¬ Y <+: l.drop j) → Y <+: l.drop d → rep Y Z 0 l = l.take d ++ Z ++ rep Y Z 0 (l.drop (d + Y.length))
  | 0, l, _, h => by simpa using rep_yes h0 (by simpa using h)
  | d + 1, [], _, h => by rw [List.drop_nil, List.prefix_nil] at h; subst h; simp at h0
  | d + 1, c :: l, hn, h => by
    rw [rep_no (hn 0 (by omega)), rep_to h0 d l (fun j hj => by have := hn (j + 1) (by omega); simpa using this) (by simpa using h)]
    have e : d + 1 + Y.length = (d + Y.length) + 1 := by omega
    rw [e]
    simp
theorem at_iff {x y : Str} (h0 : 1 ≤ y.length) (k : Nat) : At x y x.length k ↔ y.cps.toList <+: x.cps.toList.drop k := by
  have hn : x.cps.toList.length = x.length := by simp [Str.length]
  have hy : y.cps.toList.length = y.length := by simp [Str.length]
  unfold At
  rw [subAt_eq, beq_iff_eq, List.prefix_iff_eq_take, hy]
  constructor
  · rintro ⟨_, h⟩; exact h.symm
  · intro h
    refine ⟨?_, h.symm⟩
    have := congrArg List.length h
    rw [List.length_take, List.length_drop, hy, hn] at this
    omega
theorem join_two (sep a y : Str) (r : List Str) : Str.join sep (a :: y :: r) = a ++ sep ++ Str.join sep (y :: r) := by
  rfl
theorem chain_rep {x y z : Str} (h0 : 1 ≤ y.length) : ∀ (cuts : List Nat) (a f : Nat), ChainG x y x.length a cuts f → (∀ k, f ≤ k → ¬ At x y x.length k) →
    (Str.join z (partsFrom x y.length a cuts)).cps.toList = rep y.cps.toList z.cps.toList 0 (x.cps.toList.drop a)
  | [], a, f, h, hn => by
    have e : f = a := h
    subst e
    have hx : x.cps.toList.length = x.length := by simp [Str.length]
    rw [rep_free _ fun j hj hp => hn (f + j) (by omega) ((at_iff h0 _).mpr (by rw [← List.drop_drop]; exact hp))]
    show (strSub x f x.length).cps.toList = _
    rw [strSub_toList, List.take_of_length_le (by rw [List.length_drop, hx]; exact Nat.le_refl _)]
  | c :: r, a, f, h, hn => by
    obtain ⟨h1, h2, h3, h4⟩ := h
    have hy : y.cps.toList.length = y.length := by simp [Str.length]
    have hp : y.cps.toList <+: (x.cps.toList.drop a).drop (c - a) := by
      rw [List.drop_drop, show a + (c - a) = c by omega]
      exact (at_iff h0 c).mp h2
    rw [rep_to (by rw [hy]; exact h0) (c - a) _ (fun j hj hq => h3 (a + j) (by omega) (by omega) ((at_iff h0 _).mpr (by rw [← List.drop_drop]; exact hq))) hp]
    rw [List.drop_drop, hy, show a + (c - a + y.length) = c + y.length by omega, ← chain_rep h0 r (c + y.length) f h4 hn]
    obtain ⟨p, q, e⟩ := partsFrom_ne x y.length (c + y.length) r
    show (Str.join z (strSub x a c :: partsFrom x y.length (c + y.length) r)).cps.toList = _
    rw [e, join_two]
    simp only [Str.cps_append, Array.toList_append, strSub_toList]
theorem replace_rep (x y z : Str) (h0 : 1 ≤ y.length) : (Txt.replace x y z).cps.toList = rep y.cps.toList z.cps.toList 0 x.cps.toList := by
  obtain ⟨f, h1, h2⟩ := occ_tight x y h0
  have hy : (y.length == 0) = false := by simp; omega
  have key := chain_rep (z := z) h0 _ 0 f h1 h2
  rw [List.drop_zero] at key
  unfold Txt.replace
  rw [hy, Bool.false_and, Bool.or_false]
  cases ho : occurrences x y 0 x.length (x.length + 1) with
  | nil =>
    rw [if_pos (by simp), ← key, ho]
    show _ = (strSub x 0 x.length).cps.toList
    rw [sub_whole]
  | cons c r =>
    rw [if_neg (by simp), glued_eq_join, partsBetween_eq, ← ho, key]
abbrev El : List Nat := [38, 108, 59]
abbrev Ea : List Nat := [38, 97, 59]
end TX
namespace TX
open PySem
end TX
namespace My
open PySem L2 PyProof.Rows
structure Row where
  name : Str
  sort : Str
  host : Str
  shuts : List Str
  bars : List Str
def Row.da (r : Row) : PyData := .tuple [.str r.name, .str r.sort, .str r.host, .tuple (sDa r.shuts), .tuple (sDa r.bars)]
def oV : Option Str → V
  | some s => .str s
  | none => .non
section
variable {K : PySem.W.Frag} {H H' : Hp} {Q : VK}
theorem row_parts {r : Row} {v : V} (h : Dv K H r.da v) : ∃ b sv bv, v = .ref b ∧ SqT K H b [.str r.name, .str r.sort, .str r.host, sv, bv] ∧ Dv K H (.tuple (sDa r.shuts)) sv ∧ Dv K H (.tuple (sDa r.bars)) bv := by
  obtain ⟨b, ys, rfl, hb, h⟩ := dv_tuple.mp h
  rw [Dvs] at h; obtain ⟨v1, r1, rfl, e1, h⟩ := h
  rw [Dvs] at h; obtain ⟨v2, r2, rfl, e2, h⟩ := h
  rw [Dvs] at h; obtain ⟨v3, r3, rfl, e3, h⟩ := h
  rw [Dvs] at h; obtain ⟨v4, r4, rfl, e4, h⟩ := h
  rw [Dvs] at h; obtain ⟨v5, r5, rfl, e5, h⟩ := h
  rw [Dvs] at h; subst h
  rw [dv_str.mp e1, dv_str.mp e2, dv_str.mp e3] at hb
  exact ⟨b, v4, v5, rfl, hb, e4, e5⟩
def Rws (K : PySem.W.Frag) (H : Hp) (v : V) (rs : List Row) : Prop := ∃ a vs, v = .ref a ∧ (SqL K H a vs ∨ SqT K H a vs) ∧ Dvs K H (rs.map Row.da) vs
theorem v_eqO {x : Str} {n : Option Str} (h : Q (.bl (decide (some x = n))) H) : rEqA K (.str x) (oV n) H Q := by
  cases n with
  | none => refine v_eq rfl ?_; have e : (decide ((V.str x) = oV none)) = decide (some x = none) := by simp [oV]
            rw [e]; exact h
  | some y => refine v_eq rfl ?_; have e : (decide ((V.str x) = oV (some y))) = decide (some x = some y) := by simp [oV]
              rw [e]; exact h
theorem v_eqS {x y : Str} (h : Q (.bl (decide (x = y))) H) : rEqA K (.str x) (.str y) H Q := by
  refine v_eq rfl ?_
  have e : (decide ((V.str x) = V.str y)) = decide (x = y) := by simp
  rw [e]; exact h
theorem v_neS {x y : Str} (h : Q (.bl (!decide (x = y))) H) : rNeA K (.str x) (.str y) H Q := by
  refine v_ne rfl ?_
  have e : (decide ((V.str x) = V.str y)) = decide (x = y) := by simp
  rw [e]; exact h
theorem v_eqI {x y : Int} (h : Q (.bl (decide (x = y))) H) : rEqA K (.int x) (.int y) H Q := by
  refine v_eq rfl ?_
  have e : (decide ((V.int x) = V.int y)) = decide (x = y) := by simp
  rw [e]; exact h
end
def rowOf (rs : List Row) (n : Option Str) : Option Row := rs.find? fun r => decide (some r.name = n)
def sortOf (rs : List Row) (n : Option Str) : Option Str := (rowOf rs n).map (·.sort)
def sp_row_of (K : PySem.W.Frag) : Sp := fun vs H Q _ => ∃ v n rs, vs = [v, oV n] ∧ Rws K H v rs ∧ (rowOf rs n = none → Q .non H) ∧ ∀ r u, rowOf rs n = some r → Dv K H r.da u → Q u H
theorem len_row_of (K : PySem.W.Frag) : ∀ vs H Q E, sp_row_of K vs H Q E → vs.length = ["rows", "name"].length := by
  rintro vs H Q E ⟨v, n, rs, rfl, _⟩; rfl
def R_row_of (K : PySem.W.Frag) : TS :=
 (tSeq (tFor (iAny K (tVar 0)) (gName 2)
 (tIfS (tTest (tOp (rEqA K) (tOp (rIxA K) (tVar 2) (tC (.int 0))) (tVar 1)))
 (tRet (tVar 2)) tNext))
 (tRet (tC .non)))
theorem find_none_snoc {α : Type} {p : α → Bool} : ∀ {l : List α} {i : Nat} {x : α}, l[i]? = some x → (∀ y ∈ l.take i, p y = false) → p x = true → l.find? p = some x
  | y :: l, 0, x, e, _, hp => by cases e; rw [List.find?_cons, hp]
  | y :: l, i + 1, x, e, h, hp => by
    have hy : p y = false := h y (by simp)
    rw [List.find?_cons, hy]
    exact find_none_snoc (i := i) (by simpa using e) (fun z hz => h z (by simp [hz])) hp
theorem take_all {α : Type} {P : α → Prop} {l : List α} {i : Nat} {x : α} (e : l[i]? = some x) (h : ∀ y ∈ l.take i, P y) (hx : P x) : ∀ y ∈ l.take (i + 1), P y := by
  intro y hy
  rw [List.take_add_one, e] at hy
  rcases List.mem_append.mp hy with z | z
  · exact h y z
  · have : y = x := by simpa using z
    subst this; exact hx
theorem rd_row_of {K : PySem.W.Frag} {vs : List V} {H : Hp} {Q : VK} {E : XK} (h : sp_row_of K vs H Q E) : R_row_of K { nx := fun _ H' => Q .non H', rt := Q } (start ["rows", "name", "row"] vs) H := by
  obtain ⟨v, n, rs, rfl, ⟨a, xs, rfl, hq, hd⟩, h1, h2⟩ := h
  show R_row_of K _ [some (.ref a), some (oV n), none] H
  have hlen : xs.length = rs.length := by have := hd.length; simpa using this
  unfold R_row_of
  refine st_seq (st_for (st_any (st_var rfl ?_)))
  refine any_for hq (fun i σ H' => H' = H ∧ (∃ w, σ = [some (.ref a), some (oV n), w]) ∧ ∀ r ∈ rs.take i, decide (some r.name = n) = false) ⟨rfl, ⟨_, rfl⟩, by simp⟩ (fun hl i σ H' _ p => p.1 ▸ hl) (fun ht i σ H' _ p => p.1 ▸ ht) ?_ ?_
  · rintro i x σ H' hx ⟨rfl, ⟨w, rfl⟩, hn⟩
    obtain ⟨d, hd1, hd2⟩ := hd.get' hx
    rw [List.getElem?_map] at hd1
    obtain ⟨r, hr, rfl⟩ := Option.map_eq_some_iff.mp hd1
    obtain ⟨b, sv, bv, rfl, hb, hsv, hbv⟩ := row_parts hd2
    refine st_name (st_if (st_test (st_op (st_op (st_var rfl (st_C (v_ixT hb rfl (st_var rfl (v_eqO ⟨_, rfl, ?_⟩)))))))))
    by_cases e : some r.name = n
    · rw [decide_eq_true e, if_pos rfl]
      refine ⟨_, rfl, ?_⟩
      exact h2 r _ (find_none_snoc hr hn (decide_eq_true e)) hd2
    · rw [decide_eq_false e, if_neg Bool.false_ne_true]
      exact st_next ⟨rfl, ⟨_, rfl⟩, take_all hr hn (decide_eq_false e)⟩
  · rintro σ H' ⟨rfl, ⟨w, rfl⟩, hn⟩
    show Q .non H'
    refine h1 ?_
    unfold rowOf
    rw [List.find?_eq_none]
    intro r hr
    rw [hlen, List.take_length] at hn
    simp [hn r hr]
end My
namespace My
open PySem L2 PyProof.Rows
variable {K : PySem.W.Frag} {vs : List V} {H : Hp} {Q : VK} {E : XK}
def sp_sort_of (K : PySem.W.Frag) : Sp := fun vs H Q _ => ∃ v n rs, vs = [v, oV n] ∧ Rws K H v rs ∧ Q (oV (sortOf rs n)) H
theorem len_sort_of (K : PySem.W.Frag) : ∀ vs H Q E, sp_sort_of K vs H Q E → vs.length = ["book", "name"].length := by rintro vs H Q E ⟨v, n, rs, rfl, _⟩; rfl
def R_sort_of (K : PySem.W.Frag) : TS :=
 (tSeq (tAsg (tCall (sp_row_of K) [] E0 (tCons (tVar 0) (tCons (tVar 1) tNil))) (gName 2))
 (tRet (tIf (tTest (tOp rIsA (tVar 2) (tC .non))) (tC .non) (tOp (rIxA K) (tVar 2) (tC (.int 1))))))
theorem rd_sort_of (h : sp_sort_of K vs H Q E) : R_sort_of K { nx := fun _ H' => Q .non H', rt := Q } (start ["book", "name", "row"] vs) H := by
  obtain ⟨v, n, rs, rfl, hR, q⟩ := h
  show R_sort_of K _ [some v, some (oV n), none] H
  refine ⟨_, rfl, _, rfl, v, n, rs, rfl, hR, fun e => ?_, fun r u e hu => ?_⟩
  · refine ⟨_, rfl, rfl, _, rfl, ?_⟩
    show Q .non H
    have : sortOf rs n = none := by unfold sortOf; rw [e]; rfl
    rw [this] at q; exact q
  · obtain ⟨b, sv, bv, rfl, hb, _, _⟩ := row_parts hu
    refine ⟨_, rfl, rfl, _, rfl, ?_⟩
    show (if decide (V.ref b = V.non) = true then _ else _)
    rw [decide_eq_false (by simp)]; refine iteF ?_
    refine ⟨_, rfl, v_ixT hb rfl ?_⟩
    have : sortOf rs n = some r.sort := by unfold sortOf; rw [e]; rfl
    rw [this] at q; exact q
end My
namespace My
open PySem L2
variable {K : PySem.W.Frag} {vs : List V} {H : Hp} {Q : VK} {E : XK}
theorem strV_len (xs : List Str) : (strV xs).length = xs.length := List.length_map _
def Lt : Str := "abcdefghijklmnopqrstuvwxyz"
theorem lt_get : ∀ j : Nat, j < 26 → Lt.cps.toList[j]? = some (97 + j) := by decide +kernel
theorem lt_len : Lt.length = 26 := by decide +kernel
theorem lt_at {i : Int} (h0 : 0 ≤ i) (h1 : i < 26) : atI Lt.cps.toList i = some (97 + i.toNat) := by
  have e : i = ((i.toNat : Nat) : Int) := by omega
  have q : atI Lt.cps.toList ((i.toNat : Nat) : Int) = some (97 + i.toNat) := atI_nat (lt_get _ (by omega))
  rw [← e] at q
  exact q
theorem sl64 {n : Nat} (h : n ≤ 100000) : n ≤ sizeLine := by rw [sizeLine_eq]; omega
theorem Same.tr {H H1 H2 : Hp} (a : Same H H1) (b : Same H1 H2) : Same H H2 := fun c o e => b c o (a c o e)
theorem Same.put {H H1 : Hp} {p : Addr} (s : Same H H1) (h : H p = none) (o : HO) : Same H (upd H1 p o) := fun b u e => by
  have nb : b ≠ p := fun z => by rw [z, h] at e; cases e
  rw [upd_ne nb]; exact s b u e
theorem tupK_lst {d : Addr} {xs ys : List V} (h : H d = some (.lst xs)) : TupK H (upd H d (.lst ys)) :=
  ⟨fun b zs e => by rw [upd_ne (fun z => by rw [z, h] at e; cases e)]; exact e, fun b o zs e => by rw [upd_ne (fun z => by rw [z, h] at e; cases e)]; exact e⟩
theorem ne_free {H : Hp} {a b : Addr} {o : HO} (h : H a = some o) (g : H b = none) : a ≠ b := fun e => by rw [e, g] at h; cases h
theorem flat_strV (xs : List Str) : (strV xs).all flatV = true := by unfold strV; rw [List.all_map]; exact List.all_eq_true.mpr fun _ _ => rfl
theorem inV_strV (x : Str) : ∀ xs : List Str, inV (.str x) (strV xs) = decide (x ∈ xs)
  | [] => by simp [strV, inV]
  | y :: ys => by
    have ih := inV_strV x ys
    unfold inV at ih ⊢
    show (eqV (.str y) (.str x) || (strV ys).any fun z => eqV z (.str x)) = _
    rw [ih]
    by_cases e : x = y
    · subst e; simp [eqV]
    · have e' : ¬ y = x := fun z => e z.symm
      simp [eqV, e, e']
def intV (ns : List Int) : List V := ns.map V.int
theorem intV_len (ns : List Int) : (intV ns).length = ns.length := List.length_map _
theorem ixN_last {n : Nat} (h : 1 ≤ n) : ixN n (-1) = some (n - 1) := by
  unfold ixN
  rw [if_neg (by decide), if_pos (by omega)]
  congr 1
  omega
theorem atI_end {xs : List V} {v : V} (h : 1 ≤ xs.length) (e : xs[xs.length - 1]? = some v) : atI xs (-1) = some v := by
  unfold atI
  rw [ixN_last h]; exact e
theorem ixN_0 {n : Nat} (h : 1 ≤ n) : ixN n 0 = some 0 := by
  unfold ixN
  rw [if_pos (by decide), if_pos (by omega)]; rfl
theorem any_forS {g : TG} {tb : TS} {D : Ends} {σ : St} {H0 : Hp} {a : Addr} {xs : List V} (hq : SqL K H0 a xs ∨ SqT K H0 a xs) (s0 : Same H0 H) (Pv : Nat → St → Hp → Prop) (h0 : Pv 0 σ H) (hk : ∀ i σ H', Pv i σ H' → Same H0 H')
    (hs : ∀ i x σ H, xs[i]? = some x → Pv i σ H → g x σ H fun σ2 H2 => tb { D with nx := PAt Pv (i + 1), ct := PAt Pv (i + 1), bk := D.nx } σ2 H2) (hd : ∀ σ H, Pv xs.length σ H → D.nx σ H) :
    ∃ b, V.ref a = .ref b ∧ (((∃ xs, SqL K H b xs) ∧ ForW g tb D σ (Itl K b) H) ∨ ((∃ xs, SqT K H b xs) ∧ ForW g tb D σ (Itt K b) H)) := by
  rcases hq with hq | hq
  · exact ⟨a, rfl, .inl ⟨⟨xs, s0.sqL hq⟩, for_list Pv h0 (fun i σ H' _ p => (hk i σ H' p).sqL hq) hs hd⟩⟩
  · exact ⟨a, rfl, .inr ⟨⟨xs, s0.sqT hq⟩, for_tup Pv h0 (fun i σ H' _ p => (hk i σ H' p).sqT hq) hs hd⟩⟩
theorem any_compS {g : TG} {tt : TT} {te : TE} {σ' : St} {H0 : Hp} {a : Addr} {xs : List V} (hq : SqL K H0 a xs ∨ SqT K H0 a xs) (s0 : Same H0 H) (Pv : Nat → List V → Hp → Prop) (h0 : Pv 0 [] H) (hlen : ∀ i ys H, i ≤ xs.length → Pv i ys H → ys.length ≤ sizeLine) (hk : ∀ i ys H', Pv i ys H' → Same H0 H')
    (hs : ∀ i x ys H, xs[i]? = some x → Pv i ys H → g x σ' H fun σ2 H2 => tt σ2 H2 fun b H3 => if b = true then te σ2 H3 fun y H4 => PAt Pv (i + 1) (ys ++ [y]) H4 else PAt Pv (i + 1) ys H3)
    (hd : ∀ ys H, Pv xs.length ys H → ∀ p, H p = none → Q (.ref p) (upd H p (.lst ys))) :
    ∃ b, V.ref a = .ref b ∧ (((∃ xs, SqL K H b xs) ∧ CompW g tt te σ' Q (Itl K b) H) ∨ ((∃ xs, SqT K H b xs) ∧ CompW g tt te σ' Q (Itt K b) H)) := by
  rcases hq with hq | hq
  · exact any_compL (s0.sqL hq) Pv h0 hlen (fun i ys H' _ p => (hk i ys H' p).sqL hq) hs hd
  · refine ⟨a, rfl, .inr ⟨⟨xs, s0.sqT hq⟩, comp_of (n := xs.length) (fun i x => xs[i]? = some x) Pv h0 hlen (fun i ys H hi p => ?_) (fun i ys H x H' hi p y => ?_) (fun ys H p => ?_) (fun i x ys H _ hx p => hs i x ys H hx p) hd⟩⟩
    · exact ⟨xs, xs[i], (hk i ys H p).sqT hq, by simp [hi]⟩
    · exact ⟨y.1, y.2 xs ((hk i ys H p).sqT hq)⟩
    · exact ⟨xs, (hk _ ys H p).sqT hq, Nat.le_refl _⟩
theorem ixI {α : Type} {xs : List α} {i : Int} {v : α} (h0 : 0 ≤ i) (e : xs[i.toNat]? = some v) : atI xs i = some v := by
  have := atI_nat e
  rwa [Int.toNat_of_nonneg h0] at this
theorem Dvs.snoc {ds : List PyData} {d : PyData} : ∀ {vs : List V}, Dvs K H (ds ++ [d]) vs → ∃ ws y, vs = ws ++ [y] ∧ Dvs K H ds ws ∧ Dv K H d y := by
  induction ds with
  | nil =>
    intro vs h
    rw [List.nil_append, Dvs] at h
    obtain ⟨v, r, rfl, h1, h2⟩ := h
    rw [Dvs] at h2; subst h2
    exact ⟨[], v, rfl, dvs_nil, h1⟩
  | cons e ds ih =>
    intro vs h
    rw [List.cons_append, Dvs] at h
    obtain ⟨v, r, rfl, h1, h2⟩ := h
    obtain ⟨ws, y, rfl, h3, h4⟩ := ih h2
    exact ⟨v :: ws, y, rfl, dvs_cons h1 h3, h4⟩
theorem Dvs.one {d : PyData} {v : V} (h : Dv K H d v) : Dvs K H [d] [v] := dvs_cons h dvs_nil
theorem dvs_iff_get {ds : List PyData} : ∀ {vs : List V}, vs.length = ds.length → (∀ (i : Nat) (d : PyData) (v : V), ds[i]? = some d → vs[i]? = some v → Dv K H d v) → Dvs K H ds vs := by
  induction ds with
  | nil => intro vs h _; rw [List.length_eq_zero_iff.mp h]; exact dvs_nil
  | cons d ds ih =>
    intro vs h g
    cases vs with
    | nil => cases h
    | cons v vs =>
      refine dvs_cons (g 0 d v rfl rfl) (ih (by simpa using h) fun i d' v' a b => g (i + 1) d' v' (by simpa using a) (by simpa using b))
def intD (ns : List Int) : List PyData := ns.map .int
theorem dvs_intD : ∀ {ns : List Int} {vs : List V}, Dvs K H (intD ns) vs ↔ vs = intV ns
  | [], _ => by show Dvs K H [] _ ↔ _ = []; rw [Dvs]
  | x :: xs, vs => by
    show Dvs K H (.int x :: intD xs) vs ↔ vs = V.int x :: intV xs
    rw [Dvs]
    constructor
    · rintro ⟨v, r, rfl, h1, h2⟩
      rw [dv_int.mp h1, dvs_intD.mp h2]
    · rintro rfl
      exact ⟨_, _, rfl, dv_int.mpr rfl, dvs_intD.mpr rfl⟩
theorem v_eqE {p : Addr} {ds : List PyData} {e : Addr} (h1 : Dv K H (.list ds) (.ref p)) (h2 : H e = some (.lst [])) (h : Q (.bl ds.isEmpty) H) : rEqA K (.ref p) (.ref e) H Q := by
  refine v_eqM h1 (e := .list []) (dv_list.mpr ⟨e, [], rfl, SqL.of h2, dvs_nil⟩) ?_ ?_
  · exact Nat.le_trans (Nat.min_le_right _ _) (by decide)
  · cases ds <;> exact h
theorem none_of {H H' : Hp} {p : Addr} (s : Same H H') (h : H' p = none) : H p = none := by
  cases e : H p with
  | none => rfl
  | some o => have := s _ _ e; rw [h] at this; cases this
end My
namespace My
open PySem L2
variable {K : PySem.W.Frag} {vs : List V} {H : Hp} {Q : VK} {E : XK}
inductive Tr where
  | tx (s : Str)
  | nd (n : Str) (ps : List Tr)
mutual
def Tr.da : Tr → PyData
  | .tx s => .str s
  | .nd n ps => .tuple [.str n, .tuple (Tr.das ps)]
def Tr.das : List Tr → List PyData
  | [] => []
  | t :: ts => t.da :: Tr.das ts
end
theorem das_map : ∀ ts : List Tr, Tr.das ts = ts.map Tr.da
  | [] => by rw [Tr.das]; rfl
  | t :: ts => by rw [Tr.das, das_map ts]; rfl
mutual
theorem da_fix : ∀ t : Tr, fix t.da = true
  | .tx s => by rw [Tr.da, fix]
  | .nd n ps => by rw [Tr.da, fix, fixs, fix, fixs, fix, fixs, das_fix ps]; rfl
theorem das_fix : ∀ ts : List Tr, fixs (Tr.das ts) = true
  | [] => by rw [Tr.das, fixs]
  | t :: ts => by rw [Tr.das, fixs, da_fix t, das_fix ts]; rfl
end
def Tr.isTx : Tr → Bool
  | .tx _ => true
  | .nd _ _ => false
def Tr.kids : Tr → List Tr
  | .tx _ => []
  | .nd _ ps => ps
mutual
def pre (pl : List Int) : Tr → List (List Int × Tr)
  | .tx s => [(pl, .tx s)]
  | .nd n ps => (pl, .nd n ps) :: pres pl 0 ps
def pres (pl : List Int) (k : Nat) : List Tr → List (List Int × Tr)
  | [] => []
  | t :: ts => pre (pl ++ [(k : Int)]) t ++ pres pl (k + 1) ts
end
mutual
def wt : Tr → Nat
  | .tx s => 1 + s.length
  | .nd _ ps => 1 + wts ps
def wts : List Tr → Nat
  | [] => 0
  | t :: ts => wt t + wts ts
end
theorem fixs_map {α : Type} {f : α → PyData} (h : ∀ x, fix (f x) = true) : ∀ l : List α, fixs (l.map f) = true
  | [] => by show fixs [] = true; rw [fixs]
  | x :: l => by show fixs (f x :: l.map f) = true; rw [fixs, h, fixs_map h l]; rfl
theorem tr_parts {n : Str} {ps : List Tr} {v : V} (h : Dv K H (Tr.nd n ps).da v) : ∃ a b us, v = .ref a ∧ SqT K H a [.str n, .ref b] ∧ SqT K H b us ∧ Dvs K H (Tr.das ps) us := by
  rw [Tr.da] at h
  obtain ⟨a, xs, rfl, ha, h⟩ := dv_tuple.mp h
  rw [Dvs] at h; obtain ⟨v1, r1, rfl, e1, h⟩ := h
  rw [Dvs] at h; obtain ⟨v2, r2, rfl, e2, h⟩ := h
  rw [Dvs] at h; subst h
  rw [dv_str.mp e1] at ha
  obtain ⟨b, ys, rfl, hb, h⟩ := dv_tuple.mp e2
  exact ⟨a, b, ys, rfl, ha, hb, h⟩
theorem tr_tx {s : Str} {v : V} (h : Dv K H (Tr.tx s).da v) : v = .str s := by rw [Tr.da] at h; exact dv_str.mp h
theorem das_get {ts : List Tr} {us : List V} (h : Dvs K H (Tr.das ts) us) {i : Nat} {t : Tr} (e : ts[i]? = some t) : ∃ u, us[i]? = some u ∧ Dv K H t.da u :=
  h.get (by rw [das_map, List.getElem?_map, e]; rfl)
theorem das_len {ts : List Tr} {us : List V} (h : Dvs K H (Tr.das ts) us) : us.length = ts.length := by have := h.length; rw [das_map, List.length_map] at this; exact this
theorem isi_tr {t : Tr} {v : V} (h : Dv K H t.da v) (q : Q (.bl t.isTx) H) : rIsi K [v, .ty "str"] H Q := by
  cases t with
  | tx s => rw [tr_tx h]; exact v_isi (.str _) (b := true) rfl q
  | nd n ps => obtain ⟨a, b, us, rfl, ha, _⟩ := tr_parts h; exact v_isiT ha (b := false) rfl q
def sp_is_text (K : PySem.W.Frag) : Sp := fun vs H Q _ => ∃ (t : Tr) (v : V), vs = [v] ∧ Dv K H t.da v ∧ Q (.bl t.isTx) H
theorem len_is_text (K : PySem.W.Frag) : ∀ vs H Q E, sp_is_text K vs H Q E → vs.length = ["part"].length := by rintro vs H Q E ⟨t, v, rfl, _⟩; rfl
def R_is_text (K : PySem.W.Frag) : TS :=
 (tRet (tCB (rIsi K) (tCons (tVar 0) (tCons (tC (.ty "str")) tNil))))
theorem rd_is_text (h : sp_is_text K vs H Q E) : R_is_text K { nx := fun _ H' => Q .non H', rt := Q } (start ["part"] vs) H := by
  obtain ⟨t, v, rfl, hd, q⟩ := h
  show R_is_text K _ [some v] H
  unfold R_is_text
  walk_at "step"
  exact isi_tr hd q
def sp_parts_of (K : PySem.W.Frag) : Sp := fun vs H Q _ => ∃ (t : Tr) (v : V), vs = [v] ∧ Dv K H t.da v ∧ ∀ (p : Addr) (us : List V) (H' : Hp), Same H H' → SqT K H' p us → Dvs K H' (Tr.das t.kids) us → Q (.ref p) H'
theorem len_parts_of (K : PySem.W.Frag) : ∀ vs H Q E, sp_parts_of K vs H Q E → vs.length = ["part"].length := by rintro vs H Q E ⟨t, v, rfl, _⟩; rfl
def R_parts_of (K : PySem.W.Frag) : TS :=
 (tRet (tIf (tB (tCall (sp_is_text K) [] E0 (tCons (tVar 0) tNil))) (tTup tNil) (tOp (rIxA K) (tVar 0) (tC (.int 1)))))
theorem rd_parts_of (h : sp_parts_of K vs H Q E) : R_parts_of K { nx := fun _ H' => Q .non H', rt := Q } (start ["part"] vs) H := by
  obtain ⟨t, v, rfl, hd, q⟩ := h
  show R_parts_of K _ [some v] H
  unfold R_parts_of
  walk_at "step"
  refine ⟨t, v, rfl, hd, ?_⟩
  walk_at "step"
  cases t with
  | tx s =>
    refine iteT ?_
    walk_at "step"
    exact ⟨sl64 (by simp), fun p hp => q p [] _ (Same.new hp _) (SqT.of upd_same) (by show Dvs K _ (Tr.das []) []; rw [Tr.das]; exact dvs_nil)⟩
  | nd n ps =>
    obtain ⟨a, b, us, rfl, ha, hb, hu⟩ := tr_parts hd
    refine iteF ?_
    walk_at "step"
    refine v_ixT ha (v := .ref b) rfl ?_
    exact q b us H (fun _ _ e => e) hb hu
theorem Row.fix (r : Row) : L2.fix r.da = true := by
  unfold Row.da
  have hs : ∀ xs : List Str, fixs (sDa xs) = true := fun xs => fixs_map (f := PyData.str) (fun x => by rw [L2.fix]) xs
  rw [L2.fix, fixs, fixs, fixs, fixs, fixs, fixs, L2.fix, L2.fix, L2.fix, L2.fix, L2.fix, hs, hs]; rfl
theorem da_nd {n : Str} {ps : List Tr} {r t : Addr} {us : List V} (h1 : SqT K H r [.str n, .ref t]) (h2 : SqT K H t us) (h3 : Dvs K H (Tr.das ps) us) : Dv K H (Tr.nd n ps).da (.ref r) := by
  rw [Tr.da]
  exact dv_tuple.mpr ⟨r, _, rfl, h1, dvs_cons (dv_str.mpr rfl) (dvs_cons (dv_tuple.mpr ⟨t, us, rfl, h2, h3⟩) dvs_nil)⟩
theorem da_tx (s : Str) : Dv K H (Tr.tx s).da (.str s) := by rw [Tr.da]; exact dv_str.mpr rfl
mutual
def hgt : Tr → Nat
  | .tx _ => 0
  | .nd _ ps => 1 + hgts ps
def hgts : List Tr → Nat
  | [] => 0
  | t :: ts => max (hgt t) (hgts ts)
end
theorem hgts_app : ∀ a b : List Tr, hgts (a ++ b) = max (hgts a) (hgts b)
  | [], b => by rw [List.nil_append, hgts]; omega
  | t :: a, b => by rw [List.cons_append, hgts, hgts, hgts_app a b]; omega
end My
namespace My
open PySem L2
variable {K : PySem.W.Frag} {vs : List V} {H : Hp} {Q : VK} {E : XK}
theorem len_one (c : Nat) : (⟨#[c]⟩ : Str).length = 1 := rfl
theorem seq_iff (x y : Str) : x = y ↔ x.cps.toList = y.cps.toList := ⟨fun e => by rw [e], fun e => PySem.Str.ext' (Array.toList_inj.mp e)⟩
theorem rep_len (Y Z : List Nat) : ∀ (k : Nat) (l : List Nat), (TX.rep Y Z k l).length ≤ l.length * (Z.length + 1)
  | _, [] => by simp [TX.rep]
  | k + 1, _ :: l => by
    rw [TX.rep, List.length_cons, Nat.succ_mul]
    exact Nat.le_trans (rep_len Y Z k l) (Nat.le_add_right _ _)
  | 0, c :: l => by
    have h1 := rep_len Y Z (Y.length - 1) l
    have h2 := rep_len Y Z 0 l
    rw [TX.rep, List.length_cons, Nat.succ_mul]
    split
    · rw [List.length_append]; omega
    · rw [List.length_cons]; omega
theorem repl_len (x y z : Str) (h0 : 1 ≤ y.length) : (PySem.Txt.replace x y z).length ≤ x.length * (z.length + 1) := by
  have e := TX.replace_rep x y z h0
  have h := rep_len y.cps.toList z.cps.toList 0 x.cps.toList
  rw [← e, Array.length_toList, Array.length_toList, Array.length_toList] at h
  exact h
def esc : List Nat → List Nat
  | [] => []
  | c :: l => (if c = 60 then TX.El else if c = 38 then TX.Ea else [c]) ++ esc l
theorem rep_one (y : Nat) (Z : List Nat) : ∀ l : List Nat, TX.rep [y] Z 0 l = l.flatMap fun c => if c = y then Z else [c]
  | [] => rfl
  | c :: l => by
    by_cases h : c = y
    · subst h
      rw [TX.rep_yes (Y := [c]) (l := c :: l) (by simp) ⟨l, rfl⟩]
      show Z ++ TX.rep [c] Z 0 l = _
      rw [rep_one c Z l]
      simp
    · rw [TX.rep_no (by rintro ⟨r, e⟩; injection e with e _; exact h e.symm), rep_one y Z l]
      simp [h]
theorem two_esc (l : List Nat) : TX.rep [60] TX.El 0 (TX.rep [38] TX.Ea 0 l) = esc l := by
  rw [rep_one, rep_one]
  induction l with
  | nil => rfl
  | cons c l ih =>
    rw [List.flatMap_cons, List.flatMap_append, ih, esc]
    congr 1
    by_cases h1 : c = 38
    · subst h1; rfl
    · by_cases h2 : c = 60
      · subst h2; rfl
      · simp [h1, h2]
theorem esc_len : ∀ l : List Nat, (esc l).length ≤ 3 * l.length
  | [] => by simp [esc]
  | c :: l => by
    have := esc_len l
    rw [esc, List.length_append, List.length_cons]
    by_cases h1 : c = 60
    · rw [if_pos h1]; show 3 + _ ≤ _; omega
    · rw [if_neg h1]
      by_cases h2 : c = 38
      · rw [if_pos h2]; show 3 + _ ≤ _; omega
      · rw [if_neg h2]; show 1 + _ ≤ _; omega
theorem esc_snoc (l : List Nat) (c : Nat) : esc (l ++ [c]) = esc l ++ (if c = 60 then TX.El else if c = 38 then TX.Ea else [c]) := by
  induction l with
  | nil => simp [esc]
  | cons d l ih => rw [List.cons_append, esc, esc, ih, List.append_assoc]
def escS (z : Str) : Str := ⟨(esc z.cps.toList).toArray⟩
theorem escS_of {z w : Str} (h : w.cps.toList = esc z.cps.toList) : w = escS z := by rw [seq_iff, h]; unfold escS; simp
theorem escS_len (z : Str) : (escS z).length ≤ 3 * z.length := by
  have h := esc_len z.cps.toList
  have e : (escS z).length = (esc z.cps.toList).length := by unfold escS; show (esc z.cps.toList).toArray.size = _; simp
  rw [e]
  have : z.cps.toList.length = z.length := Array.length_toList
  omega
def opn (n : Str) : Str := "<" ++ n ++ ">"
def cls (n : Str) : Str := "</" ++ n ++ ">"
def bareF (rs : List Row) (n : Str) : Bool := decide (sortOf rs (some n) = some ("bare" : Str))
mutual
def wr (rs : List Row) : Tr → Str
  | .tx s => escS s
  | .nd n ps => if bareF rs n = true then opn n else opn n ++ (wrs rs ps ++ cls n)
def wrs (rs : List Row) : List Tr → Str
  | [] => Str.empty
  | t :: ts => wr rs t ++ wrs rs ts
end
def raw : Tr → Tr
  | .tx s => .tx (escS s)
  | .nd n ps => .nd n ps
def lw (rs : List Row) : Tr → Str
  | .tx s => s
  | .nd n ps => wr rs (.nd n ps)
theorem lw_raw (rs : List Row) (t : Tr) : lw rs (raw t) = wr rs t := by cases t with | tx s => show escS s = _; rw [wr] | nd n ps => rfl
def lws (rs : List Row) : List Tr → Str
  | [] => Str.empty
  | t :: ts => lw rs t ++ lws rs ts
theorem lws_raw (rs : List Row) : ∀ ts : List Tr, lws rs (ts.map raw) = wrs rs ts
  | [] => by rw [wrs]; rfl
  | t :: ts => by show lw rs (raw t) ++ lws rs (ts.map raw) = _; rw [wrs, lw_raw, lws_raw rs ts]
theorem lws_app (rs : List Row) : ∀ a b : List Tr, lws rs (a ++ b) = lws rs a ++ lws rs b
  | [], b => by show lws rs b = Str.empty ++ lws rs b; rw [PySem.Str.empty_append]
  | t :: a, b => by show lw rs t ++ lws rs (a ++ b) = (lw rs t ++ lws rs a) ++ lws rs b; rw [lws_app rs a b, PySem.Str.append_assoc]
mutual
def smT (m : Nat) : Tr → Prop
  | .tx s => s.length ≤ m
  | .nd n ps => n.length ≤ m ∧ smTs m ps
def smTs (m : Nat) : List Tr → Prop
  | [] => True
  | t :: ts => smT m t ∧ smTs m ts
end
theorem smTs_get {m : Nat} : ∀ {ts : List Tr} {t : Tr}, smTs m ts → t ∈ ts → smT m t
  | u :: ts, t, h, e => by
    rw [smTs] at h
    rcases List.mem_cons.mp e with rfl | e
    · exact h.1
    · exact smTs_get h.2 e
def sp_name_of (K : PySem.W.Frag) : Sp := fun vs H Q _ => ∃ (n : Str) (ps : List Tr) (v : V), vs = [v] ∧ Dv K H (Tr.nd n ps).da v ∧ Q (.str n) H
theorem len_name_of (K : PySem.W.Frag) : ∀ vs H Q E, sp_name_of K vs H Q E → vs.length = ["tree"].length := by rintro vs H Q E ⟨n, ps, v, rfl, _⟩; rfl
def R_name_of (K : PySem.W.Frag) : TS :=
 (tRet (tOp (rIxA K) (tVar 0) (tC (.int 0))))
theorem rd_name_of (h : sp_name_of K vs H Q E) : R_name_of K { nx := fun _ H' => Q .non H', rt := Q } (start ["tree"] vs) H := by
  obtain ⟨n, ps, v, rfl, hd, q⟩ := h
  show R_name_of K _ [some v] H
  unfold R_name_of
  obtain ⟨a, bq, us, rfl, ha, _⟩ := tr_parts hd
  walk_at "step"
  exact v_ixT ha (v := .str n) rfl q
def sp_opening_of (K : PySem.W.Frag) : Sp := fun vs H Q _ => ∃ n : Str, vs = [.str n] ∧ n.length ≤ 4000 ∧ Q (.str (opn n)) H
theorem len_opening_of (K : PySem.W.Frag) : ∀ vs H Q E, sp_opening_of K vs H Q E → vs.length = ["name"].length := by rintro vs H Q E ⟨n, rfl, _⟩; rfl
def R_opening_of (K : PySem.W.Frag) : TS :=
 (tRet (tFs ("<" : Str) (">" : Str) (tVar 0)))
theorem rd_opening_of (h : sp_opening_of K vs H Q E) : R_opening_of K { nx := fun _ H' => Q .non H', rt := Q } (start ["name"] vs) H := by
  obtain ⟨n, rfl, hn, q⟩ := h
  show R_opening_of K _ [some (.str n)] H
  unfold R_opening_of
  walk_at "step"
  exact ⟨.str n, rfl, n, rfl, by omega, q⟩
def sp_closing_of (K : PySem.W.Frag) : Sp := fun vs H Q _ => ∃ n : Str, vs = [.str n] ∧ n.length ≤ 4000 ∧ Q (.str (cls n)) H
theorem len_closing_of (K : PySem.W.Frag) : ∀ vs H Q E, sp_closing_of K vs H Q E → vs.length = ["name"].length := by rintro vs H Q E ⟨n, rfl, _⟩; rfl
def R_closing_of (K : PySem.W.Frag) : TS :=
 (tRet (tFs ("</" : Str) (">" : Str) (tVar 0)))
theorem rd_closing_of (h : sp_closing_of K vs H Q E) : R_closing_of K { nx := fun _ H' => Q .non H', rt := Q } (start ["name"] vs) H := by
  obtain ⟨n, rfl, hn, q⟩ := h
  show R_closing_of K _ [some (.str n)] H
  unfold R_closing_of
  walk_at "step"
  exact ⟨.str n, rfl, n, rfl, by omega, q⟩
def sp_escaped (K : PySem.W.Frag) : Sp := fun vs H Q _ => ∃ z : Str, vs = [.str z] ∧ z.length ≤ 30000 ∧ Q (.str (escS z)) H
theorem len_escaped (K : PySem.W.Frag) : ∀ vs H Q E, sp_escaped K vs H Q E → vs.length = ["text"].length := by rintro vs H Q E ⟨z, rfl, _⟩; rfl
def R_escaped (K : PySem.W.Frag) : TS :=
 (tRet (tRepl (tRepl (tVar 0) ("&" : Str) ("&a;" : Str)) ("<" : Str) ("&l;" : Str)))
theorem rd_escaped (h : sp_escaped K vs H Q E) : R_escaped K { nx := fun _ H' => Q .non H', rt := Q } (start ["text"] vs) H := by
  obtain ⟨z, rfl, hz, q⟩ := h
  show R_escaped K _ [some (.str z)] H
  unfold R_escaped
  walk_at "step"
  refine ⟨z, rfl, by omega, ?_⟩
  have l1 := repl_len z "&" "&a;" (by decide)
  rw [show ("&a;" : Str).length = 3 from rfl] at l1
  refine ⟨_, rfl, by omega, ?_⟩
  rw [escS_of (z := z) (w := PySem.Txt.replace (PySem.Txt.replace z "&" "&a;") "<" "&l;") (by rw [TX.replace_rep _ _ _ (by decide), TX.replace_rep _ _ _ (by decide)]; exact two_esc _)]
  exact q
theorem v_eqB {rs : List Row} {n : Str} {Q : VK} (h : Q (.bl (bareF rs n)) H) : rEqA K (oV (sortOf rs (some n))) (.str ("bare" : Str)) H Q := by
  unfold bareF at h
  cases e : sortOf rs (some n) with
  | none => rw [e] at h; exact v_eqM (d := .none) (e := .str "bare") (dv_none.mpr rfl) (dv_str.mpr rfl) (by decide) h
  | some s => rw [e] at h; refine v_eqS ?_; simpa using h
theorem Same.rfl' : Same H H := fun _ _ e => e
theorem das_app (a b : List Tr) : Tr.das (a ++ b) = Tr.das a ++ Tr.das b := by rw [das_map, das_map, das_map, List.map_append]
def sp_to_write (K : PySem.W.Frag) : Sp := fun vs H Q _ => ∃ (a : Addr) (ts : List Tr) (us : List V), vs = [.ref a] ∧ SqT K H a us ∧ Dvs K H (Tr.das ts) us ∧ smTs 4000 ts ∧ ts.length ≤ 90000 ∧ ∀ (p : Addr) (us' : List V) (H' : Hp), Same H H' → H p = none → H' p = some (.lst us') → Dvs K H' (Tr.das ((ts.map raw).reverse)) us' → Q (.ref p) H'
theorem len_to_write (K : PySem.W.Frag) : ∀ vs H Q E, sp_to_write K vs H Q E → vs.length = ["parts"].length := by rintro vs H Q E ⟨a, ts, us, rfl, _⟩; rfl
def R_to_write (K : PySem.W.Frag) : TS :=
 (tRet (tComp [none] (iRevT K (tCons (tVar 0) tNil)) (gName 0) tTT (tIf (tB (tCall (sp_is_text K) [] E0 (tCons (tVar 0) tNil))) (tCall (sp_escaped K) [] E0 (tCons (tVar 0) tNil)) (tVar 0))))
theorem rd_to_write (h : sp_to_write K vs H Q E) : R_to_write K { nx := fun _ H' => Q .non H', rt := Q } (start ["parts"] vs) H := by
  obtain ⟨a, ts, us, rfl, hq, hd, hs, hl, q⟩ := h
  show R_to_write K _ [some (.ref a)] H
  unfold R_to_write
  have hul := das_len hd
  walk_at "step"
  refine st_revT ?_
  walk_at "step"
  have hrl : ((ts.map raw).reverse).length = us.length := by simp [hul]
  refine revT_comp hq (fun i ys H' => Same H H' ∧ Dvs K H' (Tr.das (((ts.map raw).reverse).take i)) ys) ⟨Same.rfl', by rw [List.take_zero, Tr.das]; exact dvs_nil⟩ (fun i ys H' hi p => ?_) (fun i ys H' hi p => p.1.sqT hq) ?_ ?_
  · have := das_len p.2
    rw [this, List.length_take]
    exact sl64 (by omega)
  · rintro i x ys H' hx hi ⟨s, d⟩
    have hit : us.length - 1 - i < ts.length := by omega
    have ht : ts[us.length - 1 - i]? = some ts[us.length - 1 - i] := List.getElem?_eq_getElem hit
    generalize ts[us.length - 1 - i] = t at ht
    obtain ⟨x', hx', dx⟩ := das_get hd ht
    rw [hx] at hx'
    cases hx'
    have dx := Dv.same s _ _ dx
    have tk : ((ts.map raw).reverse).take (i + 1) = ((ts.map raw).reverse).take i ++ [raw t] := by
      rw [List.take_add_one, List.getElem?_reverse (by rw [List.length_map]; omega), List.length_map, List.getElem?_map, show ts.length - 1 - i = us.length - 1 - i from by omega, ht]
      rfl
    walk_at "step"
    refine ⟨t, x, rfl, dx, ?_⟩
    walk_at "step"
    cases t with
    | tx z =>
      refine iteT ?_
      walk_at "step"
      have hzl : z.length ≤ 4000 := by have := smTs_get hs (List.mem_of_getElem? ht); rw [smT] at this; exact this
      rw [tr_tx dx]
      refine ⟨z, rfl, by omega, ?_⟩
      refine ⟨s, ?_⟩
      rw [tk, das_app]
      exact d.append (by show Dvs K _ (Tr.das [Tr.tx (escS z)]) _; rw [Tr.das, Tr.das, Tr.da]; exact Dvs.one (dv_str.mpr rfl))
    | nd n ps =>
      refine iteF ?_
      walk_at "step"
      refine ⟨s, ?_⟩
      rw [tk, das_app]
      exact d.append (by show Dvs K _ (Tr.das [Tr.nd n ps]) _; rw [Tr.das, Tr.das]; exact Dvs.one dx)
  · rintro ys H' ⟨s, d⟩ p hp
    rw [← hrl, List.take_length] at d
    exact q p ys _ (Same.tr s (Same.new hp _)) (none_of s hp) upd_same (Dvs.same (Same.new hp _) _ _ d)
@[reducible] def T_behind_opening_0 (K : PySem.W.Frag) : TS :=
 (tRet (tOp (rAddA K) (tLst (tCons (tCall (sp_closing_of K) [] E0 (tCons (tCall (sp_name_of K) [] E0 (tCons (tVar 1) tNil)) tNil)) tNil)) (tCall (sp_to_write K) [] E0 (tCons (tCall (sp_parts_of K) [] E0 (tCons (tVar 1) tNil)) tNil))))
def sp_behind_opening (K : PySem.W.Frag) : Sp := fun vs H Q _ => ∃ (bv v : V) (rs : List Row) (n : Str) (ps : List Tr), vs = [bv, v] ∧ Rws K H bv rs ∧ Dv K H (Tr.nd n ps).da v ∧ smT 4000 (Tr.nd n ps) ∧ ps.length ≤ 80000 ∧ ∀ (p : Addr) (us : List V) (H' : Hp), Same H H' → H p = none → H' p = some (.lst us) → Dvs K H' (Tr.das (if bareF rs n = true then [] else Tr.tx (cls n) :: (ps.map raw).reverse)) us → Q (.ref p) H'
theorem len_behind_opening (K : PySem.W.Frag) : ∀ vs H Q E, sp_behind_opening K vs H Q E → vs.length = ["book", "tree"].length := by rintro vs H Q E ⟨bv, v, rs, n, ps, rfl, _⟩; rfl
def R_behind_opening (K : PySem.W.Frag) : TS :=
 (tSeq (tIfS (tTest (tOp (rEqA K) (tCall (sp_sort_of K) [] E0 (tCons (tVar 0) (tCons (tCall (sp_name_of K) [] E0 (tCons (tVar 1) tNil)) tNil))) (tC (.str ("bare" : Str)))))
 (tRet (tLst tNil)) tNext)
 (T_behind_opening_0 K))
theorem rd_behind_opening (h : sp_behind_opening K vs H Q E) : R_behind_opening K { nx := fun _ H' => Q .non H', rt := Q } (start ["book", "tree"] vs) H := by
  obtain ⟨bv, v, rs, n, ps, rfl, hR, hd, hm, hl, q⟩ := h
  show R_behind_opening K _ [some bv, some v] H
  unfold R_behind_opening
  walk_at "step"
  refine ⟨n, ps, v, rfl, hd, ?_⟩
  walk_at "step"
  refine ⟨bv, some n, rs, rfl, hR, ?_⟩
  walk_at "step"
  refine v_eqB ?_
  walk_at "step"
  cases hb : bareF rs n with
  | true =>
    refine iteT ?_
    walk_at "step"
    rw [hb] at q
    exact ⟨sl64 (by simp), fun p hp => q p [] _ (Same.new hp _) hp upd_same (by rw [if_pos rfl, Tr.das]; exact dvs_nil)⟩
  | false =>
    refine iteF ?_
    walk_at "step"
    refine ⟨n, ps, v, rfl, hd, ?_⟩
    walk_at "step"
    rw [smT] at hm
    refine ⟨n, rfl, hm.1, ?_⟩
    walk_at "step"
    refine ⟨sl64 (by simp), fun c hc => ?_⟩
    have s1 := Same.new hc (.lst [.str (cls n)])
    have e1 : (upd H c (.lst [.str (cls n)])) c = some (.lst [.str (cls n)]) := upd_same
    generalize upd H c (.lst [.str (cls n)]) = H1 at *
    walk_at "step"
    refine ⟨.nd n ps, v, rfl, Dv.same s1 _ _ hd, fun a us H2 s2 ha hu => ?_⟩
    walk_at "step"
    refine ⟨a, ps, us, rfl, ha, hu, hm.2, by omega, fun p us' H3 s3 np hp hd3 => ?_⟩
    have hl3 := das_len hd3
    rw [List.length_reverse, List.length_map] at hl3
    refine v_cat (s3 _ _ (s2 _ _ e1)) hp (by rw [hl3]; exact sl64 (by show 1 + ps.length ≤ _; omega)) fun r hr => ?_
    walk_at "step"
    have s13 := Same.tr s1 (Same.tr s2 s3)
    rw [hb] at q
    refine q r _ _ (Same.tr s13 (Same.new hr _)) (none_of s13 hr) upd_same ?_
    rw [if_neg (by decide), Tr.das, Tr.da]
    exact dvs_cons (dv_str.mpr rfl) (Dvs.same (Same.new hr _) _ _ hd3)
end My
namespace My
open PySem L2
variable {K : PySem.W.Frag} {vs : List V} {H : Hp} {Q : VK} {E : XK}
theorem Rws.same {v : V} {rs : List Row} {H' : Hp} (h : Rws K H v rs) (s : Same H H') : Rws K H' v rs := by
  obtain ⟨a, vs, rfl, hq, hd⟩ := h
  exact ⟨a, vs, rfl, hq.imp s.sqL s.sqT, Dvs.same s _ _ hd⟩
def cat : List Str → Str
  | [] => Str.empty
  | x :: xs => x ++ cat xs
theorem join_cat (xs : List Str) : PySem.Txt.join ("" : Str) xs = cat xs := by
  have e : PySem.Txt.join ("" : Str) xs = Str.join ("" : Str) xs := PySem.StrLaws.glued_eq_join _ _
  rw [e]
  clear e
  induction xs with
  | nil => rfl
  | cons b r ih =>
    cases r with
    | nil => show b = b ++ Str.empty; rw [PySem.Str.append_empty]
    | cons c r =>
      show b ++ ("" : Str) ++ Str.join ("" : Str) (c :: r) = b ++ cat (c :: r)
      rw [ih, show ("" : Str) = Str.empty from rfl, PySem.Str.append_empty]
theorem cat_app : ∀ a b : List Str, cat (a ++ b) = cat a ++ cat b
  | [], b => by show cat b = Str.empty ++ cat b; rw [PySem.Str.empty_append]
  | x :: a, b => by show x ++ cat (a ++ b) = (x ++ cat a) ++ cat b; rw [cat_app a b, PySem.Str.append_assoc]
theorem cat_one (x : Str) : cat [x] = x := by show x ++ Str.empty = x; rw [PySem.Str.append_empty]
mutual
def mw : Tr → Nat
  | .tx _ => 1
  | .nd _ ps => 3 + mws ps
def mws : List Tr → Nat
  | [] => 0
  | t :: ts => mw t + mws ts
end
theorem mws_app : ∀ a b : List Tr, mws (a ++ b) = mws a + mws b
  | [], b => by show mws b = mws [] + mws b; rw [mws]; omega
  | t :: a, b => by show mws (t :: (a ++ b)) = _; rw [mws, mws, mws_app a b]; omega
theorem mw_raw (t : Tr) : mw (raw t) = mw t := by cases t with | tx s => show mw (.tx _) = _; rw [mw, mw] | nd n ps => rfl
theorem mws_raw : ∀ ts : List Tr, mws (ts.map raw) = mws ts
  | [] => rfl
  | t :: ts => by show mws (raw t :: ts.map raw) = _; rw [mws, mws, mw_raw, mws_raw ts]
theorem mws_rev : ∀ ts : List Tr, mws ts.reverse = mws ts
  | [] => rfl
  | t :: ts => by rw [List.reverse_cons, mws_app, mws_rev ts, mws, mws, mws]; omega
theorem mws_len : ∀ ts : List Tr, ts.length ≤ mws ts
  | [] => Nat.zero_le _
  | t :: ts => by
    have := mws_len ts
    have h : 1 ≤ mw t := by cases t <;> rw [mw] <;> omega
    rw [mws, List.length_cons]; omega
def okI : Tr → Prop
  | .tx s => s.length ≤ 200
  | .nd n ps => smT 60 (.nd n ps)
mutual
theorem smT_mono {m k : Nat} (h : m ≤ k) : ∀ t : Tr, smT m t → smT k t
  | .tx s, e => by rw [smT] at e ⊢; omega
  | .nd n ps, e => by rw [smT] at e ⊢; exact ⟨by omega, smTs_mono h ps e.2⟩
theorem smTs_mono {m k : Nat} (h : m ≤ k) : ∀ ts : List Tr, smTs m ts → smTs k ts
  | [], _ => by rw [smTs]; exact True.intro
  | t :: ts, e => by rw [smTs] at e ⊢; exact ⟨smT_mono h t e.1, smTs_mono h ts e.2⟩
end
theorem okI_raw {t : Tr} (h : smT 60 t) : okI (raw t) := by
  cases t with
  | tx s => rw [smT] at h; show (escS s).length ≤ 200; have := escS_len s; omega
  | nd n ps => exact h
theorem okI_raws {ts : List Tr} (h : smTs 60 ts) : ∀ t ∈ (ts.map raw).reverse, okI t := by
  intro t ht
  rw [List.mem_reverse, List.mem_map] at ht
  obtain ⟨u, hu, rfl⟩ := ht
  exact okI_raw (smTs_get h hu)
theorem opn_len (n : Str) : (opn n).length = n.length + 2 := by unfold opn; rw [strLen_append, strLen_append]; show 1 + n.length + 1 = _; omega
theorem cls_len (n : Str) : (cls n).length = n.length + 3 := by unfold cls; rw [strLen_append, strLen_append]; show 2 + n.length + 1 = _; omega
theorem sum_len : ∀ {xs : List Str}, (∀ x ∈ xs, x.length ≤ 200) → (xs.map (·.length)).sum ≤ 200 * xs.length
  | [], _ => Nat.le_refl _
  | x :: xs, h => by
    have h1 := h x List.mem_cons_self
    have h2 := sum_len (xs := xs) fun y hy => h y (List.mem_cons_of_mem _ hy)
    rw [List.map_cons, List.sum_cons, List.length_cons]; omega
theorem das_snoc {a : List Tr} {t : Tr} {us : List V} (h : Dvs K H (Tr.das (a ++ [t])) us) : ∃ ws y, us = ws ++ [y] ∧ Dvs K H (Tr.das a) ws ∧ Dv K H t.da y := by
  rw [das_app, Tr.das, Tr.das] at h
  exact Dvs.snoc h
theorem lws_snoc (rs : List Row) (a : List Tr) (t : Tr) : lws rs (a ++ [t]).reverse = lw rs t ++ lws rs a.reverse := by rw [List.reverse_append]; rfl
theorem while_m {c : TT} {tb : TS} {D : Ends} {σ : St} {m0 : Nat} (W : Nat → St → Hp → Prop) (h0 : W m0 σ H)
    (hs : ∀ m σ H, W m σ H → c σ H fun b H1 => if b = true then ∃ N : St → Hp → Prop, (∀ σ' H', N σ' H' → ∃ m', m' < m ∧ W m' σ' H') ∧ tb { D with nx := N, ct := N, bk := D.nx } σ H1 else D.nx σ H1) : tWhile c tb D σ H := ⟨W, ⟨_, h0⟩, hs⟩
inductive Wtn (K : PySem.W.Frag) (H : Hp) (bv v : V) (rs : List Row) (ps : List Tr) (m : Nat) : St → Hp → Prop
  | mk {H' : Hp} {pp pa : Addr} {a4 : Option V} {xs : List Str} {us : List V} {its : List Tr} (s : Same H H') (n1 : H pp = none) (n2 : H pa = none) (ne : pp ≠ pa) (h1 : H' pp = some (.lst (strV xs))) (h2 : H' pa = some (.lst us))
      (hx : ∀ x ∈ xs, x.length ≤ 200) (hi : ∀ t ∈ its, okI t) (d : Dvs K H' (Tr.das its) us) (e : cat xs ++ lws rs its.reverse = wrs rs ps) (hm : xs.length + mws its ≤ 30000) (hw : mws its = m) : Wtn K H bv v rs ps m [some bv, some v, some (.ref pp), some (.ref pa), a4] H'
@[reducible] def T_written_0 (K : PySem.W.Frag) : TS :=
 (tDrop (tBM K "list" rExtend (tVar 3) (tCons (tCall (sp_behind_opening K) [] E0 (tCons (tVar 0) (tCons (tVar 4) tNil))) tNil)))
@[reducible] def T_written_1 (K : PySem.W.Frag) : TS :=
 (tSeq (tDrop (tBM K "list" rAppend (tVar 2) (tCons (tCall (sp_opening_of K) [] E0 (tCons (tCall (sp_name_of K) [] E0 (tCons (tVar 4) tNil)) tNil)) tNil)))
 (T_written_0 K))
@[reducible] def T_written_2 (K : PySem.W.Frag) : TS :=
 (tIfS (tB (tCall (sp_is_text K) [] E0 (tCons (tVar 4) tNil)))
 (tDrop (tBM K "list" rAppend (tVar 2) (tCons (tVar 4) tNil))) (T_written_1 K))
@[reducible] def T_written_3 (K : PySem.W.Frag) : TS :=
 (tSeq (tWhile (tTest (tOp rGtA (tCB (rLenA K) (tCons (tVar 3) tNil)) (tC (.int 0))))
 (tSeq (tAsg (tBM0 K "list" rPop (tVar 3)) (gName 4))
 (T_written_2 K)))
 (tRet (tBM K "str" (rJoin K) (tC (.str ("" : Str))) (tCons (tVar 2) tNil))))
@[reducible] def T_written_4 (K : PySem.W.Frag) : TS :=
 (tSeq (tAsg (tCall (sp_to_write K) [] E0 (tCons (tCall (sp_parts_of K) [] E0 (tCons (tVar 1) tNil)) tNil)) (gName 3))
 (T_written_3 K))
def sp_written (K : PySem.W.Frag) : Sp := fun vs H Q _ => ∃ (bv v : V) (rs : List Row) (n : Str) (ps : List Tr), vs = [bv, v] ∧ Rws K H bv rs ∧ Dv K H (Tr.nd n ps).da v ∧ smTs 60 ps ∧ mws ps ≤ 30000 ∧ ∀ H', Same H H' → Q (.str (wrs rs ps)) H'
theorem len_written (K : PySem.W.Frag) : ∀ vs H Q E, sp_written K vs H Q E → vs.length = ["book", "tree"].length := by rintro vs H Q E ⟨bv, v, rs, n, ps, rfl, _⟩; rfl
def R_written (K : PySem.W.Frag) : TS :=
 (tSeq (tAsg (tLst tNil) (gName 2))
 (T_written_4 K))
theorem rd_written (h : sp_written K vs H Q E) : R_written K { nx := fun _ H' => Q .non H', rt := Q } (start ["book", "tree", "pieces", "ahead", "step"] vs) H := by
  obtain ⟨bv, v, rs, n, ps, rfl, hR, hd, hm, hl, q⟩ := h
  show R_written K _ [some bv, some v, none, none, none] H
  unfold R_written
  walk_at "step"
  refine ⟨sl64 (by simp), fun pp hpp => ?_⟩
  have s1 := Same.new hpp (.lst [])
  have e1 : (upd H pp (.lst [])) pp = some (.lst []) := upd_same
  generalize upd H pp (.lst []) = H1 at *
  walk_at "step"
  refine ⟨.nd n ps, v, rfl, Dv.same s1 _ _ hd, fun a us H2 s2 ha hu => ?_⟩
  walk_at "step"
  have hlen := mws_len ps
  refine ⟨a, ps, us, rfl, ha, hu, smTs_mono (by omega) _ hm, by omega, fun pa us' H3 s3 npa hpa hd3 => ?_⟩
  walk_at "step"
  have s12 := Same.tr s1 s2
  refine while_m (Wtn K H bv v rs ps) (.mk (xs := []) (Same.tr s12 s3) hpp (none_of s12 npa) (fun z => by rw [← z, s2 _ _ e1] at npa; cases npa) (s3 _ _ (s2 _ _ e1)) hpa (by simp) (okI_raws hm) hd3 (by rw [List.reverse_reverse, lws_raw]; exact PySem.Str.empty_append _) (by rw [mws_rev, mws_raw]; simpa using hl) rfl) ?_
  clear hd3 hpa npa s3 s2 s1 s12 e1 hpp ha hu hlen
  rintro m σ H' ⟨s, n1, n2, ne, h1, h2, hx, hi, d, e, hz, hw⟩
  rename_i pp pa a4 xs us its
  walk_at "step"
  refine .inl ⟨pa, us, rfl, .inl (SqL.of h2), ?_⟩
  walk_at "step"
  rcases List.eq_nil_or_concat its with rfl | ⟨its, t, rfl⟩
  · rw [Tr.das] at d
    have d := d.length
    have hu : us = [] := List.eq_nil_of_length_eq_zero d
    subst hu
    refine iteF ?_
    walk_at "step"
    refine ⟨rfl, ?_⟩
    walk_at "step"
    have hb := sum_len hx
    refine ⟨"", pp, xs, rfl, rfl, .inl (SqL.of h1), by show _ + xs.length * 0 ≤ _; omega, ?_⟩
    rw [join_cat]
    have e : cat xs ++ Str.empty = wrs rs ps := e
    rw [PySem.Str.append_empty] at e
    rw [e]
    exact q H' s
  · rw [List.concat_eq_append] at *
    obtain ⟨ws, y, rfl, dA, dy⟩ := das_snoc d
    clear d
    have hpos : decide (0 < (((ws ++ [y]).length : Nat) : Int)) = true := by rw [List.length_append]; simp <;> omega
    rw [hpos]
    refine iteT ?_
    refine ⟨fun σ' H'' => ∃ m', m' < m ∧ Wtn K H bv v rs ps m' σ' H'', fun _ _ h => h, ?_⟩
    have hwl := das_len dA
    have hil := mws_len its
    rw [mws_app] at hz hw
    rw [lws_snoc] at e
    walk_at "step"
    refine ⟨.inl ⟨rfl, _, SqL.of h2⟩, ?_⟩
    walk_at "step"
    refine v_pop h2 ?_
    have tk := tupK_lst (ys := ws) h2
    have s1 : Same H (upd H' pa (.lst ws)) := Same.put s n2 _
    have g1 : (upd H' pa (.lst ws)) pp = some (.lst (strV xs)) := by rw [upd_ne ne]; exact h1
    have g2 : (upd H' pa (.lst ws)) pa = some (.lst ws) := upd_same
    have dA := Dvs.tupK tk _ _ (das_fix _) dA
    have dy := Dv.tupK tk _ _ (da_fix _) dy
    generalize upd H' pa (.lst ws) = H4 at *
    walk_at "step"
    refine ⟨t, y, rfl, dy, ?_⟩
    walk_at "step"
    have hxs : (strV xs).length = xs.length := strV_len xs
    cases t with
    | tx z =>
      refine iteT ?_
      walk_at "step"
      rw [tr_tx dy]
      refine ⟨.inl ⟨rfl, _, SqL.of g1⟩, ?_⟩
      walk_at "step"
      rw [mws, mws, mw] at hz hw
      refine v_append g1 (by rw [hxs, sizeLine_eq]; omega) ?_
      have tk := tupK_lst (ys := strV xs ++ [.str z]) g1
      walk_at "step"
      refine ⟨mws its, by omega, .mk (xs := xs ++ [z]) (its := its) (Same.put s1 n1 _) n1 n2 ne (by rw [upd_same]; unfold strV; rw [List.map_append]; rfl) (by rw [upd_ne (Ne.symm ne)]; exact g2) ?_ (fun t ht => hi t (List.mem_append.mpr (.inl ht))) (Dvs.tupK tk _ _ (das_fix _) dA) ?_ (by rw [List.length_append, List.length_singleton]; omega) rfl⟩
      · intro x hx'
        rcases List.mem_append.mp hx' with h | h
        · exact hx x h
        · rw [List.mem_singleton.mp h]
          exact (hi (.tx z) (by simp) : z.length ≤ 200)
      · rw [cat_app, cat_one, PySem.Str.append_assoc]
        exact e
    | nd k qs =>
      refine iteF ?_
      have hk : smT 60 (Tr.nd k qs) := hi (.nd k qs) (by simp)
      have hk1 : k.length ≤ 60 := by rw [smT] at hk; exact hk.1
      have hk2 : smTs 60 qs := by rw [smT] at hk; exact hk.2
      have hql := mws_len qs
      rw [mws, mws, mw] at hz hw
      walk_at "step"
      refine ⟨.inl ⟨rfl, _, SqL.of g1⟩, ?_⟩
      walk_at "step"
      refine ⟨k, qs, y, rfl, dy, ?_⟩
      walk_at "step"
      refine ⟨k, rfl, by omega, ?_⟩
      walk_at "step"
      refine v_append g1 (by rw [hxs, sizeLine_eq]; omega) ?_
      have tk := tupK_lst (ys := strV xs ++ [.str (opn k)]) g1
      have s2 : Same H (upd H4 pp (.lst (strV xs ++ [.str (opn k)]))) := Same.put s1 n1 _
      have g3 : (upd H4 pp (.lst (strV xs ++ [.str (opn k)]))) pp = some (.lst (strV (xs ++ [opn k]))) := by rw [upd_same]; unfold strV; rw [List.map_append]; rfl
      have g4 : (upd H4 pp (.lst (strV xs ++ [.str (opn k)]))) pa = some (.lst ws) := by rw [upd_ne (Ne.symm ne)]; exact g2
      have dA := Dvs.tupK tk _ _ (das_fix _) dA
      have dy := Dv.tupK tk _ _ (da_fix _) dy
      generalize upd H4 pp (.lst (strV xs ++ [.str (opn k)])) = H5 at *
      walk_at "step"
      refine ⟨.inl ⟨rfl, _, SqL.of g4⟩, ?_⟩
      walk_at "step"
      refine ⟨bv, y, rs, k, qs, rfl, hR.same s2, dy, smT_mono (by omega) _ hk, by omega, fun p us H6 s6 np hp hd6 => ?_⟩
      have hd6l := das_len hd6
      have hbl : (if bareF rs k = true then [] else Tr.tx (cls k) :: (qs.map raw).reverse).length ≤ qs.length + 1 := by
        split
        · exact Nat.zero_le _
        · rw [List.length_cons, List.length_reverse, List.length_map]; exact Nat.le_refl _
      walk_at "step"
      refine v_extend (s6 _ _ g4) hp (by rw [hwl, hd6l, sizeLine_eq]; omega) ?_
      have s7 := Same.tr s2 s6
      have tk := tupK_lst (ys := ws ++ us) (s6 _ _ g4)
      walk_at "step"
      have hmb : mws (if bareF rs k = true then [] else Tr.tx (cls k) :: (qs.map raw).reverse) ≤ 1 + mws qs := by
        split
        · rw [mws]; omega
        · rw [mws, mw, mws_rev, mws_raw]; exact Nat.le_refl _
      refine ⟨_, ?_, .mk (xs := xs ++ [opn k]) (its := its ++ (if bareF rs k = true then [] else Tr.tx (cls k) :: (qs.map raw).reverse)) (Same.put s7 n2 _) n1 n2 ne (by rw [upd_ne ne]; exact s6 _ _ g3) upd_same ?_ ?_ (by rw [das_app]; exact Dvs.append (Dvs.tupK tk _ _ (das_fix _) (Dvs.same s6 _ _ dA)) (Dvs.tupK tk _ _ (das_fix _) hd6)) ?_ (by rw [List.length_append, List.length_singleton, mws_app]; omega) rfl⟩
      · rw [mws_app]; omega
      · intro x hx'
        rcases List.mem_append.mp hx' with h | h
        · exact hx x h
        · rw [List.mem_singleton.mp h, opn_len]; omega
      · intro t ht
        rcases List.mem_append.mp ht with h | h
        · exact hi t (List.mem_append.mpr (.inl h))
        · split at h
          · cases h
          · rcases List.mem_cons.mp h with h | h
            · rw [h]; show (cls k).length ≤ 200; rw [cls_len]; omega
            · exact okI_raws hk2 t h
      · rw [cat_app, cat_one, PySem.Str.append_assoc, List.reverse_append, lws_app, ← e]
        congr 1
        rw [← PySem.Str.append_assoc]
        congr 1
        show opn k ++ lws rs _ = wr rs (.nd k qs)
        rw [wr]
        split
        · show opn k ++ Str.empty = opn k; rw [PySem.Str.append_empty]
        · rw [List.reverse_cons, List.reverse_reverse, lws_app, lws_raw]
          show opn k ++ (wrs rs qs ++ (cls k ++ Str.empty)) = _
          rw [PySem.Str.append_empty]
end My
namespace My
open PySem L2
variable {K : PySem.W.Frag} {vs : List V} {H : Hp} {Q : VK} {E : XK}
@[reducible] def T__law_escaped_0 (K : PySem.W.Frag) : TS :=
 (tIfS (tTest (tOp (rEqA K) (tVar 2) (tC (.str ("&" : Str)))))
 (tAsg (tOp (rAddA K) (tVar 1) (tC (.str ("&a;" : Str)))) (gName 1)) (tAsg (tOp (rAddA K) (tVar 1) (tVar 2)) (gName 1)))
@[reducible] def T__law_escaped_1 (K : PySem.W.Frag) : TS :=
 (tIfS (tTest (tOp (rEqA K) (tVar 2) (tC (.str ("<" : Str)))))
 (tAsg (tOp (rAddA K) (tVar 1) (tC (.str ("&l;" : Str)))) (gName 1)) (T__law_escaped_0 K))
def sp__law_escaped (K : PySem.W.Frag) : Sp := fun vs H Q _ => ∃ z : Str, vs = [.str z] ∧ z.length ≤ 30000 ∧ ∀ w : Str, w.cps.toList = esc z.cps.toList → Q (.str w) H
theorem len__law_escaped (K : PySem.W.Frag) : ∀ vs H Q E, sp__law_escaped K vs H Q E → vs.length = ["_law_text"].length := by rintro vs H Q E ⟨z, rfl, _⟩; rfl
def R__law_escaped (K : PySem.W.Frag) : TS :=
 (tSeq (tAsg (tC (.str ("" : Str))) (gName 1))
 (tSeq (tFor (iStr (tVar 0)) (gName 2)
 (T__law_escaped_1 K))
 (tRet (tVar 1))))
theorem rd__law_escaped (h : sp__law_escaped K vs H Q E) : R__law_escaped K { nx := fun _ H' => Q .non H', rt := Q } (start ["_law_text", "_law_told", "_law_sign"] vs) H := by
  obtain ⟨z, rfl, hz, q⟩ := h
  show R__law_escaped K _ [some (.str z), none, none] H
  unfold R__law_escaped
  walk_at "step"
  have hl : z.cps.toList.length = z.cps.size := Array.length_toList
  have hz' : z.cps.size ≤ 30000 := hz
  refine str_for (fun i σ H' => H' = H ∧ ∃ (w : Str) (a : Option V), σ = [some (.str z), some (.str w), a] ∧ w.cps.toList = esc (z.cps.toList.take i)) ⟨rfl, "", none, rfl, rfl⟩ ?_ ?_
  · rintro i c σ H' hc ⟨rfl, w, a, rfl, hw⟩
    have hi : i < z.cps.toList.length := (List.getElem?_eq_some_iff.mp hc).1
    have wl : w.length ≤ 90000 := by
      have h1 := esc_len (z.cps.toList.take i)
      rw [← hw, Array.length_toList] at h1
      have h2 : (z.cps.toList.take i).length ≤ z.cps.toList.length := by rw [List.length_take]; omega
      have h3 : w.cps.size ≤ 90000 := by omega
      exact h3
    have tk : z.cps.toList.take (i + 1) = z.cps.toList.take i ++ [c] := by rw [List.take_add_one, hc]; rfl
    have e1 : (⟨#[c]⟩ : Str) = "<" ↔ c = 60 := by
      rw [seq_iff]; show [c] = [60] ↔ _; simp
    have e2 : (⟨#[c]⟩ : Str) = "&" ↔ c = 38 := by
      rw [seq_iff]; show [c] = [38] ↔ _; simp
    walk_at "step"
    by_cases h1 : c = 60
    · rw [decide_eq_true (e1.mpr h1)]; refine iteT ?_
      walk_at "step"
      refine v_addS (sl64 (by show w.length + 3 ≤ _; omega)) ?_
      walk_at "step"
      refine ⟨rfl, _, _, rfl, ?_⟩
      rw [tk, esc_snoc, if_pos h1, PySem.Str.cps_append, Array.toList_append, hw]; rfl
    · rw [decide_eq_false (fun e => h1 (e1.mp e))]; refine iteF ?_
      walk_at "step"
      by_cases h2 : c = 38
      · rw [decide_eq_true (e2.mpr h2)]; refine iteT ?_
        walk_at "step"
        refine v_addS (sl64 (by show w.length + 3 ≤ _; omega)) ?_
        walk_at "step"
        refine ⟨rfl, _, _, rfl, ?_⟩
        rw [tk, esc_snoc, if_neg h1, if_pos h2, PySem.Str.cps_append, Array.toList_append, hw]; rfl
      · rw [decide_eq_false (fun e => h2 (e2.mp e))]; refine iteF ?_
        walk_at "step"
        refine v_addS (sl64 (by rw [len_one]; omega)) ?_
        walk_at "step"
        refine ⟨rfl, _, _, rfl, ?_⟩
        rw [tk, esc_snoc, if_neg h1, if_neg h2, PySem.Str.cps_append, Array.toList_append, hw]
  · rintro σ H' ⟨rfl, w, a, rfl, hw⟩
    walk_at "step"
    rw [← hl, List.take_length] at hw
    exact q w hw
def sortsAt (rs : List Row) (n : Str) : List Str := (rs.filter fun r => decide (r.name = n)).map (·.sort)
theorem bare_in {n : Str} : ∀ {rs : List Row}, (rs.map Row.name).Nodup → (decide (("bare" : Str) ∈ sortsAt rs n) = bareF rs n)
  | [], _ => by rfl
  | r :: rs, h => by
    rw [List.map_cons, List.nodup_cons] at h
    have ih := bare_in (n := n) h.2
    by_cases e : r.name = n
    · have h1 : sortsAt rs n = [] := by
        unfold sortsAt
        rw [List.map_eq_nil_iff, List.filter_eq_nil_iff]
        intro x hx hn
        exact h.1 (List.mem_map.mpr ⟨x, hx, by rw [e]; exact of_decide_eq_true hn⟩)
      have h2 : sortsAt (r :: rs) n = [r.sort] := by
        show ((r :: rs).filter _).map _ = _
        rw [List.filter_cons_of_pos (by simp [e])]
        show r.sort :: sortsAt rs n = _
        rw [h1]
      have h3 : sortOf (r :: rs) (some n) = some r.sort := by
        unfold sortOf rowOf
        rw [List.find?_cons_of_pos (by simp [e])]; rfl
      unfold bareF
      rw [h2, h3]
      simp [eq_comm]
    · have h2 : sortsAt (r :: rs) n = sortsAt rs n := by
        show ((r :: rs).filter _).map _ = _
        rw [List.filter_cons_of_neg (by simp [e])]; rfl
      have h3 : sortOf (r :: rs) (some n) = sortOf rs (some n) := by
        unfold sortOf rowOf
        rw [List.find?_cons_of_neg (by simp [e])]
      unfold bareF at ih ⊢
      rw [h2, h3]
      exact ih
mutual
theorem wr_len (rs : List Row) : ∀ t : Tr, smT 60 t → (wr rs t).length ≤ 200 * mw t
  | .tx s, h => by rw [smT] at h; rw [wr, mw]; have := escS_len s; omega
  | .nd n ps, h => by
    rw [smT] at h
    have h2 := wrs_len rs ps h.2
    rw [wr, mw]
    split
    · rw [opn_len]; omega
    · rw [strLen_append, strLen_append, opn_len, cls_len]; omega
theorem wrs_len (rs : List Row) : ∀ ts : List Tr, smTs 60 ts → (wrs rs ts).length ≤ 200 * mws ts
  | [], _ => by rw [wrs]; exact Nat.zero_le _
  | t :: ts, h => by
    rw [smTs] at h
    have h1 := wr_len rs t h.1
    have h2 := wrs_len rs ts h.2
    rw [wrs, mws, strLen_append]; omega
end
theorem wrs_cat (rs : List Row) : ∀ ts : List Tr, wrs rs ts = cat (ts.map (wr rs))
  | [] => by rw [wrs]; rfl
  | t :: ts => by rw [wrs, wrs_cat rs ts]; rfl
theorem sum_cat : ∀ xs : List Str, (xs.map (·.length)).sum = (cat xs).length
  | [] => rfl
  | x :: xs => by rw [List.map_cons, List.sum_cons, sum_cat xs]; show _ = (x ++ cat xs).length; rw [strLen_append]
theorem hgts_get : ∀ {ts : List Tr} {t : Tr}, t ∈ ts → hgt t ≤ hgts ts
  | u :: ts, t, h => by
    rw [hgts]
    rcases List.mem_cons.mp h with rfl | h
    · omega
    · have := hgts_get h; omega
theorem mws_get : ∀ {ts : List Tr} {t : Tr}, t ∈ ts → mw t ≤ mws ts
  | u :: ts, t, h => by
    rw [mws]
    rcases List.mem_cons.mp h with rfl | h
    · omega
    · have := mws_get h; omega
@[reducible] def T__law_part_0 (K : PySem.W.Frag) (spr : Sp) : TS :=
 (tRet (tOp (rAddA K) (tOp (rAddA K) (tOp (rAddA K) (tOp (rAddA K) (tOp (rAddA K) (tOp (rAddA K) (tC (.str ("<" : Str))) (tVar 2)) (tC (.str (">" : Str)))) (tBM K "str" (rJoin K) (tC (.str ("" : Str))) (tCons (tComp [some 0, none] (iAny K (tVar 3)) (gName 1) tTT (tCall spr [] E0 (tCons (tVar 0) (tCons (tVar 1) tNil)))) tNil))) (tC (.str ("</" : Str)))) (tVar 2)) (tC (.str (">" : Str)))))
@[reducible] def T__law_part_1 (K : PySem.W.Frag) (spr : Sp) : TS :=
 (tSeq (tIfS (tTest (tOp (rInB K false) (tC (.str ("bare" : Str))) (tComp [some 2, none] (iAny K (tVar 0)) (gName 1) (tTest (tOp (rEqA K) (tOp (rIxA K) (tVar 1) (tC (.int 0))) (tVar 0))) (tOp (rIxA K) (tVar 1) (tC (.int 1))))))
 (tRet (tOp (rAddA K) (tOp (rAddA K) (tC (.str ("<" : Str))) (tVar 2)) (tC (.str (">" : Str))))) tNext)
 (T__law_part_0 K spr))
def spn__law_part (n : Nat) (K : PySem.W.Frag) : Sp := fun vs H Q _ => ∃ (bv v : V) (rs : List Row) (t : Tr), vs = [bv, v] ∧ Rws K H bv rs ∧ (rs.map Row.name).Nodup ∧ rs.length ≤ 1000 ∧ Dv K H t.da v ∧ smT 60 t ∧ hgt t ≤ n ∧ mw t ≤ 30000 ∧ ∀ H', Same H H' → Q (.str (wr rs t)) H'
def sp__law_part (K : PySem.W.Frag) : Sp := spn__law_part 45 K
def prev__law_part (K : PySem.W.Frag) : Nat → Sp
  | 0 => fun _ _ _ _ => False
  | n + 1 => spn__law_part n K
theorem len__law_part (K : PySem.W.Frag) (n : Nat) : ∀ vs H Q E, spn__law_part n K vs H Q E → vs.length = ["_law_book_here", "_law_part_here"].length := by rintro vs H Q E ⟨bv, v, rs, t, rfl, _⟩; rfl
def R__law_part (K : PySem.W.Frag) (spr : Sp) : TS :=
 (tSeq (tIfS (tB (tCB (rIsi K) (tCons (tVar 1) (tCons (tC (.ty "str")) tNil))))
 (tRet (tCall (sp__law_escaped K) [] E0 (tCons (tVar 1) tNil))) tNext)
 (tSeq (tAsg (tVar 1) (gTup K 2 (gCons (gName 2) (gCons (gName 3) gNil))))
 (T__law_part_1 K spr)))
theorem rd__law_part (n : Nat) (h : spn__law_part n K vs H Q E) : R__law_part K (prev__law_part K n) { nx := fun _ H' => Q .non H', rt := Q } (start ["_law_book_here", "_law_part_here", "_law_name", "_law_parts"] vs) H := by
  obtain ⟨bv, v, rs, t, rfl, hR, hn, hrl, hd, hs, hh, hw, q⟩ := h
  show R__law_part K _ _ [some bv, some v, none, none] H
  unfold R__law_part
  walk_at "step"
  refine isi_tr hd ?_
  walk_at "step"
  cases t with
  | tx z =>
    refine iteT ?_
    rw [tr_tx hd]
    walk_at "step"
    refine ⟨z, rfl, by rw [smT] at hs; omega, fun w hw => ?_⟩
    rw [escS_of hw]
    rw [wr] at q
    exact q H (fun _ _ e => e)
  | nd k ps =>
    refine iteF ?_
    obtain ⟨a, bq, us, rfl, ha, hb, hus⟩ := tr_parts hd
    obtain ⟨m, rfl⟩ : ∃ m, n = m + 1 := ⟨n - 1, by rw [hgt] at hh; omega⟩
    rw [hgt] at hh
    rw [mw] at hw
    have hk := hs
    rw [smT] at hk
    have hul := das_len hus
    have hml := mws_len ps
    walk_at "step"
    refine ⟨a, _, rfl, ha, rfl, _, _, rfl, st_name ⟨_, _, rfl, st_name ⟨rfl, ?_⟩⟩⟩
    walk_at "step"
    obtain ⟨ba, bs, rfl, hbq, hbd⟩ := hR
    have hbl := hbd.length
    rw [List.length_map] at hbl
    refine any_compS hbq Same.rfl' (fun i ys H' => H' = H ∧ ys = strV (sortsAt (rs.take i) k)) ⟨rfl, rfl⟩ ?_ (fun i ys H' p => by rw [p.1]; exact Same.rfl') ?_ ?_
    · rintro i ys H' hi ⟨rfl, rfl⟩
      rw [strV_len]
      unfold sortsAt
      rw [List.length_map]
      have h1 := List.length_filter_le (fun r : Row => decide (r.name = k)) (rs.take i)
      rw [List.length_take] at h1
      exact sl64 (by omega)
    · rintro i x ys H' hx ⟨rfl, rfl⟩
      obtain ⟨d, hd', dx⟩ := hbd.get' hx
      rw [List.getElem?_map] at hd'
      obtain ⟨r, hr, rfl⟩ := Option.map_eq_some_iff.mp hd'
      obtain ⟨rb, _, _, rfl, hrb, _, _⟩ := row_parts dx
      have tk : rs.take (i + 1) = rs.take i ++ [r] := by rw [List.take_add_one, hr]; rfl
      have tk2 : sortsAt (rs.take (i + 1)) k = sortsAt (rs.take i) k ++ sortsAt [r] k := by unfold sortsAt; rw [tk, List.filter_append, List.map_append]
      walk_at "step"
      refine v_ixT hrb (v := .str r.name) (atI_nat (j := 0) rfl) ?_
      walk_at "step"
      by_cases e : r.name = k
      · rw [decide_eq_true e]
        refine iteT ?_
        walk_at "step"
        refine v_ixT hrb (v := .str r.sort) (atI_nat (j := 1) rfl) ?_
        refine ⟨rfl, ?_⟩
        rw [tk2]
        unfold strV
        rw [List.map_append]
        congr 1
        unfold sortsAt
        rw [List.filter_cons_of_pos (by simp [e])]; rfl
      · rw [decide_eq_false e]
        refine iteF ?_
        refine ⟨rfl, ?_⟩
        rw [tk2]
        unfold sortsAt
        rw [List.filter_cons_of_neg (by simp [e])]
        simp
    · rintro ys H' ⟨rfl, rfl⟩ p hp
      rw [hbl, List.take_length]
      have s1 := Same.new hp (.lst (strV (sortsAt rs k)))
      have e1 : (upd H' p (.lst (strV (sortsAt rs k)))) p = some (.lst (strV (sortsAt rs k))) := upd_same
      generalize upd H' p (.lst (strV (sortsAt rs k))) = H1 at *
      refine .inl (v_in (.inl (SqL.of e1)) rfl (flat_strV _) ?_)
      rw [inV_strV, bare_in hn]
      walk_at "step"
      have l1 : ("<" : Str).length = 1 := rfl
      have l2 : (">" : Str).length = 1 := rfl
      have l3 : ("</" : Str).length = 2 := rfl
      cases hbare : bareF rs k with
      | true =>
        refine iteT ?_
        rw [wr, if_pos hbare] at q
        walk_at "step"
        refine v_addS (sl64 (by omega)) ?_
        walk_at "step"
        refine v_addS (sl64 (by rw [strLen_append]; omega)) ?_
        walk_at "step"
        exact q H1 s1
      | false =>
        refine iteF ?_
        rw [wr, if_neg (by rw [hbare]; decide)] at q
        have hwl := wrs_len rs ps hk.2
        walk_at "step"
        refine v_addS (sl64 (by omega)) ?_
        walk_at "step"
        refine v_addS (sl64 (by rw [strLen_append]; omega)) ?_
        walk_at "step"
        refine ⟨rfl, ?_⟩
        walk_at "step"
        refine any_compS (.inr hb) s1 (fun i ys H'' => Same H' H'' ∧ ys = strV ((ps.take i).map (wr rs))) ⟨s1, rfl⟩ ?_ (fun i ys H'' p => p.1) ?_ ?_
        · rintro i ys H'' hi ⟨_, rfl⟩
          rw [strV_len, List.length_map, List.length_take]
          exact sl64 (by omega)
        · rintro i x ys H'' hx ⟨s2, rfl⟩
          have hil : i < us.length := (List.getElem?_eq_some_iff.mp hx).1
          have ht : ps[i]? = some ps[i] := List.getElem?_eq_getElem (by omega)
          generalize ps[i] = t at ht
          obtain ⟨x', hx', dx⟩ := das_get hus ht
          rw [hx] at hx'
          cases hx'
          have hmem := List.mem_of_getElem? ht
          have hg := hgts_get hmem
          have hm2 := mws_get hmem
          have tk : (ps.take (i + 1)).map (wr rs) = (ps.take i).map (wr rs) ++ [wr rs t] := by rw [List.take_add_one, ht, List.map_append]; rfl
          walk_at "step"
          refine ⟨.ref ba, x, rs, t, rfl, ⟨ba, bs, rfl, hbq.imp s2.sqL s2.sqT, Dvs.same s2 _ _ hbd⟩, hn, hrl, Dv.same s2 _ _ dx, smTs_get hk.2 hmem, by omega, by omega, fun H3 s3 => ?_⟩
          refine ⟨Same.tr s2 s3, ?_⟩
          rw [tk]
          unfold strV
          rw [List.map_append]; rfl
        · rintro ys H'' ⟨s2, rfl⟩ c hc
          rw [hul, List.take_length]
          have s3 := Same.tr s2 (Same.new hc (.lst (strV (ps.map (wr rs)))))
          have e3 : (upd H'' c (.lst (strV (ps.map (wr rs))))) c = some (.lst (strV (ps.map (wr rs)))) := upd_same
          generalize upd H'' c (.lst (strV (ps.map (wr rs)))) = H5 at *
          walk_at "step"
          refine ⟨"", c, ps.map (wr rs), rfl, rfl, .inl (SqL.of e3), ?_, ?_⟩
          · rw [sum_cat, ← wrs_cat]
            show _ + _ * 0 ≤ _
            omega
          rw [join_cat, ← wrs_cat]
          refine v_addS (by rw [strLen_append, strLen_append, sizeLine_eq]; omega) ?_
          walk_at "step"
          refine v_addS (by rw [strLen_append, strLen_append, strLen_append, sizeLine_eq]; omega) ?_
          walk_at "step"
          refine v_addS (by rw [strLen_append, strLen_append, strLen_append, strLen_append, sizeLine_eq]; omega) ?_
          walk_at "step"
          refine v_addS (by rw [strLen_append, strLen_append, strLen_append, strLen_append, strLen_append, sizeLine_eq]; omega) ?_
          walk_at "step"
          have e5 : ((((("<" : Str) ++ k) ++ ">") ++ wrs rs ps) ++ "</") ++ k ++ ">" = opn k ++ (wrs rs ps ++ cls k) := by
            unfold opn cls
            simp only [PySem.Str.append_assoc]
          rw [e5]
          exact q H5 s3
end My
namespace My
open PySem L2
variable {K : PySem.W.Frag} {vs : List V} {H : Hp} {Q : VK} {E : XK}
theorem rev_int (ns : List Int) : (intV ns).reverse = intV ns.reverse := by unfold intV; rw [List.map_reverse]
theorem v_pow {i j : Int} (c : CPow i j) (h : Q (.int (i ^ j.toNat)) H) : rI CPow (fun i j => .int (i ^ j.toNat)) (.int i) (.int j) H Q := ⟨i, j, rfl, rfl, c, h⟩
def sp__law_cell_at (K : PySem.W.Frag) : Sp := fun vs H Q _ => ∃ (a : Addr) (ns : List Int) (k : Int), vs = [.ref a, .int k] ∧ SqL K H a (ns.map V.int) ∧ 0 ≤ k ∧ ∀ n : Int, Q (.int n) H
theorem len__law_cell_at (K : PySem.W.Frag) : ∀ vs H Q E, sp__law_cell_at K vs H Q E → vs.length = ["_law_script", "_law_k"].length := by rintro vs H Q E ⟨v, n, rs, rfl, _⟩; rfl
def R__law_cell_at (K : PySem.W.Frag) : TS :=
 (tSeq (tIfS (tTest (tOp rLtA (tVar 1) (tCB (rLenA K) (tCons (tVar 0) tNil))))
 (tRet (tOp (rIxA K) (tVar 0) (tVar 1))) tNext)
 (tRet (tC (.int 0))))
theorem rd__law_cell_at (h : sp__law_cell_at K vs H Q E) : R__law_cell_at K { nx := fun _ H' => Q .non H', rt := Q } (start ["_law_script", "_law_k"] vs) H := by
  obtain ⟨a, ns, k, rfl, hS, h0, q⟩ := h
  show R__law_cell_at K _ [some (.ref a), some (.int k)] H
  unfold R__law_cell_at
  walk_at "step"
  refine v_lenQ (.inl hS) ?_
  walk_at "step"
  rw [List.length_map]
  by_cases hk : k < (ns.length : Int)
  · rw [decide_eq_true hk]; refine iteT ?_
    have hk' : k.toNat < ns.length := by omega
    walk_at "step"
    refine v_ixL hS (v := .int ns[k.toNat]) ?_ (q _)
    have ek : k = ((k.toNat : Nat) : Int) := by omega
    have e : atI (ns.map V.int) ((k.toNat : Nat) : Int) = some (.int ns[k.toNat]) := atI_nat (by rw [List.getElem?_map, List.getElem?_eq_getElem hk'] <;> rfl)
    rw [← ek] at e
    exact e
  · rw [decide_eq_false hk]; refine iteF ?_
    walk_at "step"
    exact q 0
@[reducible] def T__law_stream_0 (K : PySem.W.Frag) : TS :=
 (tAsg (tOp (rAddA K) (tOp (rI (fun _ j => 0 < j) fun i j => .int (i % j)) (tVar 3) (tC (.int 2147483629))) (tC (.int 7))) (gName 3))
@[reducible] def T__law_stream_1 (K : PySem.W.Frag) : TS :=
 (tAsg (tOp (rI CDiv fun i j => .int (i / j)) (tVar 3) (tOp (rI CPow fun i j => .int (i ^ j.toNat)) (tC (.int 10)) (tC (.int 6)))) (gName 3))
@[reducible] def T__law_stream_2 (K : PySem.W.Frag) : TS :=
 (tDrop (tBM K "list" rAppend (tVar 2) (tCons (tOp (rI CDiv fun i j => .int (i / j)) (tOp (rI (fun _ j => 0 < j) fun i j => .int (i % j)) (tOp (rAddA K) (tOp (rAddA K) (tOp rMulA (tVar 3) (tVar 3)) (tOp rMulA (tC (.int 16807)) (tVar 3))) (tVar 4)) (tC (.int 2147483587))) (tC (.int 16))) tNil)))
@[reducible] def T__law_stream_3 (K : PySem.W.Frag) : TS :=
 (tSeq (tDrop (tBM K "list" rAppend (tVar 2) (tCons (tOp (rI (fun _ j => 0 < j) fun i j => .int (i % j)) (tVar 3) (tOp (rI CPow fun i j => .int (i ^ j.toNat)) (tC (.int 10)) (tC (.int 6)))) tNil)))
 (T__law_stream_1 K))
@[reducible] def T__law_stream_4 (K : PySem.W.Frag) : TS :=
 (tSeq (tAsg (tOp (rI (fun _ j => 0 < j) fun i j => .int (i % j)) (tOp (rAddA K) (tOp (rAddA K) (tOp (rAddA K) (tOp rMulA (tVar 3) (tVar 3)) (tOp rMulA (tC (.int 69069)) (tVar 3))) (tOp rMulA (tC (.int 5)) (tVar 4))) (tC (.int 1))) (tC (.int 2147483629))) (gName 3))
 (T__law_stream_2 K))
@[reducible] def T__law_stream_5 (K : PySem.W.Frag) : TS :=
 (tIfS (tTest (tOp (rEqA K) (tOp (rI (fun _ j => 0 < j) fun i j => .int (i % j)) (tVar 0) (tC (.int 2))) (tC (.int 1))))
 (T__law_stream_3 K) (T__law_stream_4 K))
@[reducible] def T__law_stream_6 (K : PySem.W.Frag) : TS :=
 (tSeq (tFor (iRng1 (tCons (tVar 1) tNil)) (gName 4)
 (T__law_stream_5 K))
 (tRet (tRev3 K (tVar 2))))
@[reducible] def T__law_stream_7 (K : PySem.W.Frag) : TS :=
 (tSeq (tIfS (tTest (tOp (rEqA K) (tOp (rI (fun _ j => 0 < j) fun i j => .int (i % j)) (tVar 0) (tC (.int 2))) (tC (.int 0))))
 (T__law_stream_0 K) tNext)
 (T__law_stream_6 K))
@[reducible] def T__law_stream_8 (K : PySem.W.Frag) : TS :=
 (tSeq (tAsg (tOp (rI CDiv fun i j => .int (i / j)) (tVar 0) (tC (.int 2))) (gName 3))
 (T__law_stream_7 K))
def sp__law_stream (K : PySem.W.Frag) : Sp := fun vs H Q _ => ∃ (c : Int) (n : Nat), vs = [.int c, .int n] ∧ n ≤ 1000 ∧ ∀ (p : Addr) (ns : List Int) (H' : Hp), Same H H' → H p = none → H' p = some (.lst (intV ns)) → ns.length = n → (∀ x ∈ ns, 0 ≤ x) → Q (.ref p) H'
theorem len__law_stream (K : PySem.W.Frag) : ∀ vs H Q E, sp__law_stream K vs H Q E → vs.length = ["_law_cell", "_law_count"].length := by rintro vs H Q E ⟨c, n, rfl, _⟩; rfl
def R__law_stream (K : PySem.W.Frag) : TS :=
 (tSeq (tAsg (tLst tNil) (gName 2))
 (T__law_stream_8 K))
theorem rd__law_stream (h : sp__law_stream K vs H Q E) : R__law_stream K { nx := fun _ H' => Q .non H', rt := Q } (start ["_law_cell", "_law_count", "_law_found", "_law_x", "_law_k"] vs) H := by
  obtain ⟨c, n, rfl, hn, q⟩ := h
  show R__law_stream K _ [some (.int c), some (.int n), none, none, none] H
  unfold R__law_stream
  walk_at "step"
  refine ⟨sl64 (by simp), fun d hd => ?_⟩
  walk_at "step"
  have hx00 : (c % 2 = 0 → 0 ≤ c / 2 % 2147483629 + 7 ∧ c / 2 % 2147483629 + 7 < 2147483648) := fun _ => by
    have h0 := Int.emod_nonneg (c / 2) (show (2147483629 : Int) ≠ 0 by decide)
    have h1 := Int.emod_lt_of_pos (c / 2) (show (0 : Int) < 2147483629 by decide)
    exact ⟨by omega, by omega⟩
  by_cases hc0 : c % 2 = 0
  case' pos =>
    rw [decide_eq_true hc0]; refine iteT ?_
    walk_at "step"
    generalize hx : c / 2 % 2147483629 + 7 = x0 at *
    have hx0 : (c % 2 = 0 → 0 ≤ x0 ∧ x0 < 2147483648) := hx00
  case' neg =>
    rw [decide_eq_false hc0]; refine iteF ?_
    walk_at "step"
    clear hx00
    generalize hx : c / 2 = x0 at *
    have hx0 : (c % 2 = 0 → 0 ≤ x0 ∧ x0 < 2147483648) := fun h => absurd h hc0
  all_goals
    refine rng1_for (by omega) (by omega) (fun i σ H' => ∃ (x : Int) (a : Option V) (ns : List Int), σ = [some (.int c), some (.int n), some (.ref d), some (.int x), a] ∧ Same H H' ∧ H' d = some (.lst (intV ns)) ∧ ns.length = i ∧ (∀ y ∈ ns, 0 ≤ y) ∧ (c % 2 = 0 → 0 ≤ x ∧ x < 2147483648)) ⟨x0, none, [], rfl, Same.new hd _, upd_same, rfl, by simp, hx0⟩ ?_ ?_
    · rintro i σ H' hi ⟨x, a, ns, rfl, s1, h1, hl, hns, hx⟩
      have hil : (intV ns).length < sizeLine := by rw [intV, List.length_map, sizeLine_eq]; omega
      walk_at "step"
      have sN : ∀ y : Int, Same H (upd H' d (.lst (intV ns ++ [.int y]))) := fun y b u e => by
        have nb : b ≠ d := fun z => by rw [z, hd] at e; cases e
        rw [upd_ne nb]; exact s1 b u e
      have eN : ∀ y : Int, intV ns ++ [.int y] = intV (ns ++ [y]) := fun y => by simp [intV]
      have pN : ∀ y : Int, 0 ≤ y → ∀ z ∈ ns ++ [y], 0 ≤ z := fun y hy z hz => by
        rcases List.mem_append.mp hz with h | h
        · exact hns z h
        · rw [List.mem_singleton.mp h]; exact hy
      by_cases hc : c % 2 = 1
      · rw [decide_eq_true hc]; refine iteT ?_
        walk_at "step"
        refine ⟨.inl ⟨rfl, _, SqL.of h1⟩, ?_⟩
        walk_at "step"
        refine v_pow ⟨by decide, by decide, by decide⟩ ?_
        walk_at "step"
        refine v_append h1 hil ?_
        walk_at "step"
        refine v_pow ⟨by decide, by decide, by decide⟩ ?_
        walk_at "step"
        exact ⟨_, _, ns ++ [_], rfl, sN _, by rw [← eN]; exact upd_same, by simp [hl], pN _ (Int.emod_nonneg _ (by decide)), fun h => by omega⟩
      · rw [decide_eq_false hc]; refine iteF ?_
        obtain ⟨x1, x2⟩ := hx (by omega)
        walk_at "step"
        refine v_mulI (.inl ⟨by omega, by omega⟩) ?_
        walk_at "step"
        refine v_mulI (.inl ⟨by decide, by decide⟩) ?_
        walk_at "step"
        refine v_mulI (.inl ⟨by decide, by decide⟩) ?_
        walk_at "step"
        generalize hm : (x * x + 69069 * x + 5 * (i : Int) + 1) % 2147483629 = m
        have m0 : 0 ≤ m := by rw [← hm]; exact Int.emod_nonneg _ (by decide)
        have m1 : m < 2147483629 := by rw [← hm]; exact Int.emod_lt_of_pos _ (by decide)
        refine ⟨.inl ⟨rfl, _, SqL.of h1⟩, ?_⟩
        walk_at "step"
        refine v_mulI (.inl ⟨by omega, by omega⟩) ?_
        walk_at "step"
        refine v_mulI (.inl ⟨by decide, by decide⟩) ?_
        walk_at "step"
        refine v_append h1 hil ?_
        walk_at "step"
        have := Int.emod_nonneg (m * m + 16807 * m + (i : Int)) (show (2147483587 : Int) ≠ 0 by decide)
        exact ⟨_, _, ns ++ [_], rfl, sN _, by rw [← eN]; exact upd_same, by simp [hl], pN _ (Int.ediv_nonneg this (by decide)), fun h => ⟨by omega, by omega⟩⟩
    · rintro σ H' ⟨x, a, ns, rfl, s1, h1, hl, hns, _⟩
      walk_at "step"
      refine ⟨d, _, rfl, SqL.of h1, fun p hp => ?_⟩
      refine q p ns.reverse _ (Same.tr s1 (Same.new hp _)) (Same.free s1 hp) (rev_int ns ▸ upd_same) (by rw [List.length_reverse, hl]; omega) fun x hx => hns x (List.mem_reverse.mp hx)
@[reducible] def T__law_mixed_0 (K : PySem.W.Frag) : TS :=
 (tRet (tOp (rI (fun _ j => 0 < j) fun i j => .int (i % j)) (tOp (rAddA K) (tOp rMulA (tVar 1) (tVar 1)) (tOp rMulA (tC (.int 69621)) (tVar 1))) (tC (.int 2147483587))))
def sp__law_mixed (K : PySem.W.Frag) : Sp := fun vs H Q _ => ∃ c : Int, vs = [.int c] ∧ ∀ n : Int, 0 ≤ n → Q (.int n) H
theorem len__law_mixed (K : PySem.W.Frag) : ∀ vs H Q E, sp__law_mixed K vs H Q E → vs.length = ["_law_cell"].length := by rintro vs H Q E ⟨c, rfl, _⟩; rfl
def R__law_mixed (K : PySem.W.Frag) : TS :=
 (tSeq (tAsg (tOp (rI (fun _ j => 0 < j) fun i j => .int (i % j)) (tOp rMulA (tOp (rAddA K) (tOp (rI (fun _ j => 0 < j) fun i j => .int (i % j)) (tOp (rI CDiv fun i j => .int (i / j)) (tVar 0) (tC (.int 2))) (tC (.int 2147483629))) (tC (.int 7))) (tC (.int 48271))) (tC (.int 2147483647))) (gName 1))
 (T__law_mixed_0 K))
theorem rd__law_mixed (h : sp__law_mixed K vs H Q E) : R__law_mixed K { nx := fun _ H' => Q .non H', rt := Q } (start ["_law_cell", "_law_number"] vs) H := by
  obtain ⟨c, rfl, q⟩ := h
  show R__law_mixed K _ [some (.int c), none] H
  unfold R__law_mixed
  walk_at "step"
  have a0 := Int.emod_nonneg (c / 2) (show (2147483629 : Int) ≠ 0 by decide)
  have a1 := Int.emod_lt_of_pos (c / 2) (show (0 : Int) < 2147483629 by decide)
  generalize c / 2 % 2147483629 = X at *
  refine v_mulI (.inl ⟨by omega, by omega⟩) ?_
  walk_at "step"
  have b0 := Int.emod_nonneg ((X + 7) * 48271) (show (2147483647 : Int) ≠ 0 by decide)
  have b1 := Int.emod_lt_of_pos ((X + 7) * 48271) (show (0 : Int) < 2147483647 by decide)
  generalize (X + 7) * 48271 % 2147483647 = Y at *
  refine v_mulI (.inl ⟨by omega, by omega⟩) ?_
  walk_at "step"
  refine v_mulI (.inl ⟨by decide, by decide⟩) ?_
  walk_at "step"
  exact q _ (Int.emod_nonneg _ (by decide))
@[reducible] def T__law_take_0 (K : PySem.W.Frag) : TS :=
 (tSeq (tAsg (tOp (rI CDiv fun i j => .int (i / j)) (tOp (rIxA K) (tVar 0) (tC (.int 0))) (tVar 1)) (gSub (tVar 0) (tC (.int 0)) rSetA))
 (tRet (tVar 2)))
def sp__law_take (K : PySem.W.Frag) : Sp := fun vs H Q _ => ∃ (p : Addr) (x m : Int), vs = [.ref p, .int m] ∧ H p = some (.lst [.int x]) ∧ 0 < m ∧ m < 1000000 ∧ ∀ n y : Int, 0 ≤ n → n < m → Q (.int n) (upd H p (.lst [.int y]))
theorem len__law_take (K : PySem.W.Frag) : ∀ vs H Q E, sp__law_take K vs H Q E → vs.length = ["_law_pot", "_law_most"].length := by rintro vs H Q E ⟨p, x, m, rfl, _⟩; rfl
def R__law_take (K : PySem.W.Frag) : TS :=
 (tSeq (tAsg (tOp (rI (fun _ j => 0 < j) fun i j => .int (i % j)) (tOp (rIxA K) (tVar 0) (tC (.int 0))) (tVar 1)) (gName 2))
 (T__law_take_0 K))
theorem rd__law_take (h : sp__law_take K vs H Q E) : R__law_take K { nx := fun _ H' => Q .non H', rt := Q } (start ["_law_pot", "_law_most", "_law_number"] vs) H := by
  obtain ⟨p, x, m, rfl, hp, hm, hm2, q⟩ := h
  show R__law_take K _ [some (.ref p), some (.int m), none] H
  unfold R__law_take
  walk_at "step"
  refine v_ixL (SqL.of hp) (v := .int x) rfl ?_
  walk_at "step"
  refine v_ixL (SqL.of hp) (v := .int x) rfl ?_
  walk_at "step"
  refine .inl (v_setL hp (j := 0) rfl ?_)
  walk_at "step"
  exact q _ _ (Int.emod_nonneg _ (by omega)) (Int.emod_lt_of_pos _ hm)
@[reducible] def T__law_told_by_0 (K : PySem.W.Frag) : TS :=
 (tRet (tOp (rAddA K) (tOp (rIxA K) (tVar 1) (tOp (rI (fun _ j => 0 < j) fun i j => .int (i % j)) (tVar 0) (tC (.int 16)))) (tOp (rIxA K) (tLst (tCons (tC (.str ("" : Str))) (tCons (tC (.str ("" : Str))) (tCons (tC (.str ("&" : Str))) (tCons (tC (.str ("Q" : Str))) tNil))))) (tOp (rI (fun _ j => 0 < j) fun i j => .int (i % j)) (tOp (rI CDiv fun i j => .int (i / j)) (tVar 0) (tC (.int 16))) (tC (.int 4))))))
def sp__law_told_by (K : PySem.W.Frag) : Sp := fun vs H Q _ => ∃ x : Int, vs = [.int x] ∧ ∀ (z : Str) (H' : Hp), Same H H' → z.length ≤ 20 → Q (.str z) H'
theorem len__law_told_by (K : PySem.W.Frag) : ∀ vs H Q E, sp__law_told_by K vs H Q E → vs.length = ["_law_x"].length := by rintro vs H Q E ⟨x, rfl, _⟩; rfl
def R__law_told_by (K : PySem.W.Frag) : TS :=
 (tSeq (tAsg (tLst (tStrs [("a" : Str), ("bc" : Str), ("x y" : Str), (" " : Str), ("\n" : Str), ("<" : Str), ("&" : Str), ("&l;" : Str), ("<a>" : Str), ("</a>" : Str), ("&a;&" : Str), ("a<b>" : Str), ("1 > 0" : Str), ("l;" : Str), ("&&<<" : Str), ("z!" : Str)])) (gName 1))
 (T__law_told_by_0 K))
theorem rd__law_told_by (h : sp__law_told_by K vs H Q E) : R__law_told_by K { nx := fun _ H' => Q .non H', rt := Q } (start ["_law_x", "_law_words"] vs) H := by
  obtain ⟨x, rfl, q⟩ := h
  show R__law_told_by K _ [some (.int x), none] H
  unfold R__law_told_by
  have hA : ∀ ws : List Str, (∀ w ∈ ws, w.length ≤ 10) → ∀ (j : Int), 0 ≤ j → j < ws.length → ∃ w : Str, atI (strV ws) j = some (.str w) ∧ w.length ≤ 10 := by
    intro ws hw j h0 h1
    have hj : j.toNat < ws.length := by omega
    refine ⟨ws[j.toNat], ?_, hw _ (List.getElem_mem hj)⟩
    have e : ((j.toNat : Nat) : Int) = j := by omega
    have f : atI (strV ws) ((j.toNat : Nat) : Int) = some (.str ws[j.toNat]) := atI_nat (by unfold strV; rw [List.getElem?_map, List.getElem?_eq_getElem hj]; rfl)
    rw [e] at f
    exact f
  walk_at "step"
  refine ⟨sl64 (by rw [strV_len]; decide), fun p hp => ?_⟩
  have s1 := Same.new hp (.lst (strV [("a" : Str), "bc", "x y", " ", "\n", "<", "&", "&l;", "<a>", "</a>", "&a;&", "a<b>", "1 > 0", "l;", "&&<<", "z!"]))
  have e1 : (upd H p (.lst (strV [("a" : Str), "bc", "x y", " ", "\n", "<", "&", "&l;", "<a>", "</a>", "&a;&", "a<b>", "1 > 0", "l;", "&&<<", "z!"]))) p = some _ := upd_same
  obtain ⟨w, hw, hwl⟩ := hA [("a" : Str), "bc", "x y", " ", "\n", "<", "&", "&l;", "<a>", "</a>", "&a;&", "a<b>", "1 > 0", "l;", "&&<<", "z!"] (by decide) (x % 16) (Int.emod_nonneg _ (by decide)) (Int.emod_lt_of_pos _ (by decide))
  generalize strV [("a" : Str), "bc", "x y", " ", "\n", "<", "&", "&l;", "<a>", "</a>", "&a;&", "a<b>", "1 > 0", "l;", "&&<<", "z!"] = W at *
  generalize upd H p (.lst W) = H1 at *
  walk_at "step"
  refine v_ixL (SqL.of e1) hw ?_
  walk_at "step"
  refine ⟨sl64 (by simp), fun p2 hp2 => ?_⟩
  have s2 := Same.new hp2 (.lst (strV [("" : Str), "", "&", "Q"]))
  have e2 : (upd H1 p2 (.lst (strV [("" : Str), "", "&", "Q"]))) p2 = some _ := upd_same
  obtain ⟨w2, hw2, hwl2⟩ := hA [("" : Str), "", "&", "Q"] (by decide) (x / 16 % 4) (Int.emod_nonneg _ (by decide)) (Int.emod_lt_of_pos _ (by decide))
  walk_at "step"
  refine v_ixL (SqL.of e2) hw2 ?_
  refine v_addS (sl64 (by omega)) ?_
  exact q _ _ (Same.tr s1 s2) (by rw [strLen_append]; omega)
end My
namespace My
open PySem L2
variable {K : PySem.W.Frag} {vs : List V} {H : Hp} {Q : VK} {E : XK}
structure Po (p : Addr) (H H' : Hp) : Prop where
  keep : ∀ b o, b ≠ p → H b = some o → H' b = some o
  at_ : ∃ y : Int, H' p = some (.lst [.int y])
theorem Po.tr {p : Addr} {H H1 H2 : Hp} (a : Po p H H1) (b : Po p H1 H2) : Po p H H2 := ⟨fun c o n e => b.keep c o n (a.keep c o n e), b.at_⟩
theorem Po.put {p : Addr} {H : Hp} {y : Int} : Po p H (upd H p (.lst [.int y])) := ⟨fun c o n e => by rw [upd_ne n]; exact e, y, upd_same⟩
theorem Po.new {p q : Addr} {H : Hp} {o : HO} {x : Int} (h : H p = some (.lst [.int x])) (hq : H q = none) : Po p H (upd H q o) :=
  ⟨fun c u n e => by rw [upd_ne (ne_free e hq)]; exact e, x, by rw [upd_ne (ne_free h hq)]; exact h⟩
theorem take_of {p : Addr} {m : Int} {H' : Hp} {Q' : VK} {E' : XK} (o : ∃ x : Int, H' p = some (.lst [.int x])) (hm : 0 < m) (hm2 : m < 1000000) (q : ∀ (n : Int) (H2 : Hp), 0 ≤ n → n < m → Po p H' H2 → Q' (.int n) H2) : sp__law_take K [.ref p, .int m] H' Q' E' := by
  obtain ⟨x, hx⟩ := o
  exact ⟨p, x, m, rfl, hx, hm, hm2, fun n y h0 h1 => q n _ h0 h1 Po.put⟩
@[reducible] def T__law_signs_by_0 (K : PySem.W.Frag) : TS :=
 (tRet (tBM K "str" (rJoin K) (tC (.str ("" : Str))) (tCons (tComp [some 2, some 0, none] (iRng1 (tCons (tCall (sp__law_take K) [] E0 (tCons (tVar 0) (tCons (tOp (rAddA K) (tVar 1) (tC (.int 1))) tNil))) tNil)) (gName 2) tTT (tOp (rIxA K) (tVar 0) (tCall (sp__law_take K) [] E0 (tCons (tVar 1) (tCons (tCB (rLenA K) (tCons (tVar 0) tNil)) tNil))))) tNil)))
@[reducible] def T__law_signs_by_1 (K : PySem.W.Frag) : TS :=
 (tSeq (tAsg (tOp (rAddA K) (tVar 2) (tC (.str ("abcdefghijklmnopqrstuvwxyz{|}~\n" : Str)))) (gName 2))
 (T__law_signs_by_0 K))
def sp__law_signs_by (K : PySem.W.Frag) : Sp := fun vs H Q _ => ∃ (p : Addr) (m : Int), vs = [.ref p, .int m] ∧ (∃ x : Int, H p = some (.lst [.int x])) ∧ 0 ≤ m ∧ m ≤ 50 ∧ ∀ (z : Str) (H' : Hp), Po p H H' → z.length ≤ 50 → Q (.str z) H'
theorem len__law_signs_by (K : PySem.W.Frag) : ∀ vs H Q E, sp__law_signs_by K vs H Q E → vs.length = ["_law_pot", "_law_most"].length := by rintro vs H Q E ⟨p, m, rfl, _⟩; rfl
def R__law_signs_by (K : PySem.W.Frag) : TS :=
 (tSeq (tAsg (tC (.str (" !\"#$&'()*+,-./0123456789:;<=>?@ABCDEFGHIJKLMNOPQRSTUVWXYZ[\\]^_`" : Str))) (gName 2))
 (T__law_signs_by_1 K))
theorem rd__law_signs_by (h : sp__law_signs_by K vs H Q E) : R__law_signs_by K { nx := fun _ H' => Q .non H', rt := Q } (start ["_law_pot", "_law_most", "_law_some"] vs) H := by
  obtain ⟨p, m, rfl, hp, h0, h1, q⟩ := h
  show R__law_signs_by K _ [some (.ref p), some (.int m), none] H
  unfold R__law_signs_by
  walk_at "step"
  refine v_addS (sl64 (by decide)) ?_
  have hA : 1 ≤ ((Str.ofString " !\"#$&'()*+,-./0123456789:;<=>?@ABCDEFGHIJKLMNOPQRSTUVWXYZ[\\]^_`") ++ (Str.ofString "abcdefghijklmnopqrstuvwxyz{|}~\n")).length ∧ ((Str.ofString " !\"#$&'()*+,-./0123456789:;<=>?@ABCDEFGHIJKLMNOPQRSTUVWXYZ[\\]^_`") ++ (Str.ofString "abcdefghijklmnopqrstuvwxyz{|}~\n")).length ≤ 1000 := by decide +kernel
  generalize (Str.ofString " !\"#$&'()*+,-./0123456789:;<=>?@ABCDEFGHIJKLMNOPQRSTUVWXYZ[\\]^_`") ++ (Str.ofString "abcdefghijklmnopqrstuvwxyz{|}~\n") = Z at *
  walk_at "step"
  refine ⟨rfl, ?_⟩
  walk_at "step"
  refine take_of hp (by omega) (by omega) fun n H1 hn0 hn1 o1 => ?_
  walk_at "step"
  refine rng1_comp hn0 (by omega) (fun i ys H' => Po p H H' ∧ ∃ zs : List Str, ys = strV zs ∧ zs.length = i ∧ ∀ z ∈ zs, z.length = 1) ⟨o1, [], rfl, rfl, by simp⟩ ?_ ?_ ?_
  · rintro i ys H' hi ⟨_, zs, rfl, hl, _⟩
    rw [strV_len]; exact sl64 (by omega)
  · rintro i ys H' hi ⟨o2, zs, rfl, hl, hz⟩
    walk_at "step"
    refine v_lenS (sl64 (by omega)) ?_
    walk_at "step"
    refine take_of o2.at_ (by omega) (by omega) fun k H2 hk0 hk1 o3 => ?_
    have hzl : Z.cps.toList.length = Z.length := Array.length_toList
    have hk : k.toNat < Z.cps.toList.length := by omega
    have ek : ((k.toNat : Nat) : Int) = k := by omega
    have e : atI Z.cps.toList ((k.toNat : Nat) : Int) = some Z.cps.toList[k.toNat] := atI_nat (List.getElem?_eq_getElem hk)
    rw [ek] at e
    refine v_ixS (sl64 (by omega)) e ?_
    refine ⟨o2.tr o3, zs ++ [⟨#[Z.cps.toList[k.toNat]]⟩], by unfold strV; rw [List.map_append]; rfl, by rw [List.length_append, hl]; rfl, fun z hz' => ?_⟩
    rcases List.mem_append.mp hz' with h | h
    · exact hz z h
    · rw [List.mem_singleton.mp h]; rfl
  · rintro ys H' ⟨o2, zs, rfl, hl, hz⟩ c hc
    have hsum : (zs.map (·.length)).sum = zs.length := by
      clear hl
      induction zs with
      | nil => rfl
      | cons z zs ih => rw [List.map_cons, List.sum_cons, ih (fun y hy => hz y (List.mem_cons_of_mem _ hy)), hz z List.mem_cons_self, List.length_cons]; omega
    walk_at "step"
    refine ⟨"", c, zs, rfl, rfl, .inl (SqL.of upd_same), by rw [hsum]; show _ + _ * 0 ≤ _; omega, ?_⟩
    rw [join_cat]
    obtain ⟨y, hy⟩ := o2.at_
    refine q _ _ (o2.tr (Po.new hy hc)) ?_
    rw [← sum_cat, hsum]; omega
end My
namespace My
open PySem L2
variable {K : PySem.W.Frag} {vs : List V} {H : Hp} {Q : VK} {E : XK}
theorem putK_keys (kvs : List (Key × V)) (k : Key) (v : V) : (k ∈ kvs.map (·.1) ∧ (putK kvs k v).map (·.1) = kvs.map (·.1)) ∨ (k ∉ kvs.map (·.1) ∧ (putK kvs k v).map (·.1) = kvs.map (·.1) ++ [k]) := by
  unfold putK
  by_cases h : k ∈ kvs.map (·.1)
  · refine .inl ⟨h, ?_⟩
    obtain ⟨x, hx, e⟩ := List.mem_map.mp h
    rw [if_pos (List.any_eq_true.mpr ⟨x, hx, decide_eq_true e⟩), List.map_map]
    refine List.map_congr_left fun x _ => ?_
    show (if x.1 = k then (x.1, v) else x).1 = x.1
    split <;> rfl
  · refine .inr ⟨h, ?_⟩
    rw [if_neg (fun z => by obtain ⟨x, hx, e⟩ := List.any_eq_true.mp z; exact h (List.mem_map.mpr ⟨x, hx, of_decide_eq_true e⟩)), List.map_append]
    rfl
theorem put_name {kvs : List (Key × V)} {ks : List Str} {k : Str} {v : V} (e : kvs.map (·.1) = ks.map (Sum.inr : Str → Key)) (nd : ks.Nodup) (hl : ∀ x ∈ ks, x.length ≤ 9) (hk : k.length ≤ 9) :
    ∃ ks' : List Str, (putK kvs (.inr k) v).map (·.1) = ks'.map (Sum.inr : Str → Key) ∧ ks'.Nodup ∧ (∀ x ∈ ks', x.length ≤ 9) ∧ ks'.length ≤ ks.length + 1 ∧ 0 < ks'.length := by
  have em : (Sum.inr k : Key) ∈ kvs.map (·.1) ↔ k ∈ ks := by
    rw [e, List.mem_map]
    exact ⟨fun ⟨x, hx, e⟩ => by cases e; exact hx, fun hx => ⟨k, hx, rfl⟩⟩
  rcases putK_keys kvs (.inr k) v with ⟨h, g⟩ | ⟨h, g⟩
  · exact ⟨ks, by rw [g, e], nd, hl, Nat.le_succ _, List.length_pos_of_mem (em.mp h)⟩
  · refine ⟨ks ++ [k], by rw [g, e, List.map_append]; rfl, List.nodup_append.mpr ⟨nd, by simp, fun a ha b hb => by rw [List.mem_singleton.mp hb]; exact fun z => h (em.mpr (z ▸ ha))⟩, fun x hx => ?_, by simp, by simp⟩
    rcases List.mem_append.mp hx with hx | hx
    · exact hl x hx
    · rw [List.mem_singleton.mp hx]; exact hk
inductive Nmg (K : PySem.W.Frag) (H : Hp) (p dc : Addr) (n : Int) (i : Nat) : St → Hp → Prop
  | mk {H' : Hp} {a4 a5 : Option V} {kvs : List (Key × V)} {ks : List Str} (o : Po p H H') (hd : H' dc = some (.dK kvs)) (e : kvs.map (·.1) = ks.map (Sum.inr : Str → Key)) (nd : ks.Nodup) (hl : ∀ x ∈ ks, x.length ≤ 9) (h1 : ks.length ≤ i) (h2 : 0 < i → 0 < ks.length) :
      Nmg K H p dc n i [some (.ref p), some (.int n), some (.str Lt), some (.ref dc), a4, a5] H'
@[reducible] def T__law_any_names_0 (K : PySem.W.Frag) : TS :=
 (tAsg (tC (.bl true)) (gSub (tVar 3) (tOp (rIxA K) (tLst (tCons (tVar 5) (tCons (tOp (rAddA K) (tVar 5) (tC (.str ("s" : Str)))) tNil))) (tCB rIntA (tCons (tOp (rInB K false) (tVar 5) (tTup (tCons (tC (.str ("shuts" : Str))) (tCons (tC (.str ("bars" : Str))) tNil)))) tNil))) rSetA))
@[reducible] def T__law_any_names_1 (K : PySem.W.Frag) : TS :=
 (tSeq (tAsg (tBM K "str" (rJoin K) (tC (.str ("" : Str))) (tCons (tComp [some 2, some 0, none] (iRng1 (tCons (tOp (rAddA K) (tC (.int 1)) (tCall (sp__law_take K) [] E0 (tCons (tVar 0) (tCons (tC (.int 8)) tNil)))) tNil)) (gName 2) tTT (tOp (rIxA K) (tVar 0) (tCall (sp__law_take K) [] E0 (tCons (tVar 1) (tCons (tC (.int 26)) tNil))))) tNil)) (gName 5))
 (T__law_any_names_0 K))
@[reducible] def T__law_any_names_2 (K : PySem.W.Frag) : TS :=
 (tSeq (tFor (iRng1 (tCons (tVar 1) tNil)) (gName 4)
 (T__law_any_names_1 K))
 (tRet (tCB rListK (tCons (tVar 3) tNil))))
def sp__law_any_names (K : PySem.W.Frag) : Sp := fun vs H Q _ => ∃ (p : Addr) (n : Int), vs = [.ref p, .int n] ∧ (∃ x : Int, H p = some (.lst [.int x])) ∧ 1 ≤ n ∧ n ≤ 12 ∧ ∀ (l : Addr) (ks : List Str) (H' : Hp), Po p H H' → H' l = some (.lst (strV ks)) → ks.Nodup → (∀ x ∈ ks, x.length ≤ 9) → ks.length ≤ 12 → 1 ≤ ks.length → Q (.ref l) H'
theorem len__law_any_names (K : PySem.W.Frag) : ∀ vs H Q E, sp__law_any_names K vs H Q E → vs.length = ["_law_pot", "_law_count"].length := by rintro vs H Q E ⟨p, n, rfl, _⟩; rfl
def R__law_any_names (K : PySem.W.Frag) : TS :=
 (tSeq (tAsg (tC (.str ("abcdefghijklmnopqrstuvwxyz" : Str))) (gName 2))
 (tSeq (tAsg tDNewK (gName 3))
 (T__law_any_names_2 K)))
theorem rd__law_any_names (h : sp__law_any_names K vs H Q E) : R__law_any_names K { nx := fun _ H' => Q .non H', rt := Q } (start ["_law_pot", "_law_count", "_law_letters", "_law_listed", "_law_k", "_law_name"] vs) H := by
  obtain ⟨p, n, rfl, hp, h0, h1, q⟩ := h
  show R__law_any_names K _ [some (.ref p), some (.int n), none, none, none, none] H
  unfold R__law_any_names
  walk_at "step"
  intro dc hdc
  obtain ⟨x0, hx0⟩ := hp
  have o1 : Po p H (upd H dc (.dK [])) := Po.new hx0 hdc
  have e1 : (upd H dc (.dK [])) dc = some (.dK []) := upd_same
  have nep : dc ≠ p := (ne_free hx0 hdc).symm
  generalize upd H dc (.dK []) = H1 at *
  walk_at "step"
  refine rng1_for (by omega) (by omega) (Nmg K H p dc n) (.mk o1 e1 rfl List.nodup_nil (by simp) (Nat.zero_le _) (by simp)) ?_ ?_
  · rintro i σ H' hi ⟨o, hd, e, nd, hl, h1', h2'⟩
    rename_i a4 a5 kvs ks
    walk_at "step"
    refine ⟨rfl, ?_⟩
    walk_at "step"
    refine take_of o.at_ (by omega) (by omega) fun t H2 ht0 ht1 o2 => ?_
    walk_at "step"
    have hd2 := o2.keep _ _ nep hd
    refine rng1_comp (by omega) (by omega) (fun j ys H3 => Po p H2 H3 ∧ ∃ zs : List Str, ys = strV zs ∧ zs.length = j ∧ ∀ z ∈ zs, z.length = 1) ⟨⟨fun _ _ _ e => e, o2.at_⟩, [], rfl, rfl, by simp⟩ ?_ ?_ ?_
    · rintro j ys H3 hj ⟨_, zs, rfl, hzl, _⟩
      rw [strV_len]; exact sl64 (by omega)
    · rintro j ys H3 hj ⟨o3, zs, rfl, hzl, hz⟩
      walk_at "step"
      refine take_of o3.at_ (by omega) (by omega) fun k H4 hk0 hk1 o4 => ?_
      refine v_ixS (sl64 (by rw [lt_len]; decide)) (lt_at hk0 hk1) ?_
      refine ⟨o3.tr o4, zs ++ [⟨#[97 + k.toNat]⟩], by unfold strV; rw [List.map_append]; rfl, by rw [List.length_append, hzl]; rfl, fun z hz' => ?_⟩
      rcases List.mem_append.mp hz' with h | h
      · exact hz z h
      · rw [List.mem_singleton.mp h]; rfl
    · rintro ys H3 ⟨o3, zs, rfl, hzl, hz⟩ c hc
      have hsum : (zs.map (·.length)).sum = zs.length := by
        clear hzl
        induction zs with
        | nil => rfl
        | cons z zs ih => rw [List.map_cons, List.sum_cons, ih (fun y hy => hz y (List.mem_cons_of_mem _ hy)), hz z List.mem_cons_self, List.length_cons]; omega
      walk_at "step"
      refine ⟨"", c, zs, rfl, rfl, .inl (SqL.of upd_same), by rw [hsum]; show _ + _ * 0 ≤ _; omega, ?_⟩
      rw [join_cat]
      have hcl : (cat zs).length ≤ 8 := by rw [← sum_cat, hsum]; omega
      generalize cat zs = nm at *
      obtain ⟨y3, hy3⟩ := o3.at_
      have o4 := o3.tr (Po.new (o := .lst (strV zs)) hy3 hc)
      have hd4 := o4.keep _ _ nep hd2
      generalize upd H3 c (.lst (strV zs)) = H4 at *
      have o5 := o.tr (o2.tr o4)
      clear o3 o4 hy3 hc
      walk_at "step"
      have l1 : (Str.ofString "s").length = 1 := rfl
      refine v_addS (sl64 (by omega)) ?_
      refine ⟨sl64 (by simp), fun l hll => ?_⟩
      obtain ⟨y5, hy5⟩ := o5.at_
      have o6 := o5.tr (Po.new (o := .lst [.str nm, .str (nm ++ Str.ofString "s")]) hy5 hll)
      have hd6 : (upd H4 l (.lst [.str nm, .str (nm ++ Str.ofString "s")])) dc = some (.dK kvs) := by rw [upd_ne (ne_free hd4 hll)]; exact hd4
      have hl6 : (upd H4 l (.lst [.str nm, .str (nm ++ Str.ofString "s")])) l = some (.lst [.str nm, .str (nm ++ Str.ofString "s")]) := upd_same
      generalize upd H4 l (.lst [.str nm, .str (nm ++ Str.ofString "s")]) = H6 at *
      walk_at "step"
      refine ⟨sl64 (by simp), fun tt htt => ?_⟩
      obtain ⟨y6, hy6⟩ := o6.at_
      have o7 := o6.tr (Po.new (o := .tup [.str ("shuts" : Str), .str ("bars" : Str)]) hy6 htt)
      have hd7 : (upd H6 tt (.tup [.str ("shuts" : Str), .str ("bars" : Str)])) dc = some (.dK kvs) := by rw [upd_ne (ne_free hd6 htt)]; exact hd6
      have hl7 : (upd H6 tt (.tup [.str ("shuts" : Str), .str ("bars" : Str)])) l = some (.lst [.str nm, .str (nm ++ Str.ofString "s")]) := by rw [upd_ne (ne_free hl6 htt)]; exact hl6
      have ht7 : (upd H6 tt (.tup [.str ("shuts" : Str), .str ("bars" : Str)])) tt = some (.tup [.str ("shuts" : Str), .str ("bars" : Str)]) := upd_same
      refine .inl (v_in (xs := strV [("shuts" : Str), "bars"]) (.inr (SqT.of ht7)) rfl (flat_strV _) ?_)
      generalize upd H6 tt (.tup [.str ("shuts" : Str), .str ("bars" : Str)]) = H7 at *
      generalize inV (V.str nm) (strV [("shuts" : Str), "bars"]) = bb
      walk_at "step"
      refine .inr ⟨bb, rfl, ?_⟩
      have key : ∃ k : Str, atI [V.str nm, V.str (nm ++ Str.ofString "s")] (if bb then 1 else 0) = some (.str k) ∧ k.length ≤ 9 := by
        cases bb with
        | true => exact ⟨_, rfl, by rw [strLen_append]; omega⟩
        | false => exact ⟨_, rfl, by omega⟩
      obtain ⟨k, hk, hkl⟩ := key
      refine v_ixL (SqL.of hl7) hk ?_
      obtain ⟨ks', g1, g2, g3, g4, g5⟩ := put_name (v := V.bl true) e nd hl hkl
      have hkl2 : kvs.length = ks.length := by have := congrArg List.length e; simpa using this
      refine .inr ⟨dc, _, rfl, DPut.k (k := .inr k) hd7 (by rw [hkl2, sizeLine_eq]; omega), ?_⟩
      obtain ⟨y7, hy7⟩ := o7.at_
      exact .mk ⟨fun c u n e => by rw [upd_ne (ne_free e hdc)]; exact o7.keep c u n e, y7, by rw [upd_ne (Ne.symm nep)]; exact hy7⟩ upd_same g1 g2 g3 (by omega) (fun _ => g5)
  · rintro σ H' ⟨o, hd, e, nd, hl, h1', h2'⟩
    rename_i a4 a5 kvs ks
    walk_at "step"
    refine ⟨dc, kvs, rfl, .inl hd, fun l hl' => ?_⟩
    have e2 : (kvs.map fun y => kV y.1) = strV ks := by
      have : (kvs.map fun y => kV y.1) = (kvs.map (·.1)).map kV := by rw [List.map_map]; rfl
      rw [this, e, List.map_map]; rfl
    rw [e2]
    obtain ⟨y, hy⟩ := o.at_
    exact q l ks _ (o.tr (Po.new hy hl')) upd_same nd hl (by omega) (by omega)
end My
namespace My
open PySem L2
variable {K : PySem.W.Frag} {vs : List V} {H : Hp} {Q : VK} {E : XK}
def bas (c : Int) (j : Nat) : Int := c / ((j : Int) + 64) + (j : Int) * j
def sgn (c : Int) (spot k j : Nat) : Nat := 97 + ((bas c j + if j = spot then (k : Int) else 0) % 26).toNat
def nk (c : Int) (spot k n : Nat) : List Nat := (List.range n).map (sgn c spot k)
def stS (l : List Nat) : Str := ⟨l.toArray⟩
theorem stS_inj {a b : List Nat} (h : stS a = stS b) : a = b := by have := congrArg (fun s : Str => s.cps.toList) h; simpa [stS] using this
theorem stS_len (l : List Nat) : (stS l).length = l.length := by show l.toArray.size = _; simp
theorem nk_len (c : Int) (spot k n : Nat) : (nk c spot k n).length = n := by unfold nk; simp
theorem nk_succ (c : Int) (spot k n : Nat) : nk c spot k (n + 1) = nk c spot k n ++ [sgn c spot k n] := by unfold nk; rw [List.range_succ, List.map_append]; rfl
theorem nk_inj {c : Int} {spot k k' n : Nat} (hs : spot < n) (hk : k < 26) (hk' : k' < 26) (h : nk c spot k n = nk c spot k' n) : k = k' := by
  have e := congrArg (fun l : List Nat => l[spot]?) h
  have f : ∀ k, (nk c spot k n)[spot]? = some (sgn c spot k spot) := fun k => by unfold nk; rw [List.getElem?_map, List.getElem?_range hs]; rfl
  simp only [f, Option.some.injEq] at e
  unfold sgn at e
  rw [if_pos rfl, if_pos rfl] at e
  omega
def fx (s : Str) : Str := if s = ("shuts" : Str) ∨ s = ("bars" : Str) then s ++ ("s" : Str) else s
theorem str_cancel {a b x y : Str} (h : a ++ x = b ++ y) (hl : x.length = y.length) : a = b ∧ x = y := by
  rw [seq_iff, PySem.Str.cps_append, PySem.Str.cps_append, Array.toList_append, Array.toList_append] at h
  have hl : x.cps.toList.length = y.cps.toList.length := by rw [Array.length_toList, Array.length_toList]; exact hl
  obtain ⟨h1, h2⟩ := List.append_inj' h hl
  exact ⟨(seq_iff _ _).mpr h1, (seq_iff _ _).mpr h2⟩
theorem fx_len (s : Str) : (fx s).length = s.length ∨ (∃ t, fx s = t ++ ("s" : Str)) ∧ (fx s).length = s.length + 1 := by
  unfold fx
  split
  · exact .inr ⟨⟨s, rfl⟩, by rw [strLen_append]; rfl⟩
  · exact .inl rfl
theorem fx_inj {a b : Str} (hl : a.length = b.length) (h : fx a = fx b) : a = b := by
  have h0 := congrArg Str.length h
  unfold fx at h h0
  split at h <;> split at h
  · exact (str_cancel h rfl).1
  · rename_i h1 h2
    rw [if_pos h1, if_neg h2, strLen_append] at h0
    have : ("s" : Str).length = 1 := rfl
    omega
  · rename_i h1 h2
    rw [if_neg h1, if_pos h2, strLen_append] at h0
    have : ("s" : Str).length = 1 := rfl
    omega
  · exact h
theorem fx_z {a b : Str} (hl : a.length = b.length) : fx a ++ ("z" : Str) ≠ fx b := by
  intro h
  have h0 := congrArg Str.length h
  rw [strLen_append] at h0
  have hz : ("z" : Str).length = 1 := rfl
  rcases fx_len b with hb | ⟨⟨t, hb⟩, _⟩
  · rcases fx_len a with ha | ⟨_, ha⟩ <;> omega
  · rw [hb] at h
    have := (str_cancel h rfl).2
    exact absurd this (by decide)
def nms (c : Int) (spot long m : Nat) : List Str := (List.range m).map fun k => fx (stS (nk c spot k long))
theorem nms_succ (c : Int) (spot long m : Nat) : nms c spot long (m + 1) = nms c spot long m ++ [fx (stS (nk c spot m long))] := by unfold nms; rw [List.range_succ, List.map_append]; rfl
theorem nms_len (c : Int) (spot long m : Nat) : (nms c spot long m).length = m := by unfold nms; simp
theorem nms_nodup {c : Int} {spot long m : Nat} (hs : spot < long) (hm : m ≤ 26) : (nms c spot long m).Nodup := by
  unfold nms
  rw [List.nodup_iff_pairwise_ne, List.pairwise_map]
  refine List.Pairwise.imp_of_mem ?_ (List.nodup_iff_pairwise_ne.mp List.nodup_range)
  intro a b ha hb hne e
  rw [List.mem_range] at ha hb
  exact hne (nk_inj hs (by omega) (by omega) (stS_inj (fx_inj (by rw [stS_len, stS_len, nk_len, nk_len]) e)))
theorem nms_mem {c : Int} {spot long m : Nat} {x : Str} (h : x ∈ nms c spot long m) : ∃ s : Str, x = fx s ∧ s.length = long := by
  unfold nms at h
  obtain ⟨k, _, rfl⟩ := List.mem_map.mp h
  exact ⟨_, rfl, by rw [stS_len, nk_len]⟩
theorem fx_le (s : Str) : (fx s).length ≤ s.length + 1 := by rcases fx_len s with h | ⟨_, h⟩ <;> omega
inductive Nmk (K : PySem.W.Frag) (H : Hp) (d n : Int) (lg sp : Nat) (l : Addr) (i : Nat) : St → Hp → Prop
  | mk {H' : Hp} {a6 a7 a8 a9 : Option V} (s : Same H H') (e : H' l = some (.lst (strV (nms d sp lg i)))) : Nmk K H d n lg sp l i [some (.int d), some (.int n), some (.str Lt), some (.int lg), some (.int sp), some (.ref l), a6, a7, a8, a9] H'
theorem nk_app (c : Int) (spot k j : Nat) : stS (nk c spot k j) ++ (⟨#[sgn c spot k j]⟩ : Str) = stS (nk c spot k (j + 1)) := by
  rw [seq_iff, PySem.Str.cps_append, Array.toList_append, nk_succ]
  simp [stS]
theorem set_nodup {ks : List Str} {z : Str} (h : ks.Nodup) (hz : z ∉ ks) : (ks.set 0 z).Nodup := by
  cases ks with
  | nil => exact h
  | cons k ks =>
    show (z :: ks).Nodup
    rw [List.nodup_cons] at h ⊢
    exact ⟨fun hm => hz (List.mem_cons_of_mem _ hm), h.2⟩
@[reducible] def T__law_names_0 (K : PySem.W.Frag) : TS :=
 (tRet (tCall (sp__law_any_names K) [] E0 (tCons (tLst (tCons (tOp (rI CDiv fun i j => .int (i / j)) (tVar 0) (tC (.int 2))) tNil)) (tCons (tVar 1) tNil))))
@[reducible] def T__law_names_1 (K : PySem.W.Frag) : TS :=
 (tAsg (tOp (rAddA K) (tVar 7) (tOp (rIxA K) (tVar 2) (tOp (rI (fun _ j => 0 < j) fun i j => .int (i % j)) (tVar 9) (tC (.int 26))))) (gName 7))
@[reducible] def T__law_names_2 (K : PySem.W.Frag) : TS :=
 (tSeq (tIfS (tTest (tOp (rEqA K) (tVar 8) (tVar 4)))
 (tAsg (tOp (rAddA K) (tVar 9) (tVar 6)) (gName 9)) tNext)
 (T__law_names_1 K))
@[reducible] def T__law_names_3 (K : PySem.W.Frag) : TS :=
 (tSeq (tAsg (tOp (rAddA K) (tOp (rI CDiv fun i j => .int (i / j)) (tVar 0) (tOp (rAddA K) (tVar 8) (tC (.int 64)))) (tOp rMulA (tVar 8) (tVar 8))) (gName 9))
 (T__law_names_2 K))
@[reducible] def T__law_names_4 (K : PySem.W.Frag) : TS :=
 (tSeq (tIfS (tOr (tTest (tOp (rEqA K) (tVar 7) (tC (.str ("shuts" : Str))))) (tTest (tOp (rEqA K) (tVar 7) (tC (.str ("bars" : Str))))))
 (tAsg (tOp (rAddA K) (tVar 7) (tC (.str ("s" : Str)))) (gName 7)) tNext)
 (tDrop (tBM K "list" rAppend (tVar 5) (tCons (tVar 7) tNil))))
@[reducible] def T__law_names_5 (K : PySem.W.Frag) : TS :=
 (tSeq (tAsg (tC (.str ("" : Str))) (gName 7))
 (tSeq (tFor (iRng1 (tCons (tVar 3) tNil)) (gName 8)
 (T__law_names_3 K))
 (T__law_names_4 K)))
@[reducible] def T__law_names_6 (K : PySem.W.Frag) : TS :=
 (tAsg (tOp (rAddA K) (tOp (rIxA K) (tVar 5) (tUn (rU fun i => .int (-i)) (tC (.int 1)))) (tC (.str ("z" : Str)))) (gSub (tVar 5) (tC (.int 0)) rSetA))
@[reducible] def T__law_names_7 (K : PySem.W.Frag) : TS :=
 (tSeq (tIfS (tTest (tOp (rEqA K) (tOp (rI (fun _ j => 0 < j) fun i j => .int (i % j)) (tOp (rI CDiv fun i j => .int (i / j)) (tVar 0) (tC (.int 49))) (tC (.int 4))) (tC (.int 1))))
 (T__law_names_6 K) tNext)
 (tRet (tVar 5)))
@[reducible] def T__law_names_8 (K : PySem.W.Frag) : TS :=
 (tSeq (tAsg (tLst tNil) (gName 5))
 (tSeq (tFor (iRng1 (tCons (tVar 1) tNil)) (gName 6)
 (T__law_names_5 K))
 (T__law_names_7 K)))
@[reducible] def T__law_names_9 (K : PySem.W.Frag) : TS :=
 (tSeq (tAsg (tOp (rI (fun _ j => 0 < j) fun i j => .int (i % j)) (tOp (rI CDiv fun i j => .int (i / j)) (tVar 0) (tC (.int 7))) (tVar 3)) (gName 4))
 (T__law_names_8 K))
@[reducible] def T__law_names_10 (K : PySem.W.Frag) : TS :=
 (tSeq (tAsg (tOp (rAddA K) (tC (.int 1)) (tOp (rI (fun _ j => 0 < j) fun i j => .int (i % j)) (tVar 0) (tC (.int 7)))) (gName 3))
 (T__law_names_9 K))
@[reducible] def T__law_names_11 (K : PySem.W.Frag) : TS :=
 (tSeq (tAsg (tOp (rI CDiv fun i j => .int (i / j)) (tVar 0) (tC (.int 2))) (gName 0))
 (tSeq (tAsg (tC (.str ("abcdefghijklmnopqrstuvwxyz" : Str))) (gName 2))
 (T__law_names_10 K)))
def sp__law_names (K : PySem.W.Frag) : Sp := fun vs H Q _ => ∃ (c n : Int), vs = [.int c, .int n] ∧ 1 ≤ n ∧ n ≤ 12 ∧ ∀ (l : Addr) (ks : List Str) (H' : Hp), Same H H' → H' l = some (.lst (strV ks)) → ks.Nodup → (∀ x ∈ ks, x.length ≤ 9) → ks.length ≤ 12 → 1 ≤ ks.length → Q (.ref l) H'
theorem len__law_names (K : PySem.W.Frag) : ∀ vs H Q E, sp__law_names K vs H Q E → vs.length = ["_law_cell", "_law_count"].length := by rintro vs H Q E ⟨c, n, rfl, _⟩; rfl
def R__law_names (K : PySem.W.Frag) : TS :=
 (tSeq (tIfS (tTest (tOp (rEqA K) (tOp (rI (fun _ j => 0 < j) fun i j => .int (i % j)) (tVar 0) (tC (.int 2))) (tC (.int 1))))
 (T__law_names_0 K) tNext)
 (T__law_names_11 K))
theorem rd__law_names (h : sp__law_names K vs H Q E) : R__law_names K { nx := fun _ H' => Q .non H', rt := Q } (start ["_law_cell", "_law_count", "_law_letters", "_law_long", "_law_spot", "_law_listed", "_law_k", "_law_name", "_law_j", "_law_step"] vs) H := by
  obtain ⟨c, n, rfl, h0, h1, q⟩ := h
  show R__law_names K _ [some (.int c), some (.int n), none, none, none, none, none, none, none, none] H
  unfold R__law_names
  walk_at "step"
  by_cases hc : c % 2 = 1
  · rw [decide_eq_true hc]
    refine iteT ?_
    walk_at "step"
    refine ⟨sl64 (by simp), fun p hp => ?_⟩
    walk_at "step"
    exact ⟨p, n, rfl, ⟨_, upd_same⟩, h0, h1, fun l ks H' o hl nd h9 hl1 hl2 => q l ks H' (fun b u e => o.keep b u (ne_free e hp) (by rw [upd_ne (ne_free e hp)]; exact e)) hl nd h9 hl1 hl2⟩
  rw [decide_eq_false hc]
  refine iteF ?_
  walk_at "step"
  generalize c / 2 = d
  have hd0 := Int.emod_nonneg d (show (7 : Int) ≠ 0 by decide)
  have hd1 := Int.emod_lt_of_pos d (show (0 : Int) < 7 by decide)
  obtain ⟨lg, hlg⟩ : ∃ lg : Nat, 1 + d % 7 = (lg : Int) := ⟨(1 + d % 7).toNat, by omega⟩
  rw [hlg]
  have hs0 := Int.emod_nonneg (d / 7) (show (lg : Int) ≠ 0 by omega)
  have hs1 := Int.emod_lt_of_pos (d / 7) (show (0 : Int) < lg by omega)
  obtain ⟨sp, hsp⟩ : ∃ sp : Nat, d / 7 % (lg : Int) = (sp : Int) := ⟨(d / 7 % (lg : Int)).toNat, by omega⟩
  rw [hsp]
  refine ⟨sl64 (by simp), fun l hl => ?_⟩
  have s1 := Same.new hl (.lst [])
  have e1 : (upd H l (.lst [])) l = some (.lst []) := upd_same
  generalize upd H l (.lst []) = H1 at *
  walk_at "step"
  refine rng1_for (by omega) (by omega) (Nmk K H d n lg sp l) (.mk s1 (by rw [e1]; rfl)) ?_ ?_
  · rintro i σ H' hi ⟨s2, e2⟩
    rename_i a6 a7 a8 a9
    walk_at "step"
    refine rng1_for (by omega) (by omega) (fun j σ H'' => H'' = H' ∧ ∃ a8 a9 : Option V, σ = [some (.int d), some (.int n), some (.str Lt), some (.int lg), some (.int sp), some (.ref l), some (.int i), some (.str (stS (nk d sp i j))), a8, a9]) ⟨rfl, _, _, rfl⟩ ?_ ?_
    · rintro j σ H'' hj ⟨rfl, a8, a9, rfl⟩
      walk_at "step"
      refine v_mulI (.inl ⟨by omega, by omega⟩) ?_
      walk_at "step"
      have hnl : (stS (nk d sp i j)).length = j := by rw [stS_len, nk_len]
      by_cases hjs : (j : Int) = (sp : Int)
      · rw [decide_eq_true hjs]
        refine iteT ?_
        walk_at "step"
        refine v_ixS (sl64 (by rw [lt_len]; decide)) (lt_at (Int.emod_nonneg _ (by decide)) (Int.emod_lt_of_pos _ (by decide))) ?_
        refine v_addS (sl64 (by rw [hnl, len_one]; omega)) ?_
        walk_at "step"
        have hg : sgn d sp i j = 97 + ((d / ((j : Int) + 64) + (j : Int) * j + i) % 26).toNat := by unfold sgn bas; rw [if_pos (by omega)]
        rw [← hg, nk_app]
        exact ⟨rfl, _, _, rfl⟩
      · rw [decide_eq_false hjs]
        refine iteF ?_
        walk_at "step"
        refine v_ixS (sl64 (by rw [lt_len]; decide)) (lt_at (Int.emod_nonneg _ (by decide)) (Int.emod_lt_of_pos _ (by decide))) ?_
        refine v_addS (sl64 (by rw [hnl, len_one]; omega)) ?_
        walk_at "step"
        have hg : sgn d sp i j = 97 + ((d / ((j : Int) + 64) + (j : Int) * j) % 26).toNat := by unfold sgn bas; rw [if_neg (by omega), Int.add_zero]
        rw [← hg, nk_app]
        exact ⟨rfl, _, _, rfl⟩
    · rintro σ H'' ⟨rfl, a8, a9, rfl⟩
      rw [Int.toNat_natCast]
      have hnl : (stS (nk d sp i lg)).length = lg := by rw [stS_len, nk_len]
      have hks := nms_succ d sp lg i
      have hkl := nms_len d sp lg i
      generalize stS (nk d sp i lg) = z at *
      have l1 : ("s" : Str).length = 1 := rfl
      walk_at "step"
      by_cases z1 : z = ("shuts" : Str)
      · have ez : fx z = z ++ ("s" : Str) := if_pos (.inl z1)
        rw [decide_eq_true z1]
        refine iteT ?_
        refine iteT ?_
        walk_at "step"
        refine v_addS (sl64 (by omega)) ?_
        walk_at "step"
        refine ⟨.inl ⟨rfl, _, SqL.of e2⟩, ?_⟩
        walk_at "step"
        refine v_append e2 (by rw [strV_len, hkl, sizeLine_eq]; omega) ?_
        walk_at "step"
        exact .mk (Same.put s2 hl _) (by rw [upd_same, hks, ez]; unfold strV; rw [List.map_append]; rfl)
      rw [decide_eq_false z1]
      refine iteF ?_
      walk_at "step"
      by_cases z2 : z = ("bars" : Str)
      · have ez : fx z = z ++ ("s" : Str) := if_pos (.inr z2)
        rw [decide_eq_true z2]
        refine iteT ?_
        walk_at "step"
        refine v_addS (sl64 (by omega)) ?_
        walk_at "step"
        refine ⟨.inl ⟨rfl, _, SqL.of e2⟩, ?_⟩
        walk_at "step"
        refine v_append e2 (by rw [strV_len, hkl, sizeLine_eq]; omega) ?_
        walk_at "step"
        exact .mk (Same.put s2 hl _) (by rw [upd_same, hks, ez]; unfold strV; rw [List.map_append]; rfl)
      have ez : fx z = z := if_neg (fun h => h.elim z1 z2)
      rw [decide_eq_false z2]
      refine iteF ?_
      walk_at "step"
      refine ⟨.inl ⟨rfl, _, SqL.of e2⟩, ?_⟩
      walk_at "step"
      refine v_append e2 (by rw [strV_len, hkl, sizeLine_eq]; omega) ?_
      walk_at "step"
      exact .mk (Same.put s2 hl _) (by rw [upd_same, hks, ez]; unfold strV; rw [List.map_append]; rfl)
  · rintro σ H' ⟨s2, e2⟩
    rename_i a6 a7 a8 a9
    obtain ⟨m, hm⟩ : ∃ m, n.toNat = m + 1 := ⟨n.toNat - 1, by omega⟩
    have hnd : (nms d sp lg n.toNat).Nodup := nms_nodup (by omega) (by omega)
    have hnl := nms_len d sp lg n.toNat
    have hn9 : ∀ x ∈ nms d sp lg n.toNat, x.length ≤ 8 := fun x hx => by
      obtain ⟨t, rfl, ht⟩ := nms_mem hx
      have := fx_le t
      omega
    walk_at "step"
    by_cases hz : d / 49 % 4 = 1
    · rw [decide_eq_true hz]
      refine iteT ?_
      have hlast : nms d sp lg n.toNat = nms d sp lg m ++ [fx (stS (nk d sp m lg))] := by rw [hm, nms_succ]
      have hll : (stS (nk d sp m lg)).length = lg := by rw [stS_len, nk_len]
      have hx9 : (fx (stS (nk d sp m lg))).length ≤ 8 := hn9 _ (by rw [hlast]; simp)
      have hzm : fx (stS (nk d sp m lg)) ++ ("z" : Str) ∉ nms d sp lg n.toNat := fun h => by
        obtain ⟨t, ht, htl⟩ := nms_mem h
        exact fx_z (by rw [hll, htl]) ht
      have hat : atI (strV (nms d sp lg n.toNat)) (-1) = some (.str (fx (stS (nk d sp m lg)))) := by
        rw [hlast]; unfold strV; rw [List.map_append]; exact atI_end (by simp) (by simp)
      have l1 : ("z" : Str).length = 1 := rfl
      walk_at "step"
      refine ⟨1, rfl, ?_⟩
      refine v_ixL (SqL.of e2) hat ?_
      walk_at "step"
      refine v_addS (sl64 (by omega)) ?_
      walk_at "step"
      refine .inl (v_setL e2 (j := 0) (by rw [strV_len, hnl, hm]; exact ixN_0 (by omega)) ?_)
      walk_at "step"
      refine q l ((nms d sp lg n.toNat).set 0 (fx (stS (nk d sp m lg)) ++ ("z" : Str))) _ (Same.put s2 hl _) (by rw [upd_same]; unfold strV; rw [List.map_set]) (set_nodup hnd hzm) (fun x hx => ?_) (by rw [List.length_set]; omega) (by rw [List.length_set]; omega)
      rcases List.mem_or_eq_of_mem_set hx with h | h
      · have := hn9 x h; omega
      · rw [h, strLen_append]; omega
    · rw [decide_eq_false hz]
      refine iteF ?_
      walk_at "step"
      exact q l _ _ s2 e2 hnd (fun x hx => by have := hn9 x hx; omega) (by omega) (by omega)
end My
namespace My
open PySem L2
variable {K : PySem.W.Frag} {vs : List V} {H : Hp} {Q : VK} {E : XK}
inductive Pkd (K : PySem.W.Frag) (H : Hp) (a d : Addr) (i : Nat) : St → Hp → Prop
  | mk {H' : Hp} {x : Int} {a3 : Option V} {zs : List Str} (s : Same H H') (e : H' d = some (.lst (strV zs))) (h : zs.length ≤ i) : Pkd K H a d i [some (.ref a), some (.int x), some (.ref d), a3] H'
@[reducible] def T__law_picked_0 (K : PySem.W.Frag) : TS :=
 (tSeq (tIfS (tTest (tOp (rEqA K) (tOp (rI (fun _ j => 0 < j) fun i j => .int (i % j)) (tVar 1) (tC (.int 4))) (tC (.int 0))))
 (tDrop (tBM K "list" rAppend (tVar 2) (tCons (tVar 3) tNil))) tNext)
 (tAsg (tOp (rI CDiv fun i j => .int (i / j)) (tVar 1) (tC (.int 4))) (gName 1)))
@[reducible] def T__law_picked_1 (K : PySem.W.Frag) : TS :=
 (tSeq (tFor (iAny K (tVar 0)) (gName 3)
 (T__law_picked_0 K))
 (tRet (tCB (rTupleA K) (tCons (tCB (rSortedS K) (tCons (tVar 2) tNil)) tNil))))
def sp__law_picked (K : PySem.W.Frag) : Sp := fun vs H Q _ => ∃ (a : Addr) (ks : List Str) (x : Int), vs = [.ref a, .int x] ∧ H a = some (.lst (strV ks)) ∧ ks.length ≤ 12 ∧ ∀ (p : Addr) (zs : List Str) (H' : Hp), Same H H' → H' p = some (.tup (strV zs)) → Q (.ref p) H'
theorem len__law_picked (K : PySem.W.Frag) : ∀ vs H Q E, sp__law_picked K vs H Q E → vs.length = ["_law_names_here", "_law_x"].length := by rintro vs H Q E ⟨a, ks, x, rfl, _⟩; rfl
def R__law_picked (K : PySem.W.Frag) : TS :=
 (tSeq (tAsg (tLst tNil) (gName 2))
 (T__law_picked_1 K))
theorem rd__law_picked (h : sp__law_picked K vs H Q E) : R__law_picked K { nx := fun _ H' => Q .non H', rt := Q } (start ["_law_names_here", "_law_x", "_law_picked_here", "_law_name"] vs) H := by
  obtain ⟨a, ks, x, rfl, ha, hl, q⟩ := h
  show R__law_picked K _ [some (.ref a), some (.int x), none, none] H
  unfold R__law_picked
  walk_at "step"
  refine ⟨sl64 (by simp), fun d hd => ?_⟩
  have s1 := Same.new hd (.lst [])
  have e1 : (upd H d (.lst [])) d = some (.lst []) := upd_same
  generalize upd H d (.lst []) = H1 at *
  walk_at "step"
  have hkl := strV_len ks
  refine any_forS (.inl (SqL.of ha)) s1 (Pkd K H a d) (.mk s1 (zs := []) e1 (Nat.le_refl _)) (fun i σ H' p => by cases p with | mk s e h => exact s) ?_ ?_
  · rintro i y σ H' hy ⟨s, e, h⟩
    rename_i x a3 zs
    have hil : i < (strV ks).length := (List.getElem?_eq_some_iff.mp hy).1
    obtain ⟨z, _, rfl⟩ : ∃ z, ks[i]? = some z ∧ V.str z = y := by
      unfold strV at hy
      rw [List.getElem?_map] at hy
      exact Option.map_eq_some_iff.mp hy
    walk_at "step"
    by_cases hx : x % 4 = 0
    · rw [decide_eq_true hx]
      refine iteT ?_
      walk_at "step"
      refine ⟨.inl ⟨rfl, _, SqL.of e⟩, ?_⟩
      walk_at "step"
      refine v_append e (by rw [strV_len, sizeLine_eq]; omega) ?_
      walk_at "step"
      exact .mk (zs := zs ++ [z]) (Same.put s hd _) (by rw [upd_same]; unfold strV; rw [List.map_append]; rfl) (by rw [List.length_append, List.length_singleton]; omega)
    · rw [decide_eq_false hx]
      refine iteF ?_
      walk_at "step"
      exact .mk (zs := zs) s e (by omega)
  · rintro σ H' ⟨s, e, h⟩
    rename_i x a3 zs
    walk_at "step"
    refine ⟨d, zs, rfl, SqL.of e, by omega, fun l ys hp _ hl2 => ?_⟩
    walk_at "step"
    refine ⟨l, _, rfl, .inl ⟨SqL.of upd_same, fun p hp2 => ?_⟩⟩
    exact q p ys _ (Same.tr s (Same.tr (Same.new hl2 _) (Same.new hp2 _))) upd_same
end My
namespace My
open PySem L2
variable {K : PySem.W.Frag} {vs : List V} {H : Hp} {Q : VK} {E : XK}
theorem But.put {ps : List Addr} {H H' : Hp} {p : Addr} (b : But ps H H') (h : H p = none) (o : HO) : But ps H (upd H' p o) := fun c u e n => by rw [upd_ne (ne_free e h)]; exact b c u e n
theorem But.own {p : Addr} {H H' : Hp} (b : But [p] H H') (o : HO) : But [p] H (upd H' p o) := fun c u e n => by rw [upd_ne (fun z => n (by simp [z]))]; exact b c u e n
theorem But.same {ps : List Addr} {H H' H2 : Hp} (b : But ps H H') (s : Same H' H2) : But ps H H2 := fun c u e n => s c u (b c u e n)
def FrK (m : Nat) (kvs : List (Key × V)) : Prop := ∀ y ∈ kvs, ∃ j i : Nat, y = (Sum.inl (j : Int), V.int i) ∧ j < m ∧ i < m
theorem mem_put {kvs : List (Key × V)} {k : Key} {v : V} {y : Key × V} (h : y ∈ putK kvs k v) : y ∈ kvs ∨ y = (k, v) := by
  unfold putK at h
  split at h
  · obtain ⟨x, hx, rfl⟩ := List.mem_map.mp h
    by_cases e : x.1 = k
    · rw [if_pos e, e]; exact .inr rfl
    · rw [if_neg e]; exact .inl hx
  · rcases List.mem_append.mp h with h | h
    · exact .inl h
    · exact .inr (List.mem_singleton.mp h)
theorem put_le (kvs : List (Key × V)) (k : Key) (v : V) : (putK kvs k v).length ≤ kvs.length + 1 := by
  unfold putK
  split
  · rw [List.length_map]; exact Nat.le_succ _
  · rw [List.length_append]; exact Nat.le_refl _
inductive So (K : PySem.W.Frag) (H : Hp) (xa sa fr : Addr) (m L : Nat) (i : Nat) : St → Hp → Prop
  | mk {H' : Hp} {a4 a5 : Option V} {ns : List Int} {ss : List Str} (b : But [xa] H H') (hx : H' xa = some (.lst (intV ns))) (hl : ns.length + i = L) (hs : H' sa = some (.lst (strV ss))) (hsl : ss.length = i) (hf : H' fr = some (.dK [])) :
      So K H xa sa fr m L i [some (.ref xa), some (.int m), some (.ref sa), some (.ref fr), a4, a5] H'
inductive Sf (K : PySem.W.Frag) (H : Hp) (xa sa fr : Addr) (m L : Nat) (i : Nat) : St → Hp → Prop
  | mk {H' : Hp} {a4 a5 : Option V} {ns : List Int} {ss : List Str} {kvs : List (Key × V)} (b : But [xa] H H') (hx : H' xa = some (.lst (intV ns))) (hl : L ≤ ns.length + m + i) (hu : ns.length ≤ 1000) (hs : H' sa = some (.lst (strV ss))) (hsl : ss.length = m) (hf : H' fr = some (.dK kvs)) (hk : FrK m kvs) (hkl : kvs.length ≤ i) :
      Sf K H xa sa fr m L i [some (.ref xa), some (.int m), some (.ref sa), some (.ref fr), a4, a5] H'
@[reducible] def T__law_sorts_1 (K : PySem.W.Frag) : TS :=
 (tAsg (tVar 4) (gSub (tVar 3) (tOp (rIxA K) (tVar 5) (tOp (rI (fun _ j => 0 < j) fun i j => .int (i % j)) (tBM0 K "list" rPop (tVar 0)) (tCB (rLenA K) (tCons (tVar 5) tNil)))) rSetA))
@[reducible] def T__law_sorts_2 (K : PySem.W.Frag) : TS :=
 (tIfS (tTest (tOp (rEqA K) (tVar 5) (tLst tNil)))
 (tAsg (tC (.str ("room" : Str))) (gSub (tVar 2) (tVar 4) rSetA)) (T__law_sorts_1 K))
@[reducible] def T__law_sorts_3 (K : PySem.W.Frag) : TS :=
 (tSeq (tAsg (tComp [some 3, some 2, none] (iRng2 (tCons (tOp (rAddA K) (tVar 4) (tC (.int 1))) (tCons (tVar 1) tNil))) (gName 2) (tAnd (tTest (tOp (rInB K false) (tOp (rIxA K) (tVar 1) (tVar 2)) (tTup (tCons (tC (.str ("plain" : Str))) (tCons (tC (.str ("frame" : Str))) tNil))))) (tTest (tOp (rInB K true) (tVar 2) (tVar 0)))) (tVar 2)) (gName 5))
 (T__law_sorts_2 K))
def sorF (K : PySem.W.Frag) : TS :=
 (tIfS (tTest (tOp (rEqA K) (tOp (rIxA K) (tVar 2) (tVar 4)) (tC (.str ("frame" : Str)))))
 (T__law_sorts_3 K) tNext)
theorem sor_F {D : Ends} {xa sa fr : Addr} {m L i : Nat} {H0 : Hp} {σ : St} (hm : m ≤ 12) (hi : i < m) (hL : 2 * m ≤ L) (n0 : H0 sa = none) (n1 : H0 fr = none) (x1 : ∃ ns, H0 xa = some (.lst (intV ns))) (nsf : sa ≠ fr) (p : Sf K H0 xa sa fr m L i σ H)
    (q : ∀ σ' H', Sf K H0 xa sa fr m L (i + 1) σ' H' → D.nx σ' H') : sorF K D (σ.set 4 (some (.int ((m : Int) - 1 - i)))) H := by
  obtain ⟨b, hx, hl, hu, hs, hsl, hf, hk, hkl⟩ := p
  rename_i a4 a5 ns ss kvs
  obtain ⟨x1, hx1⟩ := x1
  have nxs : xa ≠ sa := fun z => by rw [z, n0] at hx1; cases hx1
  have nxf : xa ≠ fr := fun z => by rw [z, n1] at hx1; cases hx1
  obtain ⟨k, hk0⟩ : ∃ k : Nat, (m : Int) - 1 - i = (k : Int) := ⟨m - 1 - i, by omega⟩
  rw [hk0]
  have hkm : k < m := by omega
  show sorF K D [some (.ref xa), some (.int m), some (.ref sa), some (.ref fr), some (.int k), a5] H
  unfold sorF
  walk_at "step"
  refine v_ixL (SqL.of hs) (v := .str (ss[k]'(by omega))) (atI_nat (by unfold strV; rw [List.getElem?_map, List.getElem?_eq_getElem (by omega)]; rfl)) ?_
  walk_at "step"
  by_cases e : ss[k]'(by omega) = ("frame" : Str)
  · rw [decide_eq_true e]
    refine iteT ?_
    walk_at "step"
    refine rng2_comp (by omega) (by omega) (by omega) (fun j ys H' => Same H H' ∧ ∃ js : List Nat, ys = intV (js.map fun j : Nat => (j : Int)) ∧ js.length ≤ j ∧ ∀ x ∈ js, x < m) ⟨fun _ _ e => e, [], rfl, Nat.le_refl _, by simp⟩ ?_ ?_ ?_
    · rintro j ys H' hj ⟨_, js, rfl, hjl, _⟩
      rw [intV_len, List.length_map]; exact sl64 (by omega)
    · rintro j ys H' hj ⟨s1, js, rfl, hjl, hjm⟩
      obtain ⟨j', hj'⟩ : ∃ j' : Nat, (k : Int) + 1 + (j : Int) = (j' : Int) := ⟨k + 1 + j, by omega⟩
      rw [hj']
      have hjm' : j' < m := by omega
      walk_at "step"
      refine v_ixL (SqL.of (s1 _ _ hs)) (v := .str (ss[j']'(by omega))) (atI_nat (by unfold strV; rw [List.getElem?_map, List.getElem?_eq_getElem (by omega)]; rfl)) ?_
      walk_at "step"
      refine ⟨sl64 (by simp), fun t ht => ?_⟩
      have s2 := Same.tr s1 (Same.new ht (.tup [.str ("plain" : Str), .str ("frame" : Str)]))
      have e2 : (upd H' t (.tup [.str ("plain" : Str), .str ("frame" : Str)])) t = some (.tup [.str ("plain" : Str), .str ("frame" : Str)]) := upd_same
      refine .inl (v_in (xs := strV [("plain" : Str), "frame"]) (.inr (SqT.of e2)) rfl (flat_strV _) ?_)
      generalize upd H' t (.tup [.str ("plain" : Str), .str ("frame" : Str)]) = H2 at *
      generalize inV (V.str (ss[j']'(by omega))) (strV [("plain" : Str), "frame"]) = b1
      walk_at "step"
      cases b1 with
      | false =>
        refine iteF ?_
        walk_at "step"
        exact ⟨s2, js, rfl, by omega, hjm⟩
      | true =>
        refine iteT ?_
        walk_at "step"
        refine .inr ⟨fr, _, rfl, .inl ⟨kvs, .inl (j' : Int), .inl (s2 _ _ hf), rfl, rfl⟩, ?_⟩
        walk_at "step"
        generalize (valV kvs (Sum.inl (j' : Int) : Key)).isSome = b2
        cases b2 with
        | true =>
          refine iteF ?_
          exact ⟨s2, js, rfl, by omega, hjm⟩
        | false =>
          refine iteT ?_
          walk_at "step"
          refine ⟨s2, js ++ [j'], by unfold intV; rw [List.map_append, List.map_append]; rfl, by rw [List.length_append, List.length_singleton]; omega, fun x hx => ?_⟩
          rcases List.mem_append.mp hx with h | h
          · exact hjm x h
          · rw [List.mem_singleton.mp h]; exact hjm'
    · rintro ys H' ⟨s1, js, rfl, hjl, hjm⟩ p hp
      have s2 := Same.tr s1 (Same.new hp (.lst (intV (js.map fun j : Nat => (j : Int)))))
      have e2 : (upd H' p (.lst (intV (js.map fun j : Nat => (j : Int))))) p = some (.lst (intV (js.map fun j : Nat => (j : Int)))) := upd_same
      have hp0 : H p = none := none_of s1 hp
      generalize upd H' p (.lst (intV (js.map fun j : Nat => (j : Int)))) = H2 at *
      walk_at "step"
      refine ⟨sl64 (by simp), fun e0 he0 => ?_⟩
      have s3 := Same.tr s2 (Same.new he0 (.lst []))
      have e3 : (upd H2 e0 (.lst [])) e0 = some (.lst []) := upd_same
      have e2 : (upd H2 e0 (.lst [])) p = some (.lst (intV (js.map fun j : Nat => (j : Int)))) := by rw [upd_ne (ne_free e2 he0)]; exact e2
      generalize upd H2 e0 (.lst []) = H3 at *
      refine v_eqE (ds := intD (js.map fun j : Nat => (j : Int))) (dv_list.mpr ⟨p, _, rfl, SqL.of e2, dvs_intD.mpr rfl⟩) e3 ?_
      have nxp : p ≠ xa := fun z => by rw [z, hx] at hp0; cases hp0
      have nsp : p ≠ sa := fun z => by rw [z, hs] at hp0; cases hp0
      walk_at "step"
      cases js with
      | nil =>
        refine iteT ?_
        walk_at "step"
        refine .inl (v_setL (s3 _ _ hs) (j := k) (by unfold ixN; rw [if_pos (by omega), if_pos (by rw [strV_len]; omega)]; simp) ?_)
        have es : (strV ss).set k (.str ("room" : Str)) = strV (ss.set k ("room" : Str)) := by unfold strV; rw [List.map_set]
        refine q _ _ (.mk (ss := ss.set k ("room" : Str)) (But.put (But.same b s3) n0 _) (by rw [upd_ne nxs]; exact s3 _ _ hx) (by omega) hu (by rw [upd_same, ← es]) (by rw [List.length_set]; exact hsl) (by rw [upd_ne (Ne.symm nsf)]; exact s3 _ _ hf) hk (by omega))
      | cons j0 js =>
        refine iteF ?_
        obtain ⟨ms, y, rfl⟩ : ∃ ms y, ns = ms ++ [y] := by
          rcases List.eq_nil_or_concat ns with h | ⟨a, c, h⟩
          · rw [h] at hl; simp at hl; omega
          · exact ⟨a, c, by rw [h, List.concat_eq_append]⟩
        rw [List.length_append, List.length_singleton] at hl hu
        have ei : intV (ms ++ [y]) = intV ms ++ [.int y] := by unfold intV; rw [List.map_append]; rfl
        walk_at "step"
        refine ⟨.inl ⟨rfl, _, SqL.of (s3 _ _ hx)⟩, ?_⟩
        walk_at "step"
        refine v_pop (xs := intV ms) (y := .int y) (by rw [s3 _ _ hx, ei]) ?_
        have b4 : But [xa] H0 (upd H3 xa (.lst (intV ms))) := But.own (But.same b s3) _
        have g1 : (upd H3 xa (.lst (intV ms))) xa = some (.lst (intV ms)) := upd_same
        have g2 : (upd H3 xa (.lst (intV ms))) p = some (.lst (intV ((j0 :: js).map fun j : Nat => (j : Int)))) := by rw [upd_ne nxp]; exact e2
        have g3 : (upd H3 xa (.lst (intV ms))) sa = some (.lst (strV ss)) := by rw [upd_ne (Ne.symm nxs)]; exact s3 _ _ hs
        have g4 : (upd H3 xa (.lst (intV ms))) fr = some (.dK kvs) := by rw [upd_ne (Ne.symm nxf)]; exact s3 _ _ hf
        generalize upd H3 xa (.lst (intV ms)) = H4 at *
        walk_at "step"
        refine v_lenQ (.inl (SqL.of g2)) ?_
        rw [intV_len, List.length_map]
        have hlp : (0 : Int) < ((j0 :: js).length : Nat) := by rw [List.length_cons]; omega
        refine v_mod hlp ?_
        have y0 := Int.emod_nonneg y (show (((j0 :: js).length : Nat) : Int) ≠ 0 by omega)
        have y1 := Int.emod_lt_of_pos y hlp
        generalize y % (((j0 :: js).length : Nat) : Int) = r at *
        have hr : r.toNat < (j0 :: js).length := by omega
        refine v_ixL (SqL.of g2) (v := .int (((j0 :: js)[r.toNat]'hr : Nat) : Int)) (ixI y0 (by unfold intV; rw [List.map_map, List.getElem?_map, List.getElem?_eq_getElem hr]; rfl)) ?_
        have hjl := hjm _ (List.getElem_mem hr)
        generalize (j0 :: js)[r.toNat]'hr = jj at *
        have hpl := put_le kvs (.inl (jj : Int)) (.int k)
        refine .inr ⟨fr, _, rfl, DPut.k (k := .inl (jj : Int)) g4 (by rw [sizeLine_eq]; omega), ?_⟩
        refine q _ _ (.mk (kvs := putK kvs (.inl (jj : Int)) (.int k)) (But.put b4 n1 _) (by rw [upd_ne nxf]; exact g1) (by omega) (by omega) (by rw [upd_ne nsf]; exact g3) hsl upd_same (fun z hz => ?_) (by omega))
        rcases mem_put hz with h | h
        · exact hk z h
        · exact ⟨jj, k, h, hjl, hkm⟩
  · rw [decide_eq_false e]
    refine iteF ?_
    walk_at "step"
    exact q _ _ (.mk b hx (by omega) hu hs hsl hf hk (by omega))
@[reducible] def T__law_sorts_0 (K : PySem.W.Frag) : TS :=
 (tDrop (tBM K "list" rAppend (tVar 2) (tCons (tOp (rIxA K) (tLst (tStrs [("plain" : Str), ("anew" : Str), ("bare" : Str), ("room" : Str), ("frame" : Str), ("plain" : Str), ("anew" : Str), ("plain" : Str)])) (tOp (rI (fun _ j => 0 < j) fun i j => .int (i % j)) (tBM0 K "list" rPop (tVar 0)) (tC (.int 8)))) tNil)))
@[reducible] def T__law_sorts_5 (K : PySem.W.Frag) : TS :=
 (tSeq (tFor (iRevRng (tCons (tVar 1) tNil)) (gName 4)
 (sorF K))
 (tRet (tTup (tCons (tVar 2) (tCons (tVar 3) tNil)))))
@[reducible] def T__law_sorts_6 (K : PySem.W.Frag) : TS :=
 (tSeq (tAsg tDNewK (gName 3))
 (tSeq (tFor (iRng1 (tCons (tVar 1) tNil)) (gName 4)
 (T__law_sorts_0 K))
 (T__law_sorts_5 K)))
def sp__law_sorts (K : PySem.W.Frag) : Sp := fun vs H Q _ => ∃ (xa : Addr) (m : Nat) (ns : List Int), vs = [.ref xa, .int m] ∧ m ≤ 12 ∧ H xa = some (.lst (intV ns)) ∧ 2 * m ≤ ns.length ∧ ns.length ≤ 1000 ∧ ∀ (t sa fr : Addr) (ss : List Str) (kvs : List (Key × V)) (ns' : List Int) (H' : Hp), But [xa] H H' → H' xa = some (.lst (intV ns')) → ns.length ≤ ns'.length + 2 * m → ns'.length ≤ 1000 → H' t = some (.tup [.ref sa, .ref fr]) → H sa = none → H fr = none → sa ≠ fr → H' sa = some (.lst (strV ss)) → ss.length = m → H' fr = some (.dK kvs) → FrK m kvs → kvs.length ≤ m → Q (.ref t) H'
theorem len__law_sorts (K : PySem.W.Frag) : ∀ vs H Q E, sp__law_sorts K vs H Q E → vs.length = ["_law_xs", "_law_count"].length := by rintro vs H Q E ⟨xa, m, ns, rfl, _⟩; rfl
def R__law_sorts (K : PySem.W.Frag) : TS :=
 (tSeq (tAsg (tLst tNil) (gName 2))
 (T__law_sorts_6 K))
theorem rd__law_sorts (h : sp__law_sorts K vs H Q E) : R__law_sorts K { nx := fun _ H' => Q .non H', rt := Q } (start ["_law_xs", "_law_count", "_law_sorts_here", "_law_frames", "_law_k", "_law_able"] vs) H := by
  obtain ⟨xa, m, ns, rfl, hm, hx, hL, hu, q⟩ := h
  show R__law_sorts K _ [some (.ref xa), some (.int m), none, none, none, none] H
  unfold R__law_sorts
  walk_at "step"
  refine ⟨sl64 (by simp), fun sa hsa => ?_⟩
  have s1 := Same.new hsa (.lst [])
  have e1 : (upd H sa (.lst [])) sa = some (.lst []) := upd_same
  generalize upd H sa (.lst []) = H1 at *
  walk_at "step"
  intro fr hfr
  have s2 := Same.new hfr (.dK [])
  have e2 : (upd H1 fr (.dK [])) fr = some (.dK []) := upd_same
  have nsf : sa ≠ fr := ne_free e1 hfr
  have hfr0 : H fr = none := none_of s1 hfr
  have e1 := s2 _ _ e1
  generalize upd H1 fr (.dK []) = H2 at *
  have s12 := Same.tr s1 s2
  have nxs : xa ≠ sa := fun z => by rw [z, hsa] at hx; cases hx
  have nxf : xa ≠ fr := fun z => by rw [z, hfr0] at hx; cases hx
  walk_at "step"
  refine rng1_for (by omega) (by omega) (So K H xa sa fr m ns.length) (.mk (fun c u e _ => s12 c u e) (s12 _ _ hx) (by omega) (ss := []) e1 rfl e2) ?_ ?_
  · rintro i σ H' hi ⟨b, hx', hl, hs, hsl, hf⟩
    rename_i a4 a5 ns' ss
    obtain ⟨ms, y, rfl⟩ : ∃ ms y, ns' = ms ++ [y] := by
      rcases List.eq_nil_or_concat ns' with h | ⟨a, c, h⟩
      · rw [h] at hl; simp at hl; omega
      · exact ⟨a, c, by rw [h, List.concat_eq_append]⟩
    rw [List.length_append, List.length_singleton] at hl
    walk_at "step"
    refine ⟨.inl ⟨rfl, _, SqL.of hs⟩, ?_⟩
    walk_at "step"
    refine ⟨sl64 (by rw [strV_len]; decide), fun c hc => ?_⟩
    have s3 := Same.new hc (.lst (strV [("plain" : Str), "anew", "bare", "room", "frame", "plain", "anew", "plain"]))
    have e3 : (upd H' c (.lst (strV [("plain" : Str), "anew", "bare", "room", "frame", "plain", "anew", "plain"]))) c = some (.lst (strV [("plain" : Str), "anew", "bare", "room", "frame", "plain", "anew", "plain"])) := upd_same
    have nxc : c ≠ xa := fun z => by rw [z, hx'] at hc; cases hc
    have nsc : c ≠ sa := fun z => by rw [z, hs] at hc; cases hc
    generalize upd H' c (.lst (strV [("plain" : Str), "anew", "bare", "room", "frame", "plain", "anew", "plain"])) = H3 at *
    walk_at "step"
    refine ⟨.inl ⟨rfl, _, SqL.of (s3 _ _ hx')⟩, ?_⟩
    walk_at "step"
    have ei : intV (ms ++ [y]) = intV ms ++ [.int y] := by unfold intV; rw [List.map_append]; rfl
    refine v_pop (xs := intV ms) (y := .int y) (by rw [s3 _ _ hx', ei]) ?_
    walk_at "step"
    have hy0 := Int.emod_nonneg y (show (8 : Int) ≠ 0 by decide)
    have hy1 := Int.emod_lt_of_pos y (show (0 : Int) < 8 by decide)
    have hj : (y % 8).toNat < [("plain" : Str), "anew", "bare", "room", "frame", "plain", "anew", "plain"].length := by show _ < 8; omega
    refine v_ixL (SqL.of (by rw [upd_ne nxc]; exact e3)) (v := .str ([("plain" : Str), "anew", "bare", "room", "frame", "plain", "anew", "plain"][(y % 8).toNat])) (ixI hy0 (by unfold strV; rw [List.getElem?_map, List.getElem?_eq_getElem hj]; rfl)) ?_
    generalize [("plain" : Str), "anew", "bare", "room", "frame", "plain", "anew", "plain"][(y % 8).toNat] = w
    walk_at "step"
    refine v_append (xs := strV ss) (by rw [upd_ne (Ne.symm nxs)]; exact s3 _ _ hs) (by rw [strV_len, sizeLine_eq]; omega) ?_
    walk_at "step"
    exact .mk (ns := ms) (ss := ss ++ [w]) (But.put (But.own (But.same b s3) _) hsa _) (by rw [upd_ne nxs]; exact upd_same) (by omega) (by rw [upd_same]; unfold strV; rw [List.map_append]; rfl) (by rw [List.length_append, List.length_singleton]; omega) (by rw [upd_ne (Ne.symm nsf), upd_ne (Ne.symm nxf)]; exact s3 _ _ hf)
  · rintro σ H' ⟨b, hx', hl, hs, hsl, hf⟩
    rename_i a4 a5 ns' ss
    rw [Int.toNat_natCast] at hl hsl
    walk_at "step"
    refine rev_for (by omega) (Sf K H xa sa fr m ns.length) (.mk b hx' (by omega) (by omega) hs hsl hf (fun y hy => by cases hy) (Nat.zero_le _)) (fun i σ H' hi p => ?_) ?_
    · walk_at "step"
      exact sor_F hm hi hL hsa hfr0 ⟨_, hx⟩ nsf p fun σ' H' p' => p'
    · rintro σ H' ⟨b, hx', hl, hu', hs, hsl, hf, hk, hkl⟩
      rename_i a4 a5 ns' ss kvs
      walk_at "step"
      refine ⟨sl64 (by simp), fun t ht => ?_⟩
      have s3 := Same.new ht (.tup [.ref sa, .ref fr])
      exact q t sa fr ss kvs ns' _ (But.same b s3) (s3 _ _ hx') (by omega) hu' upd_same hsa hfr0 nsf (s3 _ _ hs) hsl (s3 _ _ hf) hk hkl
end My
namespace My
open PySem L2
variable {K : PySem.W.Frag} {vs : List V} {H : Hp} {Q : VK} {E : XK}
def HoK (m : Nat) (kvs : List (Key × V)) : Prop := ∀ y ∈ kvs, ∃ (i : Int) (j : Nat), y = (Sum.inl i, V.int j) ∧ j < m
structure Bst (K : PySem.W.Frag) (H0 H : Hp) (na xa sa fr ho : Addr) (ks ss : List Str) (c : Nat) : Prop where
  keep : Same H0 H
  nx : H0 xa = none
  nn : xa ≠ na
  ns : xa ≠ sa
  nf : xa ≠ fr
  nh : xa ≠ ho
  hn : H na = some (.lst (strV ks))
  hs : H sa = some (.lst (strV ss))
  hf : ∃ kvs, Rd H fr (.dK kvs)
  hh : ∃ hvs, H ho = some (.dK hvs) ∧ HoK ks.length hvs
  hx : ∃ ns : List Int, H xa = some (.lst (intV ns)) ∧ c ≤ ns.length
  hl : ss.length = ks.length
  nd : ks.Nodup
  h9 : ∀ x ∈ ks, x.length ≤ 9
  h12 : ks.length ≤ 12
  h1 : 1 ≤ ks.length
theorem Bst.same {H0 H H' : Hp} {na xa sa fr ho : Addr} {ks ss : List Str} {c : Nat} (b : Bst K H0 H na xa sa fr ho ks ss c) (s : Same H H') : Bst K H0 H' na xa sa fr ho ks ss c :=
  { b with keep := Same.tr b.keep s, hn := s _ _ b.hn, hs := s _ _ b.hs, hf := (let ⟨kvs, h⟩ := b.hf; ⟨kvs, h.elim (fun h => .inl (s _ _ h)) fun ⟨o, h⟩ => .inr ⟨o, s _ _ h⟩⟩), hh := (let ⟨hvs, h, r⟩ := b.hh; ⟨hvs, s _ _ h, r⟩), hx := (let ⟨ns, h, r⟩ := b.hx; ⟨ns, s _ _ h, r⟩) }
theorem Bst.pop {H0 H : Hp} {na xa sa fr ho : Addr} {ks ss : List Str} {c : Nat} (b : Bst K H0 H na xa sa fr ho ks ss (c + 1)) {Q' : VK} (q : ∀ (y : Int) (H' : Hp), Bst K H0 H' na xa sa fr ho ks ss c → But [xa] H H' → Q' (.int y) H') : rPop (.ref xa) [] H Q' := by
  obtain ⟨ns, hx, hc⟩ := b.hx
  obtain ⟨ms, y, rfl⟩ : ∃ ms y, ns = ms ++ [y] := by
    rcases List.eq_nil_or_concat ns with h | ⟨a, d, h⟩
    · rw [h] at hc; simp at hc
    · exact ⟨a, d, by rw [h, List.concat_eq_append]⟩
  rw [List.length_append, List.length_singleton] at hc
  have ei : intV (ms ++ [y]) = intV ms ++ [.int y] := by unfold intV; rw [List.map_append]; rfl
  refine v_pop (xs := intV ms) (y := .int y) (by rw [hx, ei]) (q y _ ?_ fun c u e n => by rw [upd_ne (fun z => n (by simp [z]))]; exact e)
  exact { b with keep := Same.put b.keep b.nx _, hn := by rw [upd_ne (Ne.symm b.nn)]; exact b.hn, hs := by rw [upd_ne (Ne.symm b.ns)]; exact b.hs, hf := (let ⟨kvs, h⟩ := b.hf; ⟨kvs, by unfold Rd at h ⊢; rw [upd_ne (Ne.symm b.nf)]; exact h⟩), hh := (let ⟨hvs, h, r⟩ := b.hh; ⟨hvs, by rw [upd_ne (Ne.symm b.nh)]; exact h, r⟩), hx := ⟨ms, upd_same, by omega⟩ }
@[reducible] def T__law_book_4 (K : PySem.W.Frag) : TS :=
 (tRet (tCB (rTupleA K) (tCons (tOp (rAddA K) (tSl (rSlA K) (tVar 11) (tPart (tVar 14)) tNoPart) (tSl (rSlA K) (tVar 11) tNoPart (tPart (tVar 14)))) tNil)))
def bokE (K : PySem.W.Frag) : TS :=
 (tSeq (tAsg (tOp (rI (fun _ j => 0 < j) fun i j => .int (i % j)) (tBM0 K "list" rPop (tVar 3)) (tVar 2)) (gName 14))
 (T__law_book_4 K))
def bokT (K : PySem.W.Frag) : TS :=
 (tDrop (tBM K "list" rAppend (tVar 11) (tCons (tTup (tCons (tOp (rIxA K) (tVar 1) (tVar 12)) (tCons (tOp (rIxA K) (tVar 4) (tVar 12)) (tCons (tVar 7) (tCons (tVar 13) (tCons (tCall (sp__law_picked K) [] E0 (tCons (tVar 9) (tCons (tOp (rAddA K) (tOp rMulA (tBM0 K "list" rPop (tVar 3)) (tC (.int 3))) (tC (.int 1))) tNil))) tNil)))))) tNil)))
@[reducible] def T__law_book_1 (K : PySem.W.Frag) : TS :=
 (tSeq (tIfS (tTest (tOp (rInB K false) (tVar 12) (tVar 5)))
 (tAsg (tTup tNil) (gName 13)) tNext)
 (bokT K))
def bokS (K : PySem.W.Frag) : TS :=
 (tSeq (tAsg (tCall (sp__law_picked K) [] E0 (tCons (tVar 10) (tCons (tBM0 K "list" rPop (tVar 3)) tNil))) (gName 13))
 (T__law_book_1 K))
@[reducible] def T__law_book_3 (K : PySem.W.Frag) : TS :=
 (tSeq (tIfS (tTest (tOp (rInB K false) (tVar 12) (tVar 6)))
 (tAsg (tOp (rIxA K) (tVar 1) (tDGet (tVar 6) (tVar 12))) (gName 7)) tNext)
 (bokS K))
def bokR (K : PySem.W.Frag) : TS :=
 (tSeq (tAsg (tC (.str ("" : Str))) (gName 7))
 (T__law_book_3 K))
@[reducible] def T__law_book_6 (K : PySem.W.Frag) : TS :=
 (tSeq (tFor (iRng1 (tCons (tVar 2) tNil)) (gName 12)
 (bokR K))
 (bokE K))
@[reducible] def T__law_book_7 (K : PySem.W.Frag) : TS :=
 (tSeq (tAsg (tComp [some 1, some 5, some 4, none] (iRng1 (tCons (tVar 2) tNil)) (gName 3) (tAnd (tTest (tOp (rInB K false) (tOp (rIxA K) (tVar 2) (tVar 3)) (tTup (tCons (tC (.str ("plain" : Str))) (tCons (tC (.str ("anew" : Str))) tNil))))) (tTest (tOp (rInB K true) (tVar 3) (tVar 1)))) (tOp (rIxA K) (tVar 0) (tVar 3))) (gName 10))
 (tSeq (tAsg (tLst tNil) (gName 11))
 (T__law_book_6 K)))
def bokC (K : PySem.W.Frag) : TS :=
 (tSeq (tAsg (tComp [some 1, some 4, none] (iRng1 (tCons (tVar 2) tNil)) (gName 2) (tTest (tOp (rInB K false) (tOp (rIxA K) (tVar 1) (tVar 2)) (tTup (tCons (tC (.str ("plain" : Str))) (tCons (tC (.str ("anew" : Str))) tNil))))) (tOp (rIxA K) (tVar 0) (tVar 2))) (gName 9))
 (T__law_book_7 K))
theorem cutV_from {xs : List V} (n : Nat) (h : n ≤ xs.length) : cutV xs (some (n : Int)) none = xs.drop n := by
  unfold cutV
  rw [HT.sIx_nat]
  show (xs.drop (min n xs.length)).take (xs.length - min n xs.length) = _
  rw [Nat.min_eq_left h, List.take_of_length_le (by rw [List.length_drop]; exact Nat.le_refl _)]
theorem cutV_upto {xs : List V} (n : Nat) (h : n ≤ xs.length) : cutV xs none (some (n : Int)) = xs.take n := by
  unfold cutV
  rw [HT.sIx_nat]
  show (xs.drop 0).take (min n xs.length - 0) = _
  rw [Nat.min_eq_left h, List.drop_zero, Nat.sub_zero]
theorem Dvs.drop' {ds : List PyData} {vs : List V} (h : Dvs K H ds vs) (n : Nat) : Dvs K H (ds.drop n) (vs.drop n) :=
  dvs_iff_get (by rw [List.length_drop, List.length_drop, h.length]) fun i d v hd hv => by
    rw [List.getElem?_drop] at hd hv
    obtain ⟨w, hw, dw⟩ := h.get hd
    rw [hv] at hw; cases hw; exact dw
theorem Dvs.take' {ds : List PyData} {vs : List V} (h : Dvs K H ds vs) (n : Nat) : Dvs K H (ds.take n) (vs.take n) :=
  dvs_iff_get (by rw [List.length_take, List.length_take, h.length]) fun i d v hd hv => by
    rw [List.getElem?_take] at hd hv
    split at hd
    · rename_i hi
      rw [if_pos hi] at hv
      obtain ⟨w, hw, dw⟩ := h.get hd
      rw [hv] at hw; cases hw; exact dw
    · cases hd
theorem bok_E {D : Ends} {H0 : Hp} {a na xa sa fr ho rw_ : Addr} {ks ss : List Str} {rvs : List V} {rs : List Row} {a7 a8 a9 a10 a12 a13 a14 : Option V} (b : Bst K H0 H na xa sa fr ho ks ss 1) (hr : H rw_ = some (.lst rvs)) (nr : xa ≠ rw_) (hd : Dvs K H (rs.map Row.da) rvs) (hk : rs.map Row.name = ks)
    (q : ∀ (bv : V) (rs : List Row) (H' : Hp), Same H0 H' → Rws K H' bv rs → (rs.map Row.name).Nodup → rs.length ≤ 12 → 1 ≤ rs.length → (∀ r ∈ rs, r.name.length ≤ 9) → D.rt bv H') :
    bokE K D [some (.ref a), some (.ref na), some (.int (ks.length : Int)), some (.ref xa), some (.ref sa), some (.ref fr), some (.ref ho), a7, a8, a9, a10, some (.ref rw_), a12, a13, a14] H := by
  have h1 := b.h1
  have hrl : rvs.length = ks.length := by rw [hd.length, List.length_map, ← hk, List.length_map]
  obtain ⟨ns, hx, _⟩ := b.hx
  unfold bokE
  walk_at "step"
  refine ⟨.inl ⟨rfl, _, SqL.of hx⟩, ?_⟩
  walk_at "step"
  refine b.pop fun y H1 b1 k1 => ?_
  have hlp : (0 : Int) < (ks.length : Int) := by omega
  walk_at "step"
  have y0 := Int.emod_nonneg y (show (ks.length : Int) ≠ 0 by omega)
  have y1 := Int.emod_lt_of_pos y hlp
  obtain ⟨t, ht⟩ : ∃ t : Nat, y % (ks.length : Int) = (t : Int) := ⟨(y % (ks.length : Int)).toNat, by omega⟩
  rw [ht]
  have hr1 : H1 rw_ = some (.lst rvs) := k1 _ _ hr (by simpa using Ne.symm nr)
  have hd1 : Dvs K H1 (rs.map Row.da) rvs := Dvs.tupK ⟨fun c zs e => k1 _ _ e (fun z => by rw [List.mem_singleton.mp z, hx] at e; cases e), fun c o zs e => k1 _ _ e (fun z => by rw [List.mem_singleton.mp z, hx] at e; cases e)⟩ _ _ (fixs_map Row.fix _) hd
  refine v_slL (SqL.of hr1) fun p1 hp1 => ?_
  rw [cutV_from _ (by omega)]
  have s2 := Same.new hp1 (.lst (rvs.drop t))
  have e2 : (upd H1 p1 (.lst (rvs.drop t))) p1 = some (.lst (rvs.drop t)) := upd_same
  generalize upd H1 p1 (.lst (rvs.drop t)) = H2 at *
  walk_at "step"
  refine v_slL (SqL.of (s2 _ _ hr1)) fun p2 hp2 => ?_
  rw [cutV_upto _ (by omega)]
  have s3 := Same.new hp2 (.lst (rvs.take t))
  have e3 : (upd H2 p2 (.lst (rvs.take t))) p2 = some (.lst (rvs.take t)) := upd_same
  have e2 := s3 _ _ e2
  generalize upd H2 p2 (.lst (rvs.take t)) = H3 at *
  walk_at "step"
  refine v_cat e2 e3 (by rw [List.length_drop, List.length_take, hrl, sizeLine_eq]; have := b.h12; omega) fun p3 hp3 => ?_
  walk_at "step"
  refine ⟨p3, _, rfl, .inl ⟨SqL.of upd_same, fun p4 hp4 => ?_⟩⟩
  have s4 := Same.tr s2 (Same.tr s3 (Same.tr (Same.new hp3 (.lst (rvs.drop t ++ rvs.take t))) (Same.new hp4 (.tup (rvs.drop t ++ rvs.take t)))))
  have hperm : (rs.drop t ++ rs.take t).Perm rs := by
    have := List.perm_append_comm (l₁ := rs.drop t) (l₂ := rs.take t)
    rwa [List.take_append_drop] at this
  have hkl : rs.length = ks.length := by rw [← hk, List.length_map]
  refine q (.ref p4) (rs.drop t ++ rs.take t) _ (Same.tr b1.keep s4) ⟨p4, _, rfl, .inr (SqT.of upd_same), ?_⟩ ?_ (by rw [hperm.length_eq, hkl]; exact b.h12) (by rw [hperm.length_eq, hkl]; exact h1) (fun r hr => ?_)
  · rw [List.map_append, List.map_drop, List.map_take]
    exact Dvs.same s4 _ _ (Dvs.append (Dvs.drop' hd1 t) (Dvs.take' hd1 t))
  · rw [(hperm.map Row.name).nodup_iff, hk]; exact b.nd
  · refine b.h9 _ ?_
    rw [← hk]
    exact List.mem_map.mpr ⟨r, hperm.mem_iff.mp hr, rfl⟩
structure Rwl (K : PySem.W.Frag) (H0 H : Hp) (xa rw_ ab fe : Addr) (ks : List Str) (k : Nat) : Prop where
  nr : xa ≠ rw_
  n0 : H0 rw_ = none
  na : xa ≠ ab
  nf : xa ≠ fe
  ra : rw_ ≠ ab
  rf : rw_ ≠ fe
  hr : ∃ rvs rs, H rw_ = some (.lst rvs) ∧ Dvs K H (List.map Row.da rs) rvs ∧ rs.map Row.name = ks.take k
  ha : ∃ zs : List Str, H ab = some (.lst (strV zs)) ∧ zs.length ≤ 12
  hf : ∃ zs : List Str, H fe = some (.lst (strV zs)) ∧ zs.length ≤ 12
theorem Rwl.same {H0 H H' : Hp} {xa rw_ ab fe : Addr} {ks : List Str} {k : Nat} (b : Rwl K H0 H xa rw_ ab fe ks k) (s : Same H H') : Rwl K H0 H' xa rw_ ab fe ks k :=
  { b with hr := (let ⟨rvs, rs, h, d, e⟩ := b.hr; ⟨rvs, rs, s _ _ h, Dvs.same s _ _ d, e⟩), ha := (let ⟨z, h, l⟩ := b.ha; ⟨z, s _ _ h, l⟩), hf := (let ⟨z, h, l⟩ := b.hf; ⟨z, s _ _ h, l⟩) }
theorem tupK_but {H H' : Hp} {p : Addr} {xs : List V} (b : But [p] H H') (h : H p = some (.lst xs)) : TupK H H' :=
  ⟨fun c zs e => b _ _ e (fun z => by rw [List.mem_singleton.mp z, h] at e; cases e), fun c o zs e => b _ _ e (fun z => by rw [List.mem_singleton.mp z, h] at e; cases e)⟩
theorem Rwl.but {H0 H H' : Hp} {xa rw_ ab fe : Addr} {ks : List Str} {k : Nat} {xs : List V} (b : Rwl K H0 H xa rw_ ab fe ks k) (s : But [xa] H H') (hx : H xa = some (.lst xs)) : Rwl K H0 H' xa rw_ ab fe ks k :=
  { b with hr := (let ⟨rvs, rs, h, d, e⟩ := b.hr; ⟨rvs, rs, s _ _ h (by simpa using Ne.symm b.nr), Dvs.tupK (tupK_but s hx) _ _ (fixs_map Row.fix _) d, e⟩), ha := (let ⟨z, h, l⟩ := b.ha; ⟨z, s _ _ h (by simpa using Ne.symm b.na), l⟩), hf := (let ⟨z, h, l⟩ := b.hf; ⟨z, s _ _ h (by simpa using Ne.symm b.nf), l⟩) }
theorem bok_T {D : Ends} {H0 : Hp} {a na xa sa fr ho rw_ ab fe sh : Addr} {ks ss hs zs : List Str} {h : Str} {k c : Nat} {a8 a14 : Option V} (b : Bst K H0 H na xa sa fr ho ks ss (c + 1)) (r : Rwl K H0 H xa rw_ ab fe ks k) (hk : k < ks.length) (nsr : sa ≠ rw_) (nnr : na ≠ rw_) (nfr : fr ≠ rw_) (nhr : ho ≠ rw_) (hsh : SqT K H sh (strV zs))
    (q : ∀ (σ' : St) (H' : Hp), Bst K H0 H' na xa sa fr ho ks ss c → Rwl K H0 H' xa rw_ ab fe ks (k + 1) → σ' = [some (.ref a), some (.ref na), some (.int (ks.length : Int)), some (.ref xa), some (.ref sa), some (.ref fr), some (.ref ho), some (.str h), a8, some (.ref ab), some (.ref fe), some (.ref rw_), some (.int k), some (.ref sh), a14] → D.nx σ' H') :
    bokT K D [some (.ref a), some (.ref na), some (.int (ks.length : Int)), some (.ref xa), some (.ref sa), some (.ref fr), some (.ref ho), some (.str h), a8, some (.ref ab), some (.ref fe), some (.ref rw_), some (.int k), some (.ref sh), a14] H := by
  have hsl := b.hl
  obtain ⟨ns, hx, _⟩ := b.hx
  obtain ⟨rvs0, rs0, hr0, _, _⟩ := r.hr
  unfold bokT
  walk_at "step"
  refine ⟨.inl ⟨rfl, _, SqL.of hr0⟩, ?_⟩
  walk_at "step"
  refine v_ixL (SqL.of b.hn) (v := .str (ks[k]'hk)) (atI_nat (by unfold strV; rw [List.getElem?_map, List.getElem?_eq_getElem hk]; rfl)) ?_
  walk_at "step"
  refine v_ixL (SqL.of b.hs) (v := .str (ss[k]'(by omega))) (atI_nat (by unfold strV; rw [List.getElem?_map, List.getElem?_eq_getElem (by omega)]; rfl)) ?_
  walk_at "step"
  refine ⟨.inl ⟨rfl, _, SqL.of hx⟩, ?_⟩
  refine b.pop fun y H1 b1 k1 => ?_
  have r1 := r.but k1 hx
  have hsh1 : SqT K H1 sh (strV zs) := (tupK_but k1 hx).sqT hsh
  walk_at "step"
  refine v_mulI (.inr ⟨by decide, by decide⟩) ?_
  walk_at "step"
  obtain ⟨az, ha, hal⟩ := r1.ha
  refine ⟨ab, az, _, rfl, ha, hal, fun p pz H2 s2 hp => ?_⟩
  have b2 := b1.same s2
  have r2 := r1.same s2
  have hsh2 := s2.sqT hsh1
  walk_at "step"
  refine ⟨sl64 (by simp), fun t ht => ?_⟩
  have s3 := Same.new ht (.tup [.str (ks[k]'hk), .str (ss[k]'(by omega)), .str h, .ref sh, .ref p])
  have e3 : (upd H2 t (.tup [.str (ks[k]'hk), .str (ss[k]'(by omega)), .str h, .ref sh, .ref p])) t = some (.tup [.str (ks[k]'hk), .str (ss[k]'(by omega)), .str h, .ref sh, .ref p]) := upd_same
  generalize upd H2 t (.tup [.str (ks[k]'hk), .str (ss[k]'(by omega)), .str h, .ref sh, .ref p]) = H3 at *
  have b3 := b2.same s3
  have r3 := r2.same s3
  have hp3 := s3 _ _ hp
  have hsh3 := s3.sqT hsh2
  have hdv : Dv K H3 (Row.da ⟨ks[k]'hk, ss[k]'(by omega), h, zs, pz⟩) (.ref t) := by
    unfold Row.da
    exact dv_tuple.mpr ⟨t, _, rfl, SqT.of e3, dvs_cons (dv_str.mpr rfl) (dvs_cons (dv_str.mpr rfl) (dvs_cons (dv_str.mpr rfl) (dvs_cons (dv_tuple.mpr ⟨sh, _, rfl, hsh3, dvs_sDa.mpr rfl⟩) (dvs_cons (dv_tuple.mpr ⟨p, _, rfl, SqT.of hp3, dvs_sDa.mpr rfl⟩) dvs_nil))))⟩
  walk_at "step"
  obtain ⟨rvs, rs, hr, hd, hn⟩ := r3.hr
  have hrl : rvs.length = k := by
    have h1 := hd.length
    have h2 := congrArg List.length hn
    rw [List.length_map] at h1 h2
    rw [List.length_take] at h2
    omega
  refine v_append hr (by rw [hrl, sizeLine_eq]; have := b.h12; omega) ?_
  have tk := tupK_lst (ys := rvs ++ [.ref t]) hr
  walk_at "step"
  refine q _ _ ?_ ?_ rfl
  · exact { b3 with keep := Same.put b3.keep r.n0 _, hn := by rw [upd_ne nnr]; exact b3.hn, hs := by rw [upd_ne nsr]; exact b3.hs, hf := (let ⟨kvs, g⟩ := b3.hf; ⟨kvs, by unfold Rd at g ⊢; rw [upd_ne nfr]; exact g⟩), hh := (let ⟨hvs, g, e⟩ := b3.hh; ⟨hvs, by rw [upd_ne nhr]; exact g, e⟩), hx := (let ⟨ns, g, e⟩ := b3.hx; ⟨ns, by rw [upd_ne r.nr]; exact g, e⟩) }
  · refine { r3 with hr := ⟨_, rs ++ [⟨ks[k]'hk, ss[k]'(by omega), h, zs, pz⟩], upd_same, ?_, ?_⟩, ha := (let ⟨z, g, l⟩ := r3.ha; ⟨z, by rw [upd_ne (Ne.symm r.ra)]; exact g, l⟩), hf := (let ⟨z, g, l⟩ := r3.hf; ⟨z, by rw [upd_ne (Ne.symm r.rf)]; exact g, l⟩) }
    · rw [List.map_append]
      exact Dvs.append (Dvs.tupK tk _ _ (fixs_map Row.fix _) hd) (Dvs.one (Dv.tupK tk _ _ (Row.fix _) hdv))
    · rw [List.map_append, hn, List.take_add_one, List.getElem?_eq_getElem hk]; rfl
end My
namespace My
open PySem L2
variable {K : PySem.W.Frag} {vs : List V} {H : Hp} {Q : VK} {E : XK}
theorem bok_S {D : Ends} {H0 : Hp} {a na xa sa fr ho rw_ ab fe : Addr} {ks ss : List Str} {h : Str} {k c : Nat} {a8 a13 a14 : Option V} (b : Bst K H0 H na xa sa fr ho ks ss (c + 2)) (r : Rwl K H0 H xa rw_ ab fe ks k) (hk : k < ks.length) (nsr : sa ≠ rw_) (nnr : na ≠ rw_) (nfr : fr ≠ rw_) (nhr : ho ≠ rw_)
    (q : ∀ (σ' : St) (H' : Hp) (sh : V), Bst K H0 H' na xa sa fr ho ks ss c → Rwl K H0 H' xa rw_ ab fe ks (k + 1) → σ' = [some (.ref a), some (.ref na), some (.int (ks.length : Int)), some (.ref xa), some (.ref sa), some (.ref fr), some (.ref ho), some (.str h), a8, some (.ref ab), some (.ref fe), some (.ref rw_), some (.int k), some sh, a14] → D.nx σ' H') :
    bokS K D [some (.ref a), some (.ref na), some (.int (ks.length : Int)), some (.ref xa), some (.ref sa), some (.ref fr), some (.ref ho), some (.str h), a8, some (.ref ab), some (.ref fe), some (.ref rw_), some (.int k), a13, a14] H := by
  obtain ⟨ns, hx, _⟩ := b.hx
  unfold bokS
  walk_at "step"
  refine ⟨.inl ⟨rfl, _, SqL.of hx⟩, ?_⟩
  refine b.pop fun y H1 b1 k1 => ?_
  have r1 := r.but k1 hx
  walk_at "step"
  obtain ⟨fz, hf, hfl⟩ := r1.hf
  refine ⟨fe, fz, _, rfl, hf, hfl, fun p pz H2 s2 hp => ?_⟩
  have b2 := b1.same s2
  have r2 := r1.same s2
  obtain ⟨kvs, hfr⟩ := b2.hf
  walk_at "step"
  refine .inr ⟨fr, _, rfl, .inl ⟨kvs, .inl (k : Int), hfr, rfl, rfl⟩, ?_⟩
  generalize (valV kvs (Sum.inl (k : Int) : Key)).isSome = bb
  walk_at "step"
  cases bb with
  | true =>
    refine iteT ?_
    walk_at "step"
    refine ⟨sl64 (by simp), fun t ht => ?_⟩
    have s3 := Same.new ht (.tup [])
    exact bok_T (zs := []) (hs := []) (b2.same s3) (r2.same s3) hk nsr nnr nfr nhr (SqT.of upd_same) fun σ' H' b r e => q σ' H' _ b r e
  | false =>
    refine iteF ?_
    exact bok_T (zs := pz) (hs := []) b2 r2 hk nsr nnr nfr nhr (SqT.of hp) fun σ' H' b r e => q σ' H' _ b r e
theorem valV_mem {kvs : List (Key × V)} {k : Key} {v : V} (h : valV kvs k = some v) : (k, v) ∈ kvs := by
  unfold valV at h
  obtain ⟨x, hx, rfl⟩ := Option.map_eq_some_iff.mp h
  have h1 := List.mem_of_find?_eq_some hx
  have h2 : x.1 = k := by have := List.find?_some hx; exact of_decide_eq_true this
  rw [← h2]
  exact h1
theorem bok_R {D : Ends} {H0 : Hp} {a na xa sa fr ho rw_ ab fe : Addr} {ks ss : List Str} {k c : Nat} {a7 a8 a13 a14 : Option V} (b : Bst K H0 H na xa sa fr ho ks ss (c + 2)) (r : Rwl K H0 H xa rw_ ab fe ks k) (hk : k < ks.length) (nsr : sa ≠ rw_) (nnr : na ≠ rw_) (nfr : fr ≠ rw_) (nhr : ho ≠ rw_)
    (q : ∀ (σ' : St) (H' : Hp) (sh h : V), Bst K H0 H' na xa sa fr ho ks ss c → Rwl K H0 H' xa rw_ ab fe ks (k + 1) → σ' = [some (.ref a), some (.ref na), some (.int (ks.length : Int)), some (.ref xa), some (.ref sa), some (.ref fr), some (.ref ho), some h, a8, some (.ref ab), some (.ref fe), some (.ref rw_), some (.int k), some sh, a14] → D.nx σ' H') :
    bokR K D [some (.ref a), some (.ref na), some (.int (ks.length : Int)), some (.ref xa), some (.ref sa), some (.ref fr), some (.ref ho), a7, a8, some (.ref ab), some (.ref fe), some (.ref rw_), some (.int k), a13, a14] H := by
  obtain ⟨hvs, hh, hH⟩ := b.hh
  unfold bokR
  walk_at "step"
  refine .inr ⟨ho, _, rfl, .inl ⟨hvs, .inl (k : Int), .inl hh, rfl, rfl⟩, ?_⟩
  cases hv : valV hvs (Sum.inl (k : Int) : Key) with
  | none =>
    walk_at "step"
    refine iteF ?_
    exact bok_S b r hk nsr nnr nfr nhr fun σ' H' sh b r e => q σ' H' sh _ b r e
  | some w =>
    obtain ⟨i, j, e, hj⟩ := hH _ (valV_mem hv)
    cases e
    walk_at "step"
    refine iteT ?_
    walk_at "step"
    refine ⟨ho, .int j, rfl, .inl ⟨hvs, .inl (k : Int), .inl hh, rfl, hv.symm⟩, ?_⟩
    refine v_ixL (SqL.of b.hn) (v := .str (ks[j]'hj)) (atI_nat (by unfold strV; rw [List.getElem?_map, List.getElem?_eq_getElem hj]; rfl)) ?_
    walk_at "step"
    exact bok_S b r hk nsr nnr nfr nhr fun σ' H' sh b r e => q σ' H' sh _ b r e
inductive Bkl (K : PySem.W.Frag) (H0 : Hp) (a na xa sa fr ho rw_ ab fe : Addr) (ks ss : List Str) (i : Nat) : St → Hp → Prop
  | mk {H' : Hp} {a7 a8 a12 a13 a14 : Option V} (b : Bst K H0 H' na xa sa fr ho ks ss (2 * (ks.length - i) + 1)) (r : Rwl K H0 H' xa rw_ ab fe ks i) :
      Bkl K H0 a na xa sa fr ho rw_ ab fe ks ss i [some (.ref a), some (.ref na), some (.int (ks.length : Int)), some (.ref xa), some (.ref sa), some (.ref fr), some (.ref ho), a7, a8, some (.ref ab), some (.ref fe), some (.ref rw_), a12, a13, a14] H'
theorem bok_C {D : Ends} {H0 : Hp} {a na xa sa fr ho : Addr} {ks ss : List Str} {a7 a8 : Option V} (b : Bst K H0 H na xa sa fr ho ks ss (2 * ks.length + 1))
    (q : ∀ (bv : V) (rs : List Row) (H' : Hp), Same H0 H' → Rws K H' bv rs → (rs.map Row.name).Nodup → rs.length ≤ 12 → 1 ≤ rs.length → (∀ r ∈ rs, r.name.length ≤ 9) → D.rt bv H') :
    bokC K D [some (.ref a), some (.ref na), some (.int (ks.length : Int)), some (.ref xa), some (.ref sa), some (.ref fr), some (.ref ho), a7, a8, none, none, none, none, none, none] H := by
  have h12 := b.h12
  have hsl := b.hl
  unfold bokC
  walk_at "step"
  refine rng1_comp (by omega) (by omega) (fun i ys H' => Same H H' ∧ ∃ zs : List Str, ys = strV zs ∧ zs.length ≤ i) ⟨fun _ _ e => e, [], rfl, Nat.le_refl _⟩ ?_ ?_ ?_
  · rintro i ys H' hi ⟨_, zs, rfl, hl⟩
    rw [strV_len]; exact sl64 (by omega)
  · rintro i ys H' hi ⟨s1, zs, rfl, hl⟩
    walk_at "step"
    refine v_ixL (SqL.of (s1 _ _ b.hs)) (v := .str (ss[i]'(by omega))) (atI_nat (by unfold strV; rw [List.getElem?_map, List.getElem?_eq_getElem (by omega)]; rfl)) ?_
    walk_at "step"
    refine ⟨sl64 (by simp), fun t ht => ?_⟩
    have s2 := Same.tr s1 (Same.new ht (.tup [.str ("plain" : Str), .str ("anew" : Str)]))
    have e2 : (upd H' t (.tup [.str ("plain" : Str), .str ("anew" : Str)])) t = some (.tup [.str ("plain" : Str), .str ("anew" : Str)]) := upd_same
    refine .inl (v_in (xs := strV [("plain" : Str), "anew"]) (.inr (SqT.of e2)) rfl (flat_strV _) ?_)
    generalize upd H' t (.tup [.str ("plain" : Str), .str ("anew" : Str)]) = H2 at *
    generalize inV (V.str (ss[i]'(by omega))) (strV [("plain" : Str), "anew"]) = b1
    walk_at "step"
    cases b1 with
    | false => refine iteF ?_; exact ⟨s2, zs, rfl, by omega⟩
    | true =>
      refine iteT ?_
      walk_at "step"
      refine v_ixL (SqL.of (s2 _ _ b.hn)) (v := .str (ks[i]'(by omega))) (atI_nat (by unfold strV; rw [List.getElem?_map, List.getElem?_eq_getElem (by omega)]; rfl)) ?_
      exact ⟨s2, zs ++ [ks[i]'(by omega)], by unfold strV; rw [List.map_append]; rfl, by rw [List.length_append, List.length_singleton]; omega⟩
  rintro ys H1 ⟨s1, az, rfl, hal⟩ ab hab
  have b2 := b.same (Same.tr s1 (Same.new hab (.lst (strV az))))
  have ea : (upd H1 ab (.lst (strV az))) ab = some (.lst (strV az)) := upd_same
  have nxa : xa ≠ ab := fun z => by obtain ⟨ns, hx, _⟩ := b.hx; rw [← z, s1 _ _ hx] at hab; cases hab
  generalize upd H1 ab (.lst (strV az)) = H2 at *
  obtain ⟨kvs, hfr⟩ := b2.hf
  walk_at "step"
  refine rng1_comp (by omega) (by omega) (fun i ys H' => Same H2 H' ∧ ∃ zs : List Str, ys = strV zs ∧ zs.length ≤ i) ⟨fun _ _ e => e, [], rfl, Nat.le_refl _⟩ ?_ ?_ ?_
  · rintro i ys H' hi ⟨_, zs, rfl, hl⟩
    rw [strV_len]; exact sl64 (by omega)
  · rintro i ys H' hi ⟨s1, zs, rfl, hl⟩
    walk_at "step"
    refine v_ixL (SqL.of (s1 _ _ b2.hs)) (v := .str (ss[i]'(by omega))) (atI_nat (by unfold strV; rw [List.getElem?_map, List.getElem?_eq_getElem (by omega)]; rfl)) ?_
    walk_at "step"
    refine ⟨sl64 (by simp), fun t ht => ?_⟩
    have s2 := Same.tr s1 (Same.new ht (.tup [.str ("plain" : Str), .str ("anew" : Str)]))
    have e2 : (upd H' t (.tup [.str ("plain" : Str), .str ("anew" : Str)])) t = some (.tup [.str ("plain" : Str), .str ("anew" : Str)]) := upd_same
    refine .inl (v_in (xs := strV [("plain" : Str), "anew"]) (.inr (SqT.of e2)) rfl (flat_strV _) ?_)
    generalize upd H' t (.tup [.str ("plain" : Str), .str ("anew" : Str)]) = H3 at *
    generalize inV (V.str (ss[i]'(by omega))) (strV [("plain" : Str), "anew"]) = b1
    walk_at "step"
    cases b1 with
    | false => refine iteF ?_; exact ⟨s2, zs, rfl, by omega⟩
    | true =>
      refine iteT ?_
      walk_at "step"
      refine .inr ⟨fr, _, rfl, .inl ⟨kvs, .inl (i : Int), hfr.elim (fun h => .inl (s2 _ _ h)) (fun ⟨o, h⟩ => .inr ⟨o, s2 _ _ h⟩), rfl, rfl⟩, ?_⟩
      generalize (valV kvs (Sum.inl (i : Int) : Key)).isSome = b3
      walk_at "step"
      cases b3 with
      | true => refine iteF ?_; exact ⟨s2, zs, rfl, by omega⟩
      | false =>
        refine iteT ?_
        walk_at "step"
        refine v_ixL (SqL.of (s2 _ _ b2.hn)) (v := .str (ks[i]'(by omega))) (atI_nat (by unfold strV; rw [List.getElem?_map, List.getElem?_eq_getElem (by omega)]; rfl)) ?_
        exact ⟨s2, zs ++ [ks[i]'(by omega)], by unfold strV; rw [List.map_append]; rfl, by rw [List.length_append, List.length_singleton]; omega⟩
  rintro ys H3 ⟨s3, fz, rfl, hfl⟩ fe hfe
  have s4 := Same.tr s3 (Same.new hfe (.lst (strV fz)))
  have b4 := b2.same s4
  have ea := s4 _ _ ea
  have ef : (upd H3 fe (.lst (strV fz))) fe = some (.lst (strV fz)) := upd_same
  have nxf : xa ≠ fe := fun z => by obtain ⟨ns, hx, _⟩ := b2.hx; rw [← z, s3 _ _ hx] at hfe; cases hfe
  generalize upd H3 fe (.lst (strV fz)) = H4 at *
  walk_at "step"
  refine ⟨sl64 (by simp), fun rw_ hrw => ?_⟩
  have s5 := Same.new hrw (.lst [])
  have b5 := b4.same s5
  have er : (upd H4 rw_ (.lst [])) rw_ = some (.lst []) := upd_same
  have ne : ∀ {p : Addr} {o : HO}, H4 p = some o → p ≠ rw_ := fun h z => by rw [z, hrw] at h; cases h
  have nxr : xa ≠ rw_ := by obtain ⟨ns, hx, _⟩ := b4.hx; exact ne hx
  have nsr := ne b4.hs
  have nnr := ne b4.hn
  have nfr : fr ≠ rw_ := by obtain ⟨kvs, h⟩ := b4.hf; exact h.elim ne fun ⟨o, h⟩ => ne h
  have nhr : ho ≠ rw_ := by obtain ⟨hvs, h, _⟩ := b4.hh; exact ne h
  have n0 : H0 rw_ = none := none_of b4.keep hrw
  have nar := ne ea
  have nfer := ne ef
  have ea := s5 _ _ ea
  have ef := s5 _ _ ef
  generalize upd H4 rw_ (.lst []) = H5 at *
  walk_at "step"
  refine rng1_for (by omega) (by omega) (Bkl K H0 a na xa sa fr ho rw_ ab fe ks ss) (.mk b5 ⟨nxr, n0, nxa, nxf, Ne.symm nar, Ne.symm nfer, ⟨[], [], er, dvs_nil, by simp⟩, ⟨az, ea, by omega⟩, ⟨fz, ef, by omega⟩⟩) ?_ ?_
  · rintro i σ H' hi ⟨b, r⟩
    rename_i a7 a8 a12 a13 a14
    walk_at "step"
    obtain ⟨c, hc⟩ : ∃ c, 2 * (ks.length - i) + 1 = c + 2 := ⟨2 * (ks.length - i) - 1, by omega⟩
    rw [hc] at b
    refine bok_R b r (by omega) nsr nnr nfr nhr fun σ' H' sh h b r e => ?_
    rw [e]
    have hc2 : c = 2 * (ks.length - (i + 1)) + 1 := by omega
    rw [hc2] at b
    exact .mk b r
  · rintro σ H' ⟨b, r⟩
    rename_i a7 a8 a12 a13 a14
    rw [Int.toNat_natCast] at b r
    obtain ⟨rvs, rs, hr, hd, hn⟩ := r.hr
    rw [List.take_length] at hn
    exact bok_E (by simpa using b) hr r.nr hd hn q
end My
namespace My
open PySem L2
variable {K : PySem.W.Frag} {vs : List V} {H : Hp} {Q : VK} {E : XK}
inductive Hol (K : PySem.W.Frag) (H0 : Hp) (a na xa sa fr ho : Addr) (ks : List Str) (kvs : List (Key × V)) (ob : Obj) (i : Nat) : St → Hp → Prop
  | mk {H' : Hp} {a7 a8 : Option V} {hvs : List (Key × V)} (s : ∀ c u, H0 c = some u → c ≠ fr → c ≠ ho → H' c = some u) (hf : H' fr = some (.frz ob (.dK kvs))) (hh : H' ho = some (.dK hvs)) (hk : HoK ks.length hvs) (hl : hvs.length ≤ i) :
      Hol K H0 a na xa sa fr ho ks kvs ob i [some (.ref a), some (.ref na), some (.int (ks.length : Int)), some (.ref xa), some (.ref sa), some (.ref fr), some (.ref ho), a7, a8, none, none, none, none, none, none] H'
@[reducible] def T__law_book_9 (K : PySem.W.Frag) : TS :=
 (tSeq (tFor (iItems (tVar 5)) (gTup K 2 (gCons (gName 7) (gCons (gName 8) gNil)))
 (tAsg (tVar 7) (gSub (tVar 6) (tVar 8) rSetA)))
 (bokC K))
@[reducible] def T__law_book_10 (K : PySem.W.Frag) : TS :=
 (tSeq (tAsg (tCall (sp__law_sorts K) [] E0 (tCons (tVar 3) (tCons (tVar 2) tNil))) (gTup K 2 (gCons (gName 4) (gCons (gName 5) gNil))))
 (tSeq (tAsg tDNewK (gName 6))
 (T__law_book_9 K)))
@[reducible] def T__law_book_11 (K : PySem.W.Frag) : TS :=
 (tSeq (tAsg (tCall (sp__law_stream K) [] E0 (tCons (tCall (sp__law_cell_at K) [] E0 (tCons (tVar 0) (tCons (tC (.int 2)) tNil))) (tCons (tC (.int 60)) tNil))) (gName 3))
 (T__law_book_10 K))
def sp__law_book (K : PySem.W.Frag) : Sp := fun vs H Q _ => ∃ (a : Addr) (ns : List Int), vs = [.ref a] ∧ SqL K H a (ns.map V.int) ∧ ∀ (bv : V) (rs : List Row) (H' : Hp), Same H H' → Rws K H' bv rs → (rs.map Row.name).Nodup → rs.length ≤ 12 → 1 ≤ rs.length → (∀ r ∈ rs, r.name.length ≤ 9) → Q bv H'
theorem len__law_book (K : PySem.W.Frag) : ∀ vs H Q E, sp__law_book K vs H Q E → vs.length = ["_law_script"].length := by rintro vs H Q E ⟨a, ns, rfl, _⟩; rfl
def R__law_book (K : PySem.W.Frag) : TS :=
 (tSeq (tAsg (tCall (sp__law_names K) [] E0 (tCons (tCall (sp__law_cell_at K) [] E0 (tCons (tVar 0) (tCons (tC (.int 0)) tNil))) (tCons (tOp (rAddA K) (tC (.int 1)) (tOp (rI (fun _ j => 0 < j) fun i j => .int (i % j)) (tCall (sp__law_cell_at K) [] E0 (tCons (tVar 0) (tCons (tC (.int 1)) tNil))) (tC (.int 10)))) tNil))) (gName 1))
 (tSeq (tAsg (tCB (rLenA K) (tCons (tVar 1) tNil)) (gName 2))
 (T__law_book_11 K)))
theorem rd__law_book (h : sp__law_book K vs H Q E) : R__law_book K { nx := fun _ H' => Q .non H', rt := Q } (start ["_law_script", "_law_names_here", "_law_count", "_law_xs", "_law_sorts_here", "_law_frames", "_law_hosts", "_law_host", "_law_frame", "_law_able", "_law_free", "_law_rows", "_law_k", "_law_shuts", "_law_turn"] vs) H := by
  obtain ⟨a, ns, rfl, hS, q⟩ := h
  show R__law_book K _ [some (.ref a), none, none, none, none, none, none, none, none, none, none, none, none, none, none] H
  unfold R__law_book
  walk_at "step"
  refine ⟨a, ns, 0, rfl, hS, by decide, fun c0 => ?_⟩
  walk_at "step"
  refine ⟨a, ns, 1, rfl, hS, by decide, fun c1 => ?_⟩
  walk_at "step"
  have m0 := Int.emod_nonneg c1 (show (10 : Int) ≠ 0 by decide)
  have m1 := Int.emod_lt_of_pos c1 (show (0 : Int) < 10 by decide)
  refine ⟨c0, _, rfl, by omega, by omega, fun na ks H1 s1 hna nd h9 h12 h1 => ?_⟩
  walk_at "step"
  refine v_lenQ (.inl (SqL.of hna)) ?_
  rw [strV_len]
  walk_at "step"
  refine ⟨a, ns, 2, rfl, s1.sqL hS, by decide, fun c2 => ?_⟩
  walk_at "step"
  refine ⟨c2, 60, rfl, by decide, fun xa xs H2 s2 nxa hxa hxl _ => ?_⟩
  have nn : xa ≠ na := fun z => by rw [z, hna] at nxa; cases nxa
  walk_at "step"
  refine ⟨xa, ks.length, xs, rfl, h12, hxa, by omega, by omega, fun t sa fr ss kvs ns' H3 b3 hx3 hl3 hu3 ht nsa nfr nsf hsa hsl hfr hk hkl => ?_⟩
  have ho1 : ∀ (c : Addr) (u : HO), H1 c = some u → H3 c = some u := fun c u e => b3 c u (s2 _ _ e) (by rw [List.mem_singleton]; intro z; rw [z, nxa] at e; cases e)
  have nxs : xa ≠ sa := fun z => by rw [z, nsa] at hxa; cases hxa
  have nxf : xa ≠ fr := fun z => by rw [z, nfr] at hxa; cases hxa
  walk_at "step"
  refine ⟨t, _, rfl, SqT.of ht, rfl, _, _, rfl, st_name ⟨_, _, rfl, st_name ⟨rfl, ?_⟩⟩⟩
  walk_at "step"
  intro ho hho
  have s4 := Same.new hho (.dK [])
  have e4 : (upd H3 ho (.dK [])) ho = some (.dK []) := upd_same
  have nhx : xa ≠ ho := fun z => by rw [← z, hx3] at hho; cases hho
  have nhs : sa ≠ ho := fun z => by rw [← z, hsa] at hho; cases hho
  have nhf : fr ≠ ho := fun z => by rw [← z, hfr] at hho; cases hho
  have nhn : na ≠ ho := fun z => by rw [← z, ho1 _ _ hna] at hho; cases hho
  have hx4 := s4 _ _ hx3
  have hsa4 := s4 _ _ hsa
  have hfr4 := s4 _ _ hfr
  have hna4 := s4 _ _ (ho1 _ _ hna)
  have hho0 : H ho = none := by cases e : H ho with | none => rfl | some u => rw [ho1 _ _ (s1 _ _ e)] at hho; cases hho
  have nfr0 : H fr = none := none_of (Same.tr s1 s2) nfr
  have nxa0 : H xa = none := none_of s1 nxa
  have hk4 : ∀ (c : Addr) (u : HO), H c = some u → (upd H3 ho (.dK [])) c = some u := fun c u e => s4 _ _ (ho1 _ _ (s1 _ _ e))
  generalize upd H3 ho (.dK []) = H4 at *
  walk_at "step"
  refine st_items ?_
  walk_at "step"
  refine items_for hfr4 (Hol K H4 a na xa sa fr ho ks kvs) (fun ob => .mk (fun c u e n1 _ => by rw [upd_ne n1]; exact e) upd_same (by rw [upd_ne (Ne.symm nhf)]; exact e4) (fun y hy => by cases hy) (Nat.zero_le _)) (fun ob i σ H' p => by cases p with | mk s hf hh hk hl => exact hf) ?_ ?_
  · rintro ob i k v p σ H' hkv hp ⟨s, hf, hh, hk', hl⟩
    rename_i a7 a8 hvs
    obtain ⟨j, i', e, hj, hi'⟩ := hk _ (List.mem_of_getElem? hkv)
    cases e
    refine ⟨p, _, rfl, SqT.of upd_same, rfl, _, _, rfl, st_name ⟨_, _, rfl, st_name ⟨rfl, ?_⟩⟩⟩
    walk_at "step"
    have hh2 : (upd H' p (.tup [kV (Sum.inl (j : Int)), V.int i'])) ho = some (.dK hvs) := by rw [upd_ne (ne_free hh hp)]; exact hh
    have hil : i < kvs.length := (List.getElem?_eq_some_iff.mp hkv).1
    refine .inr ⟨ho, _, rfl, DPut.k (k := .inl (i' : Int)) hh2 (by rw [sizeLine_eq]; omega), ?_⟩
    have hpl := put_le hvs (.inl (i' : Int)) (kV (Sum.inl (j : Int)))
    refine .mk (fun c u e n1 n2 => by rw [upd_ne n2, upd_ne (ne_free (s c u e n1 n2) hp)]; exact s c u e n1 n2) (by rw [upd_ne nhf, upd_ne (ne_free hf hp)]; exact hf) upd_same (fun z hz => ?_) (by omega)
    rcases mem_put hz with h | h
    · exact hk' z h
    · exact ⟨i', j, h, hj⟩
  · rintro ob σ H' ⟨s, hf, hh, hk', hl⟩
    rename_i a7 a8 hvs
    walk_at "step"
    refine bok_C (H0 := H) ⟨fun c u e => s c u (hk4 c u e) (fun z => by rw [z, nfr0] at e; cases e) (fun z => by rw [z, hho0] at e; cases e), nxa0, nn, nxs, nxf, nhx, s _ _ hna4 ?_ nhn, s _ _ hsa4 nsf nhs, ⟨kvs, .inr ⟨ob, hf⟩⟩, ⟨hvs, hh, hk'⟩, ⟨ns', s _ _ hx4 nxf nhx, by omega⟩, hsl, nd, h9, h12, h1⟩ q
    exact fun z => by rw [← z, s2 _ _ hna] at nfr; cases nfr
end My
namespace My
open PySem L2
variable {K : PySem.W.Frag} {vs : List V} {H : Hp} {Q : VK} {E : XK}
structure En where
  n : Str
  ps : List Tr
  t : Addr
  l : Addr
  us : List V
def En.ok (K : PySem.W.Frag) (H : Hp) (e : En) : Prop := H e.t = some (.tup [.str e.n, .ref e.l]) ∧ H e.l = some (.lst e.us) ∧ Dvs K H (Tr.das e.ps) e.us
theorem En.ok.same {H H' : Hp} {e : En} (h : e.ok K H) (s : Same H H') : e.ok K H' := ⟨s _ _ h.1, s _ _ h.2.1, Dvs.same s _ _ h.2.2⟩
theorem En.ok.put {H : Hp} {e : En} {p : Addr} {xs ys : List V} (h : e.ok K H) (hp : H p = some (.lst xs)) (n : e.l ≠ p) : e.ok K (upd H p (.lst ys)) :=
  ⟨(tupK_lst hp).1 _ _ h.1, by rw [upd_ne n]; exact h.2.1, Dvs.tupK (tupK_lst hp) _ _ (das_fix _) h.2.2⟩
def En.add (e : En) (t : Tr) (v : V) : En := { e with ps := e.ps ++ [t], us := e.us ++ [v] }
theorem En.ok.add {H : Hp} {e : En} {t : Tr} {v : V} (h : e.ok K H) (d : Dv K H t.da v) : (e.add t v).ok K (upd H e.l (.lst (e.us ++ [v]))) := by
  have tk := tupK_lst (ys := e.us ++ [v]) h.2.1
  refine ⟨tk.1 _ _ h.1, upd_same, ?_⟩
  show Dvs K _ (Tr.das (e.ps ++ [t])) (e.us ++ [v])
  rw [das_app, Tr.das, Tr.das]
  exact Dvs.append (Dvs.tupK tk _ _ (das_fix _) h.2.2) (Dvs.one (Dv.tupK tk _ _ (da_fix _) d))
structure Stq (K : PySem.W.Frag) (H0 H : Hp) (st : Addr) (es : List En) : Prop where
  hs : H st = some (.lst (es.map fun e => .ref e.t))
  n0 : H0 st = none
  ok : ∀ e ∈ es, e.ok K H
  nd : (es.map En.l).Nodup
  new : ∀ e ∈ es, H0 e.l = none
  ne : ∀ e ∈ es, e.l ≠ st
theorem Stq.same {H0 H H' : Hp} {st : Addr} {es : List En} (h : Stq K H0 H st es) (s : Same H H') : Stq K H0 H' st es := { h with hs := s _ _ h.hs, ok := fun e he => (h.ok e he).same s }
theorem Stq.add {H0 H : Hp} {st : Addr} {fs : List En} {e : En} {t : Tr} {v : V} (h : Stq K H0 H st (fs ++ [e])) (d : Dv K H t.da v) : Stq K H0 (upd H e.l (.lst (e.us ++ [v]))) st (fs ++ [e.add t v]) := by
  have he := h.ok e (by simp)
  have hnd := h.nd
  rw [List.map_append, List.nodup_append] at hnd
  have hne : ∀ f ∈ fs, f.l ≠ e.l := fun f hf z => hnd.2.2 _ (List.mem_map.mpr ⟨f, hf, rfl⟩) _ (by simp) z
  refine ⟨?_, h.n0, fun f hf => ?_, ?_, fun f hf => ?_, fun f hf => ?_⟩
  · rw [upd_ne (Ne.symm (h.ne e (by simp))), h.hs, List.map_append, List.map_append]; rfl
  · rcases List.mem_append.mp hf with g | g
    · exact (h.ok f (List.mem_append.mpr (.inl g))).put he.2.1 (hne f g)
    · rw [List.mem_singleton.mp g]; exact he.add d
  · have := h.nd
    rw [List.map_append] at this ⊢
    exact this
  · rcases List.mem_append.mp hf with g | g
    · exact h.new f (List.mem_append.mpr (.inl g))
    · rw [List.mem_singleton.mp g]; exact h.new e (by simp)
  · rcases List.mem_append.mp hf with g | g
    · exact h.ne f (List.mem_append.mpr (.inl g))
    · rw [List.mem_singleton.mp g]; exact h.ne e (by simp)
theorem Stq.push {H0 H : Hp} {st : Addr} {es : List En} {e : En} (h : Stq K H0 H st es) (he : e.ok K H) (hn : ∀ f ∈ es, f.l ≠ e.l) (h0 : H0 e.l = none) (hs : e.l ≠ st) : Stq K H0 (upd H st (.lst ((es.map fun e => V.ref e.t) ++ [.ref e.t]))) st (es ++ [e]) := by
  refine ⟨by rw [upd_same, List.map_append]; rfl, h.n0, fun f hf => ?_, ?_, fun f hf => ?_, fun f hf => ?_⟩
  · rcases List.mem_append.mp hf with g | g
    · exact (h.ok f g).put h.hs (h.ne f g)
    · rw [List.mem_singleton.mp g]; exact he.put h.hs hs
  · rw [List.map_append, List.nodup_append]
    refine ⟨h.nd, by simp, fun a ha b hb => ?_⟩
    obtain ⟨f, hf, rfl⟩ := List.mem_map.mp ha
    have hb : b = e.l := by simpa using hb
    rw [hb]
    exact hn f hf
  · rcases List.mem_append.mp hf with g | g
    · exact h.new f g
    · rw [List.mem_singleton.mp g]; exact h0
  · rcases List.mem_append.mp hf with g | g
    · exact h.ne f g
    · rw [List.mem_singleton.mp g]; exact hs
theorem Stq.pop {H0 H : Hp} {st : Addr} {fs : List En} {e : En} (h : Stq K H0 H st (fs ++ [e])) : Stq K H0 (upd H st (.lst (fs.map fun e => V.ref e.t))) st fs ∧ e.ok K (upd H st (.lst (fs.map fun e => V.ref e.t))) := by
  have hnd := h.nd
  rw [List.map_append, List.nodup_append] at hnd
  exact ⟨⟨upd_same, h.n0, fun f hf => (h.ok f (List.mem_append.mpr (.inl hf))).put h.hs (h.ne f (List.mem_append.mpr (.inl hf))), hnd.1, fun f hf => h.new f (List.mem_append.mpr (.inl hf)), fun f hf => h.ne f (List.mem_append.mpr (.inl hf))⟩, (h.ok e (by simp)).put h.hs (h.ne e (by simp))⟩
end My
namespace My
open PySem L2
variable {K : PySem.W.Frag} {vs : List V} {H : Hp} {Q : VK} {E : XK}
def tbOpen (K : PySem.W.Frag) : TS :=
 (tDrop (tBM K "list" rAppend (tVar 2) (tCons (tTup (tCons (tOp (rIxA K) (tVar 1) (tCall (sp__law_take K) [] E0 (tCons (tVar 4) (tCons (tCB (rLenA K) (tCons (tVar 1) tNil)) tNil)))) (tCons (tLst tNil) tNil))) tNil)))
def tbText (K : PySem.W.Frag) : TS :=
 (tDrop (tBM K "list" rAppend (tOp (rIxA K) (tOp (rIxA K) (tVar 2) (tUn (rU fun i => .int (-i)) (tC (.int 1)))) (tC (.int 1))) (tCons (tOp (rIxA K) (tLst (tCons (tCall (sp__law_told_by K) [] E0 (tCons (tOp (rIxA K) (tVar 4) (tC (.int 0))) tNil)) (tCons (tCall (sp__law_signs_by K) [] E0 (tCons (tVar 4) (tCons (tC (.int 30)) tNil))) tNil))) (tOp (rI (fun _ j => 0 < j) fun i j => .int (i % j)) (tVar 3) (tC (.int 2)))) tNil)))
@[reducible] def T__law_tree_by_0 (K : PySem.W.Frag) : TS :=
 (tDrop (tBM K "list" rAppend (tOp (rIxA K) (tOp (rIxA K) (tVar 2) (tUn (rU fun i => .int (-i)) (tC (.int 1)))) (tC (.int 1))) (tCons (tTup (tCons (tVar 6) (tCons (tCB (rTupleA K) (tCons (tVar 7) tNil)) tNil))) tNil)))
def tbShut (K : PySem.W.Frag) : TS :=
 (tSeq (tAsg (tBM0 K "list" rPop (tVar 2)) (gTup K 2 (gCons (gName 6) (gCons (gName 7) gNil))))
 (T__law_tree_by_0 K))
theorem tb_shut {D : Ends} {H0 : Hp} {a nb st : Addr} {fs : List En} {f e : En} {a3 a4 a5 a6 a7 : Option V} (k : Same H0 H) (h : Stq K H0 H st (fs ++ [f] ++ [e])) (hz : f.us.length < 1000)
    (q : ∀ (σ' : St) (H' : Hp) (v : V), Same H0 H' → Stq K H0 H' st (fs ++ [f.add (.nd e.n e.ps) v]) → σ' = [some (.ref a), some (.ref nb), some (.ref st), a3, a4, a5, some (.str e.n), some (.ref e.l)] → D.nx σ' H') :
    tbShut K D [some (.ref a), some (.ref nb), some (.ref st), a3, a4, a5, a6, a7] H := by
  unfold tbShut
  walk_at "step"
  refine ⟨.inl ⟨rfl, _, SqL.of h.hs⟩, ?_⟩
  walk_at "step"
  refine v_pop (xs := (fs ++ [f]).map fun e => V.ref e.t) (y := .ref e.t) (by rw [h.hs, List.map_append]; rfl) ?_
  obtain ⟨h1, he⟩ := h.pop
  have k1 := Same.put k h.n0 (.lst ((fs ++ [f]).map fun e => V.ref e.t))
  generalize upd H st (.lst ((fs ++ [f]).map fun e => V.ref e.t)) = H1 at *
  have hf := h1.ok f (by simp)
  refine ⟨e.t, _, rfl, SqT.of he.1, rfl, _, _, rfl, st_name ⟨_, _, rfl, st_name ⟨rfl, ?_⟩⟩⟩
  walk_at "step"
  refine ⟨1, rfl, ?_⟩
  refine v_ixL (SqL.of h1.hs) (v := .ref f.t) (by rw [List.map_append]; exact atI_end (by simp) (by simp)) ?_
  walk_at "step"
  refine v_ixT (SqT.of hf.1) (v := .ref f.l) (atI_nat (j := 1) rfl) ?_
  refine ⟨.inl ⟨rfl, _, SqL.of hf.2.1⟩, ?_⟩
  walk_at "step"
  refine ⟨e.l, _, rfl, .inl ⟨SqL.of he.2.1, fun p hp => ?_⟩⟩
  have s2 := Same.new hp (.tup e.us)
  have e2 : (upd H1 p (.tup e.us)) p = some (.tup e.us) := upd_same
  generalize upd H1 p (.tup e.us) = H2 at *
  walk_at "step"
  refine ⟨sl64 (by simp), fun t ht => ?_⟩
  have s3 := Same.new ht (.tup [.str e.n, .ref p])
  have e3 : (upd H2 t (.tup [.str e.n, .ref p])) t = some (.tup [.str e.n, .ref p]) := upd_same
  generalize upd H2 t (.tup [.str e.n, .ref p]) = H3 at *
  have s13 := Same.tr s2 s3
  have h3 := h1.same s13
  have dv : Dv K H3 (Tr.nd e.n e.ps).da (.ref t) := da_nd (SqT.of e3) (SqT.of (s3 _ _ e2)) (Dvs.same s13 _ _ he.2.2)
  walk_at "step"
  refine v_append (s13 _ _ hf.2.1) (by rw [sizeLine_eq]; omega) ?_
  walk_at "step"
  exact q _ _ (.ref t) (Same.put (Same.tr k1 s13) (h1.new f (by simp)) _) (h3.add dv) rfl
theorem Stq.po {H0 H H' : Hp} {st p : Addr} {es : List En} {x : Int} (h : Stq K H0 H st es) (o : Po p H H') (hp : H p = some (.lst [.int x])) (n : st ≠ p) (hn : ∀ e ∈ es, e.l ≠ p) : Stq K H0 H' st es := by
  have tk : TupK H H' := tupK_but (fun c u e g => o.keep c u (by simpa using g) e) hp
  exact { h with hs := o.keep _ _ n h.hs, ok := fun e he => ⟨tk.1 _ _ (h.ok e he).1, o.keep _ _ (hn e he) (h.ok e he).2.1, Dvs.tupK tk _ _ (das_fix _) (h.ok e he).2.2⟩ }
theorem tb_text {D : Ends} {H0 : Hp} {a nb st p : Addr} {fs : List En} {f : En} {c x : Int} {a5 a6 a7 : Option V} (k : Same H0 H) (h : Stq K H0 H st (fs ++ [f])) (hp : H p = some (.lst [.int x])) (p0 : H0 p = none) (n : st ≠ p) (hn : ∀ e ∈ fs ++ [f], e.l ≠ p) (hz : f.us.length < 1000)
    (q : ∀ (σ' : St) (H' : Hp) (z : Str), Same H0 H' → z.length ≤ 50 → Stq K H0 H' st (fs ++ [f.add (.tx z) (.str z)]) → σ' = [some (.ref a), some (.ref nb), some (.ref st), some (.int c), some (.ref p), a5, a6, a7] → D.nx σ' H') :
    tbText K D [some (.ref a), some (.ref nb), some (.ref st), some (.int c), some (.ref p), a5, a6, a7] H := by
  have hf := h.ok f (by simp)
  unfold tbText
  walk_at "step"
  refine ⟨1, rfl, ?_⟩
  refine v_ixL (SqL.of h.hs) (v := .ref f.t) (by rw [List.map_append]; exact atI_end (by simp) (by simp)) ?_
  walk_at "step"
  refine v_ixT (SqT.of hf.1) (v := .ref f.l) (atI_nat (j := 1) rfl) ?_
  refine ⟨.inl ⟨rfl, _, SqL.of hf.2.1⟩, ?_⟩
  walk_at "step"
  refine v_ixL (SqL.of hp) (v := .int x) rfl ?_
  walk_at "step"
  refine ⟨x, rfl, fun z1 H1 s1 hz1 => ?_⟩
  walk_at "step"
  refine ⟨p, 30, rfl, ⟨x, s1 _ _ hp⟩, by decide, by decide, fun z2 H2 o2 hz2 => ?_⟩
  have h2 := (h.same s1).po o2 (s1 _ _ hp) n hn
  have k2 : Same H0 H2 := fun b u e => o2.keep b u (ne_free e p0) (s1 _ _ (k _ _ e))
  walk_at "step"
  refine ⟨sl64 (by simp), fun l hl => ?_⟩
  have s3 := Same.new hl (.lst [.str z1, .str z2])
  have e3 : (upd H2 l (.lst [.str z1, .str z2])) l = some (.lst [.str z1, .str z2]) := upd_same
  generalize upd H2 l (.lst [.str z1, .str z2]) = H3 at *
  have h3 := h2.same s3
  have k3 := Same.tr k2 s3
  walk_at "step"
  have m0 := Int.emod_nonneg c (show (2 : Int) ≠ 0 by decide)
  have m1 := Int.emod_lt_of_pos c (show (0 : Int) < 2 by decide)
  obtain ⟨z, hz', hzl⟩ : ∃ z : Str, atI [V.str z1, V.str z2] (c % 2) = some (.str z) ∧ z.length ≤ 50 := by
    rcases (show c % 2 = 0 ∨ c % 2 = 1 by omega) with e | e
    · rw [e]; exact ⟨z1, rfl, by omega⟩
    · rw [e]; exact ⟨z2, rfl, hz2⟩
  refine v_ixL (SqL.of e3) hz' ?_
  walk_at "step"
  refine v_append (h3.ok f (by simp)).2.1 (by rw [sizeLine_eq]; omega) ?_
  walk_at "step"
  exact q _ _ z (Same.put k3 (h.new f (by simp)) _) hzl (h3.add (da_tx z)) rfl
theorem tb_open {D : Ends} {H0 : Hp} {a nb st p : Addr} {es : List En} {ks : List Str} {x : Int} {a3 a5 a6 a7 : Option V} (k : Same H0 H) (h : Stq K H0 H st es) (hnb : H0 nb = some (.lst (strV ks))) (h1 : 1 ≤ ks.length) (h12 : ks.length ≤ 12) (h9 : ∀ y ∈ ks, y.length ≤ 9) (hp : H p = some (.lst [.int x])) (p0 : H0 p = none) (n : st ≠ p) (hn : ∀ e ∈ es, e.l ≠ p) (hz : es.length < 1000)
    (q : ∀ (σ' : St) (H' : Hp) (e : En), Same H0 H' → Stq K H0 H' st (es ++ [e]) → e.ps = [] → e.us = [] → e.n.length ≤ 9 → σ' = [some (.ref a), some (.ref nb), some (.ref st), a3, some (.ref p), a5, a6, a7] → D.nx σ' H') :
    tbOpen K D [some (.ref a), some (.ref nb), some (.ref st), a3, some (.ref p), a5, a6, a7] H := by
  unfold tbOpen
  walk_at "step"
  refine ⟨.inl ⟨rfl, _, SqL.of h.hs⟩, ?_⟩
  walk_at "step"
  refine v_lenQ (.inl (SqL.of (k _ _ hnb))) ?_
  rw [strV_len]
  walk_at "step"
  refine take_of ⟨x, hp⟩ (by omega) (by omega) fun i H1 i0 i1 o1 => ?_
  have h2 := h.po o1 hp n hn
  have k2 : Same H0 H1 := fun b u e => o1.keep b u (ne_free e p0) (k _ _ e)
  have hi : i.toNat < ks.length := by omega
  refine v_ixL (SqL.of (k2 _ _ hnb)) (v := .str (ks[i.toNat]'hi)) (ixI i0 (by unfold strV; rw [List.getElem?_map, List.getElem?_eq_getElem hi]; rfl)) ?_
  have hk9 := h9 _ (List.getElem_mem hi)
  generalize ks[i.toNat]'hi = nm at *
  walk_at "step"
  refine ⟨sl64 (by simp), fun l hl => ?_⟩
  have s3 := Same.new hl (.lst [])
  have e3 : (upd H1 l (.lst [])) l = some (.lst []) := upd_same
  have nls : l ≠ st := fun z => by rw [z, h2.hs] at hl; cases hl
  have nle : ∀ f ∈ es, f.l ≠ l := fun f hf z => by have := (h2.ok f hf).2.1; rw [z, hl] at this; cases this
  have l0 : H0 l = none := none_of k2 hl
  generalize upd H1 l (.lst []) = H3 at *
  walk_at "step"
  refine ⟨sl64 (by simp), fun t ht => ?_⟩
  have s4 := Same.new ht (.tup [.str nm, .ref l])
  have e4 : (upd H3 t (.tup [.str nm, .ref l])) t = some (.tup [.str nm, .ref l]) := upd_same
  generalize upd H3 t (.tup [.str nm, .ref l]) = H4 at *
  have s34 := Same.tr s3 s4
  have h4 := h2.same s34
  walk_at "step"
  refine v_append h4.hs (by rw [List.length_map, sizeLine_eq]; omega) ?_
  walk_at "step"
  exact q _ _ ⟨nm, [], t, l, []⟩ (Same.put (Same.tr k2 s34) h.n0 _) (h4.push (e := ⟨nm, [], t, l, []⟩) ⟨e4, s4 _ _ e3, by show Dvs K H4 (Tr.das []) []; rw [Tr.das]; exact dvs_nil⟩ nle l0 nls) rfl rfl hk9 rfl
end My
namespace My
open PySem L2
variable {K : PySem.W.Frag} {vs : List V} {H : Hp} {Q : VK} {E : XK}
def Wt : List En → Nat
  | [] => 0
  | e :: es => 3 + mws e.ps + Wt es
theorem Wt_app : ∀ a b : List En, Wt (a ++ b) = Wt a + Wt b
  | [], b => by show Wt b = 0 + Wt b; omega
  | e :: a, b => by show 3 + mws e.ps + Wt (a ++ b) = 3 + mws e.ps + Wt a + Wt b; rw [Wt_app a b]; omega
theorem Wt_one (e : En) : Wt [e] = 3 + mws e.ps := by show 3 + mws e.ps + 0 = _; omega
theorem smTs_app {m : Nat} : ∀ {a b : List Tr}, smTs m a → smTs m b → smTs m (a ++ b)
  | [], _, _, h => h
  | t :: a, b, h, g => by
    rw [smTs] at h
    show smTs m (t :: (a ++ b))
    rw [smTs]
    exact ⟨h.1, smTs_app h.2 g⟩
structure Bnd (es : List En) (m : Nat) : Prop where
  sm : ∀ e ∈ es, smTs 60 e.ps ∧ e.n.length ≤ 60
  hg : ∀ i e, es[i]? = some e → hgts e.ps + i ≤ 41
  ln : 1 ≤ es.length ∧ es.length ≤ 41
  wt : Wt es ≤ m
theorem Bnd.hlast {fs : List En} {f : En} {m : Nat} (h : Bnd (fs ++ [f]) m) : hgts f.ps + fs.length ≤ 41 := h.hg _ _ (by simp)
theorem Bnd.addT {fs : List En} {f : En} {t : Tr} {v : V} {m k : Nat} (h : Bnd (fs ++ [f]) m) (h1 : smT 60 t) (h2 : hgt t + fs.length ≤ 41) (h3 : m + mw t ≤ k) : Bnd (fs ++ [f.add t v]) k := by
  have hl := h.ln
  have hw := h.wt
  have hh := h.hlast
  have e : (f.add t v).ps = f.ps ++ [t] := rfl
  refine ⟨fun e' he => ?_, fun i e' he => ?_, ?_, ?_⟩
  · rcases List.mem_append.mp he with g | g
    · exact h.sm e' (List.mem_append.mpr (.inl g))
    · rw [List.mem_singleton.mp g]
      have := h.sm f (by simp)
      refine ⟨?_, this.2⟩
      rw [e]
      exact smTs_app this.1 (by rw [smTs, smTs]; exact ⟨h1, True.intro⟩)
  · rcases Nat.lt_or_ge i fs.length with g | g
    · rw [List.getElem?_append_left g] at he
      exact h.hg i e' (by rw [List.getElem?_append_left g]; exact he)
    · rw [List.getElem?_append_right g] at he
      have hi : i - fs.length < 1 := (List.getElem?_eq_some_iff.mp he).1
      rw [show i - fs.length = 0 by omega] at he
      cases he
      rw [e, hgts_app, hgts, hgts]
      omega
  · rw [List.length_append, List.length_singleton] at hl ⊢; exact hl
  · rw [Wt_app, Wt_one] at hw ⊢
    rw [e, mws_app, mws, mws]; omega
theorem Bnd.push {es : List En} {e : En} {m k : Nat} (h : Bnd es m) (h1 : e.ps = []) (h2 : e.n.length ≤ 9) (h3 : es.length < 41) (h4 : m + 3 ≤ k) : Bnd (es ++ [e]) k := by
  have hw := h.wt
  refine ⟨fun e' he => ?_, fun i e' he => ?_, ?_, ?_⟩
  · rcases List.mem_append.mp he with g | g
    · exact h.sm e' g
    · rw [List.mem_singleton.mp g, h1, smTs]; exact ⟨True.intro, by omega⟩
  · rcases Nat.lt_or_ge i es.length with g | g
    · rw [List.getElem?_append_left g] at he
      exact h.hg i e' he
    · rw [List.getElem?_append_right g] at he
      have hi : i - es.length < 1 := (List.getElem?_eq_some_iff.mp he).1
      rw [show i - es.length = 0 by omega] at he
      cases he
      rw [h1, hgts]; omega
  · rw [List.length_append, List.length_singleton]; omega
  · rw [Wt_app, Wt_one, h1, mws]; omega
theorem Bnd.left {fs : List En} {f e : En} {m : Nat} (h : Bnd (fs ++ [f] ++ [e]) m) : Bnd (fs ++ [f]) (m - (3 + mws e.ps)) := by
  have hw := h.wt
  have hl := h.ln
  rw [List.length_append, List.length_singleton] at hl
  rw [Wt_app, Wt_one] at hw
  exact ⟨fun e' he => h.sm e' (List.mem_append.mpr (.inl he)), fun i e' he => h.hg i e' (by rw [List.getElem?_append_left (List.getElem?_eq_some_iff.mp he).1]; exact he), ⟨by simp, by omega⟩, by omega⟩
theorem Bnd.shut {fs : List En} {f e : En} {v : V} {m : Nat} (h : Bnd (fs ++ [f] ++ [e]) m) : Bnd (fs ++ [f.add (.nd e.n e.ps) v]) m := by
  have he := h.sm e (by simp)
  have hh := h.hlast
  have hw := h.wt
  rw [Wt_app, Wt_one] at hw
  rw [List.length_append, List.length_singleton] at hh
  exact h.left.addT (by rw [smT]; exact ⟨he.2, he.1⟩) (by rw [hgt]; omega) (by rw [mw]; omega)
theorem Bnd.us {H0 H' : Hp} {st : Addr} {es : List En} {f : En} {m : Nat} (h : Bnd es m) (q : Stq K H0 H' st es) (hf : f ∈ es) : f.us.length ≤ m := by
  have hl := das_len (q.ok f hf).2.2
  have h1 := mws_len f.ps
  have h2 := h.wt
  obtain ⟨a, c, rfl⟩ := List.append_of_mem hf
  rw [Wt_app] at h2
  have h2 : Wt a + (3 + mws f.ps + Wt c) ≤ m := h2
  omega
inductive Tbw (K : PySem.W.Frag) (H0 : Hp) (a nb st : Addr) (m : Nat) : St → Hp → Prop
  | mk {H' : Hp} {a3 a4 a5 a6 a7 : Option V} {es : List En} (k : Same H0 H') (h : Stq K H0 H' st es) (b : Bnd es m) : Tbw K H0 a nb st m [some (.ref a), some (.ref nb), some (.ref st), a3, a4, a5, a6, a7] H'
inductive Tbl (K : PySem.W.Frag) (H0 : Hp) (a nb st : Addr) (m n : Nat) : St → Hp → Prop
  | mk {H' : Hp} {a3 a4 a5 a6 a7 : Option V} {es : List En} (k : Same H0 H') (h : Stq K H0 H' st es) (b : Bnd es m) (e : es.length = n) : Tbl K H0 a nb st m n [some (.ref a), some (.ref nb), some (.ref st), a3, a4, a5, a6, a7] H'
theorem two_last {es : List En} (h : 1 < es.length) : ∃ fs f e, es = fs ++ [f] ++ [e] := by
  rcases List.eq_nil_or_concat es with rfl | ⟨es, e, rfl⟩
  · simp at h
  · rw [List.concat_eq_append] at *
    rcases List.eq_nil_or_concat es with rfl | ⟨fs, f, rfl⟩
    · simp at h
    · rw [List.concat_eq_append]; exact ⟨fs, f, e, rfl⟩
theorem one_last {es : List En} (h : 1 ≤ es.length) : ∃ fs f, es = fs ++ [f] := by
  rcases List.eq_nil_or_concat es with rfl | ⟨es, e, rfl⟩
  · simp at h
  · exact ⟨es, e, by rw [List.concat_eq_append]⟩
@[reducible] def T__law_tree_by_4 (K : PySem.W.Frag) : TS :=
 (tIfS (tAnd (tTest (tOp (rEqA K) (tVar 5) (tC (.int 2)))) (tTest (tOp rGtA (tCB (rLenA K) (tCons (tVar 2) tNil)) (tC (.int 1)))))
 (tbShut K) (tbText K))
@[reducible] def T__law_tree_by_5 (K : PySem.W.Frag) : TS :=
 (tIfS (tAnd (tTest (tOp rLtA (tVar 5) (tC (.int 2)))) (tTest (tOp rLtA (tCB (rLenA K) (tCons (tVar 2) tNil)) (tC (.int 41)))))
 (tbOpen K) (T__law_tree_by_4 K))
@[reducible] def T__law_tree_by_6 (K : PySem.W.Frag) : TS :=
 (tSeq (tAsg (tCall (sp__law_take K) [] E0 (tCons (tVar 4) (tCons (tC (.int 5)) tNil))) (gName 5))
 (T__law_tree_by_5 K))
@[reducible] def T__law_tree_by_7 (K : PySem.W.Frag) : TS :=
 (tSeq (tAsg (tLst (tCons (tOp (rIxA K) (tLst (tCons (tCall (sp__law_mixed K) [] E0 (tCons (tVar 3) tNil)) (tCons (tOp (rI CDiv fun i j => .int (i / j)) (tVar 3) (tC (.int 2))) tNil))) (tOp (rI (fun _ j => 0 < j) fun i j => .int (i % j)) (tVar 3) (tC (.int 2)))) tNil)) (gName 4))
 (T__law_tree_by_6 K))
@[reducible] def T__law_tree_by_8 (K : PySem.W.Frag) : TS :=
 (tRet (tTup (tCons (tC (.str ("" : Str))) (tCons (tCB (rTupleA K) (tCons (tOp (rIxA K) (tOp (rIxA K) (tVar 2) (tC (.int 0))) (tC (.int 1))) tNil)) tNil))))
@[reducible] def T__law_tree_by_9 (K : PySem.W.Frag) : TS :=
 (tSeq (tWhile (tTest (tOp rGtA (tCB (rLenA K) (tCons (tVar 2) tNil)) (tC (.int 1))))
 (tbShut K))
 (T__law_tree_by_8 K))
def sp__law_tree_by (K : PySem.W.Frag) : Sp := fun vs H Q _ => ∃ (a b : Addr) (cs : List Int) (ks : List Str), vs = [.ref a, .ref b] ∧ SqL K H a (cs.map V.int) ∧ cs.length ≤ 80 ∧ H b = some (.lst (strV ks)) ∧ 1 ≤ ks.length ∧ ks.length ≤ 12 ∧ (∀ x ∈ ks, x.length ≤ 9) ∧
  ∀ (v : V) (ps : List Tr) (H' : Hp), Same H H' → Dv K H' (Tr.nd ("" : Str) ps).da v → smTs 60 ps → hgts ps ≤ 42 → mws ps ≤ 2000 → Q v H'
theorem len__law_tree_by (K : PySem.W.Frag) : ∀ vs H Q E, sp__law_tree_by K vs H Q E → vs.length = ["_law_cells", "_law_names_here"].length := by rintro vs H Q E ⟨a, b, cs, ks, rfl, _⟩; rfl
def R__law_tree_by (K : PySem.W.Frag) : TS :=
 (tSeq (tAsg (tLst (tCons (tTup (tCons (tC (.str ("" : Str))) (tCons (tLst tNil) tNil))) tNil)) (gName 2))
 (tSeq (tFor (iAny K (tVar 0)) (gName 3)
 (T__law_tree_by_7 K))
 (T__law_tree_by_9 K)))
theorem rd__law_tree_by (h : sp__law_tree_by K vs H Q E) : R__law_tree_by K { nx := fun _ H' => Q .non H', rt := Q } (start ["_law_cells", "_law_names_here", "_law_stack", "_law_cell", "_law_pot", "_law_way", "_law_name", "_law_parts"] vs) H := by
  obtain ⟨a, nb, cs, ks, rfl, hS, hc80, hnb, h1, h12, h9, q⟩ := h
  show R__law_tree_by K _ [some (.ref a), some (.ref nb), none, none, none, none, none, none] H
  unfold R__law_tree_by
  walk_at "step"
  refine ⟨sl64 (by simp), fun l hl => ?_⟩
  have s1 := Same.new hl (.lst [])
  have e1 : (upd H l (.lst [])) l = some (.lst []) := upd_same
  generalize upd H l (.lst []) = H1 at *
  walk_at "step"
  refine ⟨sl64 (by simp), fun t ht => ?_⟩
  have s2 := Same.new ht (.tup [.str ("" : Str), .ref l])
  have e2 : (upd H1 t (.tup [.str ("" : Str), .ref l])) t = some (.tup [.str ("" : Str), .ref l]) := upd_same
  have e12 := s2 _ _ e1
  have s12 := Same.tr s1 s2
  generalize upd H1 t (.tup [.str ("" : Str), .ref l]) = H2 at *
  walk_at "step"
  refine ⟨sl64 (by simp), fun st hst => ?_⟩
  have s3 := Same.new hst (.lst [.ref t])
  have e3 : (upd H2 st (.lst [.ref t])) st = some (.lst [.ref t]) := upd_same
  have nst : l ≠ st := ne_free e12 hst
  have st0 : H st = none := none_of s12 hst
  have e13 := s3 _ _ e12
  have e23 := s3 _ _ e2
  have s13 := Same.tr s12 s3
  generalize upd H2 st (.lst [.ref t]) = H3 at *
  walk_at "step"
  refine any_forS (.inl hS) s13 (fun i => Tbw K H a nb st (3 + 3 * i)) (.mk (es := [⟨"", [], t, l, []⟩]) s13 ⟨e3, st0, ?_, by simp, ?_, ?_⟩ ⟨?_, ?_, by simp, ?_⟩) (fun i σ H' p => by cases p with | mk k h b => exact k) ?_ ?_
  · intro e he
    rw [List.mem_singleton.mp he]
    exact ⟨e23, e13, by show Dvs K H3 (Tr.das []) []; rw [Tr.das]; exact dvs_nil⟩
  · intro e he; rw [List.mem_singleton.mp he]; exact hl
  · intro e he; rw [List.mem_singleton.mp he]; exact nst
  · intro e he; rw [List.mem_singleton.mp he]; exact ⟨by show smTs 60 []; rw [smTs]; exact True.intro, Nat.zero_le _⟩
  · intro i e he
    have hi : i < 1 := (List.getElem?_eq_some_iff.mp he).1
    rw [show i = 0 by omega] at he
    cases he
    show hgts [] + i ≤ 41
    rw [hgts]; omega
  · rw [Wt_one]; show 3 + mws [] ≤ _; rw [mws]; omega
  · clear e1 e2 e3 e12 e13 e23 s1 s2 s3 s12 s13 hl ht hst nst
    rintro i x σ H' hx ⟨k, h, bd⟩
    rename_i a3 a4 a5 a6 a7 es
    have hil : i < cs.length := by have := (List.getElem?_eq_some_iff.mp hx).1; rwa [List.length_map] at this
    obtain ⟨c, hc⟩ : ∃ c : Int, x = .int c := by
      rw [List.getElem?_map] at hx
      obtain ⟨c, _, rfl⟩ := Option.map_eq_some_iff.mp hx
      exact ⟨c, rfl⟩
    subst hc
    walk_at "step"
    refine ⟨c, rfl, fun n hn => ?_⟩
    walk_at "step"
    refine ⟨sl64 (by simp), fun l hl => ?_⟩
    have s4 := Same.new hl (.lst [.int n, .int (c / 2)])
    have e4 : (upd H' l (.lst [.int n, .int (c / 2)])) l = some (.lst [.int n, .int (c / 2)]) := upd_same
    generalize upd H' l (.lst [.int n, .int (c / 2)]) = H4 at *
    walk_at "step"
    have m0 := Int.emod_nonneg c (show (2 : Int) ≠ 0 by decide)
    have m1 := Int.emod_lt_of_pos c (show (0 : Int) < 2 by decide)
    obtain ⟨z, hz⟩ : ∃ z : Int, atI [V.int n, V.int (c / 2)] (c % 2) = some (.int z) := by
      rcases (show c % 2 = 0 ∨ c % 2 = 1 by omega) with e | e
      · rw [e]; exact ⟨n, rfl⟩
      · rw [e]; exact ⟨c / 2, rfl⟩
    refine v_ixL (SqL.of e4) hz ?_
    walk_at "step"
    refine ⟨sl64 (by simp), fun p hp => ?_⟩
    have s5 := Same.new hp (.lst [.int z])
    have e5 : (upd H4 p (.lst [.int z])) p = some (.lst [.int z]) := upd_same
    have h4 := h.same s4
    have nsp : st ≠ p := ne_free h4.hs hp
    have nep : ∀ e ∈ es, e.l ≠ p := fun e he => ne_free (h4.ok e he).2.1 hp
    have k4 := Same.tr k s4
    have p0 : H p = none := none_of k4 hp
    have k5 := Same.tr k4 s5
    have h5 := h4.same s5
    generalize upd H4 p (.lst [.int z]) = H5 at *
    clear s4 s5 e4 h4 k4 hl hp
    walk_at "step"
    refine take_of ⟨z, e5⟩ (by decide) (by decide) fun w H6 w0 w5 o6 => ?_
    have h6 := h5.po o6 e5 nsp nep
    have k6 : Same H H6 := fun b u e => o6.keep b u (ne_free e p0) (k5 _ _ e)
    obtain ⟨y, e6⟩ := o6.at_
    have hus : ∀ f ∈ es, f.us.length < 1000 := fun f hf => by have := bd.us h6 hf; omega
    have hln := bd.ln
    have hel : (es.map fun e => V.ref e.t).length = es.length := List.length_map _
    walk_at "step"
    by_cases hw : w < 2
    · rw [decide_eq_true hw]
      refine iteT ?_
      walk_at "step"
      refine v_lenQ (.inl (SqL.of h6.hs)) ?_
      walk_at "step"
      by_cases h41 : es.length < 41
      · rw [decide_eq_true (show (((es.map fun e => V.ref e.t).length : Nat) : Int) < 41 by rw [hel]; omega)]
        refine iteT ?_
        refine tb_open k6 h6 hnb h1 h12 h9 e6 p0 nsp nep (by omega) fun σ' H7 e k7 h7 hps hue hn9 hσ => ?_
        subst hσ
        exact .mk k7 h7 (bd.push hps hn9 h41 (by omega))
      · rw [decide_eq_false (show ¬ (((es.map fun e => V.ref e.t).length : Nat) : Int) < 41 by rw [hel]; omega)]
        refine iteF ?_
        walk_at "step"
        rw [decide_eq_false (show ¬ w = 2 by omega)]
        refine iteF ?_
        obtain ⟨fs, f, rfl⟩ := one_last hln.1
        refine tb_text k6 h6 e6 p0 nsp nep (hus f (by simp)) fun σ' H7 z' k7 hz' h7 hσ => ?_
        subst hσ
        exact .mk k7 h7 (bd.addT (by rw [smT]; omega) (by have := bd.hlast; rw [hgt]; omega) (by rw [mw]; omega))
    · rw [decide_eq_false hw]
      refine iteF ?_
      walk_at "step"
      by_cases hw2 : w = 2
      · rw [decide_eq_true hw2]
        refine iteT ?_
        walk_at "step"
        refine v_lenQ (.inl (SqL.of h6.hs)) ?_
        walk_at "step"
        by_cases hl1 : 1 < es.length
        · rw [decide_eq_true (show (1 : Int) < (((es.map fun e => V.ref e.t).length : Nat) : Int) by rw [hel]; omega)]
          refine iteT ?_
          obtain ⟨fs, f, e, rfl⟩ := two_last hl1
          refine tb_shut k6 h6 (hus f (by simp)) fun σ' H7 v' k7 h7 hσ => ?_
          subst hσ
          have b7 : Bnd (fs ++ [f.add (.nd e.n e.ps) v']) (3 + 3 * (i + 1)) := { (bd.shut (v := v')) with wt := by have := (bd.shut (v := v')).wt; omega }
          exact .mk k7 h7 b7
        · rw [decide_eq_false (show ¬ (1 : Int) < (((es.map fun e => V.ref e.t).length : Nat) : Int) by rw [hel]; omega)]
          refine iteF ?_
          obtain ⟨fs, f, rfl⟩ := one_last hln.1
          refine tb_text k6 h6 e6 p0 nsp nep (hus f (by simp)) fun σ' H7 z' k7 hz' h7 hσ => ?_
          subst hσ
          exact .mk k7 h7 (bd.addT (by rw [smT]; omega) (by have := bd.hlast; rw [hgt]; omega) (by rw [mw]; omega))
      · rw [decide_eq_false hw2]
        refine iteF ?_
        obtain ⟨fs, f, rfl⟩ := one_last hln.1
        refine tb_text k6 h6 e6 p0 nsp nep (hus f (by simp)) fun σ' H7 z' k7 hz' h7 hσ => ?_
        subst hσ
        exact .mk k7 h7 (bd.addT (by rw [smT]; omega) (by have := bd.hlast; rw [hgt]; omega) (by rw [mw]; omega))
  · clear e1 e2 e3 e12 e13 e23 s1 s2 s3 s12 s13 hl ht hst nst
    rintro σ H' ⟨k, h, bd⟩
    rename_i a3 a4 a5 a6 a7 es
    rw [List.length_map] at bd
    replace bd : Bnd es 300 := { bd with wt := by have := bd.wt; omega }
    walk_at "step"
    refine while_m (Tbl K H a nb st 300) (.mk k h bd rfl) ?_
    clear k h bd es a3 a4 a5 a6 a7
    rintro n σ H' ⟨k, h, bd, rfl⟩
    rename_i a3 a4 a5 a6 a7 es
    have hln := bd.ln
    have hel : (es.map fun e => V.ref e.t).length = es.length := List.length_map _
    walk_at "step"
    refine v_lenQ (.inl (SqL.of h.hs)) ?_
    walk_at "step"
    by_cases hl1 : 1 < es.length
    · rw [decide_eq_true (show (1 : Int) < (((es.map fun e => V.ref e.t).length : Nat) : Int) by rw [hel]; omega)]
      refine iteT ?_
      refine ⟨fun σ' H'' => ∃ m', m' < es.length ∧ Tbl K H a nb st 300 m' σ' H'', fun _ _ h => h, ?_⟩
      obtain ⟨fs, f, e, rfl⟩ := two_last hl1
      have hu := bd.us h (f := f) (by simp)
      refine tb_shut k h (by omega) fun σ' H7 v' k7 h7 hσ => ?_
      subst hσ
      exact ⟨_, by simp, .mk k7 h7 bd.shut rfl⟩
    · rw [decide_eq_false (show ¬ (1 : Int) < (((es.map fun e => V.ref e.t).length : Nat) : Int) by rw [hel]; omega)]
      refine iteF ?_
      obtain ⟨e, rfl⟩ : ∃ e, es = [e] := List.length_eq_one_iff.mp (by omega)
      have he := h.ok e (by simp)
      walk_at "step"
      refine v_ixL (SqL.of h.hs) (v := .ref e.t) rfl ?_
      walk_at "step"
      refine v_ixT (SqT.of he.1) (v := .ref e.l) (atI_nat (j := 1) rfl) ?_
      refine ⟨e.l, _, rfl, .inl ⟨SqL.of he.2.1, fun p hp => ?_⟩⟩
      have s2 := Same.new hp (.tup e.us)
      have e2 : (upd H' p (.tup e.us)) p = some (.tup e.us) := upd_same
      generalize upd H' p (.tup e.us) = H2 at *
      walk_at "step"
      refine ⟨sl64 (by simp), fun t ht => ?_⟩
      have s3 := Same.new ht (.tup [.str ("" : Str), .ref p])
      have e3 : (upd H2 t (.tup [.str ("" : Str), .ref p])) t = some (.tup [.str ("" : Str), .ref p]) := upd_same
      generalize upd H2 t (.tup [.str ("" : Str), .ref p]) = H3 at *
      have s13 := Same.tr s2 s3
      have hw := bd.wt
      rw [Wt_one] at hw
      have hh := bd.hg 0 e rfl
      walk_at "step"
      exact q _ e.ps _ (Same.tr k s13) (da_nd (SqT.of e3) (SqT.of (s3 _ _ e2)) (Dvs.same s13 _ _ he.2.2)) (bd.sm e (by simp)).1 (by omega) (by omega)
end My
namespace My
open PySem L2
variable {K : PySem.W.Frag} {vs : List V} {H : Hp} {Q : VK} {E : XK}
@[reducible] def T_law_0 (K : PySem.W.Frag) : TS :=
 (tSeq (tIfS (tOr (tNot (tB (tCB (rIsi K) (tCons (tVar 4) (tCons (tC (.ty "str")) tNil))))) (tOr (tTest (tOp (rNeA K) (tVar 4) (tVar 3))) (tTest (tOp (rNeA K) (tCall (sp_written K) [] E0 (tCons (tVar 1) (tCons (tTup (tCons (tC (.str ("" : Str))) (tCons (tTup tNil) tNil))) tNil))) (tC (.str ("" : Str)))))))
 (tRet (tC (.bl false))) tNext)
 (tRet (tOp (rEqA K) (tCall (sp_written K) [] E0 (tCons (tVar 1) (tCons (tVar 2) tNil))) (tVar 3))))
@[reducible] def T_law_1 (K : PySem.W.Frag) : TS :=
 (tSeq (tAsg (tCall (sp_written K) [] E0 (tCons (tVar 1) (tCons (tVar 2) tNil))) (gName 4))
 (T_law_0 K))
@[reducible] def T_law_2 (K : PySem.W.Frag) : TS :=
 (tSeq (tAsg (tBM K "str" (rJoin K) (tC (.str ("" : Str))) (tCons (tComp [some 1, none] (iAny K (tOp (rIxA K) (tVar 2) (tC (.int 1)))) (gName 1) tTT (tCall (sp__law_part K) [] E0 (tCons (tVar 0) (tCons (tVar 1) tNil)))) tNil)) (gName 3))
 (T_law_1 K))
@[reducible] def T_law_3 (K : PySem.W.Frag) : TS :=
 (tSeq (tAsg (tCall (sp__law_tree_by K) [] E0 (tCons (tSl (rSlA K) (tVar 0) (tPart (tC (.int 3))) (tPart (tC (.int 83)))) (tCons (tComp [none] (iAny K (tVar 1)) (gName 0) tTT (tOp (rIxA K) (tVar 0) (tC (.int 0)))) tNil))) (gName 2))
 (T_law_2 K))
def sp_law (K : PySem.W.Frag) : Sp := fun vs H Q _ => ∃ (a : Addr) (ns : List Int), vs = [.ref a] ∧ SqL K H a (ns.map V.int) ∧ ns.length ≤ 63 ∧ ∀ H', Q (.bl true) H'
theorem len_law (K : PySem.W.Frag) : ∀ vs H Q E, sp_law K vs H Q E → vs.length = ["_law_script"].length := by rintro vs H Q E ⟨a, ns, rfl, _⟩; rfl
def R_law (K : PySem.W.Frag) : TS :=
 (tSeq (tAsg (tCall (sp__law_book K) [] E0 (tCons (tVar 0) tNil)) (gName 1))
 (T_law_3 K))
theorem rd_law (h : sp_law K vs H Q E) : R_law K { nx := fun _ H' => Q .non H', rt := Q } (start ["_law_script", "_law_book_here", "_law_tree", "_law_due", "_law_told"] vs) H := by
  obtain ⟨a, ns, rfl, hS, hn63, q⟩ := h
  show R_law K _ [some (.ref a), none, none, none, none] H
  unfold R_law
  walk_at "step"
  refine ⟨a, ns, rfl, hS, fun bv rs H1 s1 hR nd h12 h1 h9 => ?_⟩
  walk_at "step"
  refine v_slL (s1.sqL hS) fun sl hsl => ?_
  obtain ⟨cs, hcs, hcl⟩ : ∃ cs : List Int, cutV (ns.map V.int) (some 3) (some 83) = cs.map V.int ∧ cs.length ≤ 80 := ⟨(ns.drop _).take _, by unfold cutV; rw [← List.map_drop, ← List.map_take], by rw [List.length_take, List.length_drop]; omega⟩
  rw [hcs]
  have s2 := Same.new hsl (.lst (cs.map V.int))
  have e2 : (upd H1 sl (.lst (cs.map V.int))) sl = some (.lst (cs.map V.int)) := upd_same
  generalize upd H1 sl (.lst (cs.map V.int)) = H2 at *
  have hR2 := hR.same s2
  obtain ⟨ba, bs, rfl, hbq, hbd⟩ := hR2
  have hbl := hbd.length
  rw [List.length_map] at hbl
  walk_at "step"
  refine any_compS hbq Same.rfl' (fun i ys H' => H' = H2 ∧ ys = strV ((rs.take i).map Row.name)) ⟨rfl, rfl⟩ ?_ (fun i ys H' p => by rw [p.1]; exact Same.rfl') ?_ ?_
  · rintro i ys H' hi ⟨rfl, rfl⟩
    rw [strV_len, List.length_map, List.length_take]
    exact sl64 (by omega)
  · rintro i x ys H' hx ⟨rfl, rfl⟩
    obtain ⟨d, hd', dx⟩ := hbd.get' hx
    rw [List.getElem?_map] at hd'
    obtain ⟨r, hr, rfl⟩ := Option.map_eq_some_iff.mp hd'
    obtain ⟨rb, _, _, rfl, hrb, _, _⟩ := row_parts dx
    walk_at "step"
    refine v_ixT hrb (v := .str r.name) (atI_nat (j := 0) rfl) ?_
    refine ⟨rfl, ?_⟩
    rw [List.take_add_one, hr, List.map_append]
    unfold strV
    rw [List.map_append]; rfl
  rintro ys H3 ⟨rfl, rfl⟩ nb hnb
  rw [hbl, List.take_length]
  have s3 := Same.new hnb (.lst (strV (rs.map Row.name)))
  have e3 : (upd H3 nb (.lst (strV (rs.map Row.name)))) nb = some (.lst (strV (rs.map Row.name))) := upd_same
  generalize upd H3 nb (.lst (strV (rs.map Row.name))) = H4 at *
  walk_at "step"
  refine ⟨sl, nb, cs, rs.map Row.name, rfl, SqL.of (s3 _ _ e2), hcl, e3, by rw [List.length_map]; omega, by rw [List.length_map]; omega, fun x hx => ?_, fun tv ps H5 s5 hd hsm hh hm => ?_⟩
  · obtain ⟨r, hr, rfl⟩ := List.mem_map.mp hx
    exact h9 r hr
  have s35 := Same.tr s3 s5
  have hR5 : Rws K H5 (.ref ba) rs := ⟨ba, bs, rfl, hbq.imp s35.sqL s35.sqT, Dvs.same s35 _ _ hbd⟩
  obtain ⟨ta, tb, us, rfl, hta, htb, hus⟩ := tr_parts hd
  have hul := das_len hus
  have hml := mws_len ps
  have hwl := wrs_len rs ps hsm
  walk_at "step"
  refine ⟨rfl, ?_⟩
  walk_at "step"
  refine v_ixT hta (v := .ref tb) (atI_nat (j := 1) rfl) ?_
  refine any_compS (.inr htb) Same.rfl' (fun i ys H' => Same H5 H' ∧ ys = strV ((ps.take i).map (wr rs))) ⟨Same.rfl', rfl⟩ ?_ (fun i ys H' p => p.1) ?_ ?_
  · rintro i ys H' hi ⟨_, rfl⟩
    rw [strV_len, List.length_map, List.length_take]
    exact sl64 (by omega)
  · rintro i x ys H' hx ⟨s6, rfl⟩
    have hil : i < us.length := (List.getElem?_eq_some_iff.mp hx).1
    have ht : ps[i]? = some ps[i] := List.getElem?_eq_getElem (by omega)
    generalize ps[i] = t at ht
    obtain ⟨x', hx', dx⟩ := das_get hus ht
    rw [hx] at hx'
    cases hx'
    have hmem := List.mem_of_getElem? ht
    have hg := hgts_get hmem
    have hm2 := mws_get hmem
    have tk : (ps.take (i + 1)).map (wr rs) = (ps.take i).map (wr rs) ++ [wr rs t] := by rw [List.take_add_one, ht, List.map_append]; rfl
    walk_at "step"
    refine ⟨.ref ba, x, rs, t, rfl, hR5.same s6, nd, by omega, Dv.same s6 _ _ dx, smTs_get hsm hmem, by omega, by omega, fun H7 s7 => ?_⟩
    refine ⟨Same.tr s6 s7, ?_⟩
    rw [tk]
    unfold strV
    rw [List.map_append]; rfl
  rintro ys H6 ⟨s6, rfl⟩ c hc
  rw [hul, List.take_length]
  have s7 := Same.tr s6 (Same.new hc (.lst (strV (ps.map (wr rs)))))
  have e7 : (upd H6 c (.lst (strV (ps.map (wr rs))))) c = some (.lst (strV (ps.map (wr rs)))) := upd_same
  generalize upd H6 c (.lst (strV (ps.map (wr rs)))) = H7 at *
  walk_at "step"
  refine ⟨"", c, ps.map (wr rs), rfl, rfl, .inl (SqL.of e7), ?_, ?_⟩
  · rw [sum_cat, ← wrs_cat]
    show _ + _ * 0 ≤ _
    omega
  rw [join_cat, ← wrs_cat]
  walk_at "step"
  refine ⟨.ref ba, .ref ta, rs, "", ps, rfl, hR5.same s7, Dv.same s7 _ _ hd, hsm, by omega, fun H8 s8 => ?_⟩
  have s78 := Same.tr s7 s8
  walk_at "step"
  refine v_isi (.str _) (b := true) rfl ?_
  have ed : decide (wrs rs ps = wrs rs ps) = true := decide_eq_true rfl
  walk_at "step"
  rw [show (!true) = false from rfl]
  refine iteF ?_
  walk_at "step"
  rw [ed, show (!true) = false from rfl]
  refine iteF ?_
  walk_at "step"
  refine ⟨sl64 (by simp), fun p9 hp9 => ?_⟩
  have s9 := Same.new hp9 (.tup [])
  have e9 : (upd H8 p9 (.tup [])) p9 = some (.tup []) := upd_same
  generalize upd H8 p9 (.tup []) = H9 at *
  walk_at "step"
  refine ⟨sl64 (by simp), fun p10 hp10 => ?_⟩
  have s10 := Same.new hp10 (.tup [.str ("" : Str), .ref p9])
  have e10 : (upd H9 p10 (.tup [.str ("" : Str), .ref p9])) p10 = some (.tup [.str ("" : Str), .ref p9]) := upd_same
  have e9 := s10 _ _ e9
  generalize upd H9 p10 (.tup [.str ("" : Str), .ref p9]) = H10 at *
  have s710 := Same.tr s78 (Same.tr s9 s10)
  walk_at "step"
  refine ⟨.ref ba, .ref p10, rs, "", [], rfl, hR5.same s710, da_nd (SqT.of e10) (SqT.of e9) (by rw [Tr.das]; exact dvs_nil), by rw [smTs]; exact True.intro, by rw [mws]; omega, fun H11 s11 => ?_⟩
  walk_at "step"
  rw [wrs, show decide (Str.empty = Str.ofString "") = true from decide_eq_true rfl, show (!true) = false from rfl]
  refine iteF ?_
  walk_at "step"
  refine ⟨.ref ba, .ref ta, rs, "", ps, rfl, hR5.same (Same.tr s710 s11), Dv.same (Same.tr s710 s11) _ _ hd, hsm, by omega, fun H12 s12 => ?_⟩
  walk_at "step"
  rw [ed]
  exact q H12
end My
namespace My
open PySem L2 PyProof.Rows
set_option maxHeartbeats 0
def top (i : Nat) : Stmt := PySem.Challenge.pw_tagmend_k50_trees_written.main.body.getD i (.Pass ⟨0, 0, 0, 0⟩)
abbrev s_row_of : Stmt := top 3
abbrev s_sort_of : Stmt := top 4
abbrev s_escaped : Stmt := top 6
abbrev s_opening_of : Stmt := top 8
abbrev s_closing_of : Stmt := top 9
abbrev s_is_text : Stmt := top 11
abbrev s_name_of : Stmt := top 12
abbrev s_parts_of : Stmt := top 13
abbrev s_written : Stmt := top 15
abbrev s_to_write : Stmt := top 16
abbrev s_behind_opening : Stmt := top 17
abbrev s__law_cell_at : Stmt := top 19
abbrev s__law_mixed : Stmt := top 20
abbrev s__law_take : Stmt := top 21
abbrev s__law_any_names : Stmt := top 22
abbrev s__law_signs_by : Stmt := top 23
abbrev s__law_stream : Stmt := top 24
abbrev s__law_names : Stmt := top 25
abbrev s__law_sorts : Stmt := top 26
abbrev s__law_picked : Stmt := top 27
abbrev s__law_book : Stmt := top 28
abbrev s__law_tree_by : Stmt := top 29
abbrev s__law_told_by : Stmt := top 30
abbrev s__law_escaped : Stmt := top 31
abbrev s__law_part : Stmt := top 32
abbrev s_law : Stmt := top 33
set_option genInjectivity false in
set_option genSizeOf false in
structure Adr where
  a_row_of : Addr
  d_row_of : FuncData
  a_sort_of : Addr
  d_sort_of : FuncData
  a_escaped : Addr
  d_escaped : FuncData
  a_opening_of : Addr
  d_opening_of : FuncData
  a_closing_of : Addr
  d_closing_of : FuncData
  a_is_text : Addr
  d_is_text : FuncData
  a_name_of : Addr
  d_name_of : FuncData
  a_parts_of : Addr
  d_parts_of : FuncData
  a_written : Addr
  d_written : FuncData
  a_to_write : Addr
  d_to_write : FuncData
  a_behind_opening : Addr
  d_behind_opening : FuncData
  a__law_cell_at : Addr
  d__law_cell_at : FuncData
  a__law_mixed : Addr
  d__law_mixed : FuncData
  a__law_take : Addr
  d__law_take : FuncData
  a__law_any_names : Addr
  d__law_any_names : FuncData
  a__law_signs_by : Addr
  d__law_signs_by : FuncData
  a__law_stream : Addr
  d__law_stream : FuncData
  a__law_names : Addr
  d__law_names : FuncData
  a__law_sorts : Addr
  d__law_sorts : FuncData
  a__law_picked : Addr
  d__law_picked : FuncData
  a__law_book : Addr
  d__law_book : FuncData
  a__law_tree_by : Addr
  d__law_tree_by : FuncData
  a__law_told_by : Addr
  d__law_told_by : FuncData
  a__law_escaped : Addr
  d__law_escaped : FuncData
  a__law_part : Addr
  d__law_part : FuncData
  a_law : Addr
  d_law : FuncData
  v_NAME : Value
  v_SORT : Value
structure Txt (K : PySem.W.Frag) (mg : Str → Option Value) (t : Adr) : Prop where
  F_row_of : Fun K "row_of" "row_of" s_row_of t.a_row_of t.d_row_of
  b_row_of : Binds K t.d_row_of ["rows", "name"] []
  m_row_of : mg "row_of" = some (.ref t.a_row_of)
  F_sort_of : Fun K "sort_of" "sort_of" s_sort_of t.a_sort_of t.d_sort_of
  b_sort_of : Binds K t.d_sort_of ["book", "name"] []
  m_sort_of : mg "sort_of" = some (.ref t.a_sort_of)
  F_escaped : Fun K "escaped" "escaped" s_escaped t.a_escaped t.d_escaped
  b_escaped : Binds K t.d_escaped ["text"] []
  m_escaped : mg "escaped" = some (.ref t.a_escaped)
  F_opening_of : Fun K "opening_of" "opening_of" s_opening_of t.a_opening_of t.d_opening_of
  b_opening_of : Binds K t.d_opening_of ["name"] []
  m_opening_of : mg "opening_of" = some (.ref t.a_opening_of)
  F_closing_of : Fun K "closing_of" "closing_of" s_closing_of t.a_closing_of t.d_closing_of
  b_closing_of : Binds K t.d_closing_of ["name"] []
  m_closing_of : mg "closing_of" = some (.ref t.a_closing_of)
  F_is_text : Fun K "is_text" "is_text" s_is_text t.a_is_text t.d_is_text
  b_is_text : Binds K t.d_is_text ["part"] []
  m_is_text : mg "is_text" = some (.ref t.a_is_text)
  F_name_of : Fun K "name_of" "name_of" s_name_of t.a_name_of t.d_name_of
  b_name_of : Binds K t.d_name_of ["tree"] []
  m_name_of : mg "name_of" = some (.ref t.a_name_of)
  F_parts_of : Fun K "parts_of" "parts_of" s_parts_of t.a_parts_of t.d_parts_of
  b_parts_of : Binds K t.d_parts_of ["part"] []
  m_parts_of : mg "parts_of" = some (.ref t.a_parts_of)
  F_written : Fun K "written" "written" s_written t.a_written t.d_written
  b_written : Binds K t.d_written ["book", "tree"] []
  m_written : mg "written" = some (.ref t.a_written)
  F_to_write : Fun K "to_write" "to_write" s_to_write t.a_to_write t.d_to_write
  b_to_write : Binds K t.d_to_write ["parts"] []
  m_to_write : mg "to_write" = some (.ref t.a_to_write)
  F_behind_opening : Fun K "behind_opening" "behind_opening" s_behind_opening t.a_behind_opening t.d_behind_opening
  b_behind_opening : Binds K t.d_behind_opening ["book", "tree"] []
  m_behind_opening : mg "behind_opening" = some (.ref t.a_behind_opening)
  F__law_cell_at : Fun K "_law_cell_at" "_law_cell_at" s__law_cell_at t.a__law_cell_at t.d__law_cell_at
  b__law_cell_at : Binds K t.d__law_cell_at ["_law_script", "_law_k"] []
  m__law_cell_at : mg "_law_cell_at" = some (.ref t.a__law_cell_at)
  F__law_mixed : Fun K "_law_mixed" "_law_mixed" s__law_mixed t.a__law_mixed t.d__law_mixed
  b__law_mixed : Binds K t.d__law_mixed ["_law_cell"] []
  m__law_mixed : mg "_law_mixed" = some (.ref t.a__law_mixed)
  F__law_take : Fun K "_law_take" "_law_take" s__law_take t.a__law_take t.d__law_take
  b__law_take : Binds K t.d__law_take ["_law_pot", "_law_most"] []
  m__law_take : mg "_law_take" = some (.ref t.a__law_take)
  F__law_any_names : Fun K "_law_any_names" "_law_any_names" s__law_any_names t.a__law_any_names t.d__law_any_names
  b__law_any_names : Binds K t.d__law_any_names ["_law_pot", "_law_count"] []
  m__law_any_names : mg "_law_any_names" = some (.ref t.a__law_any_names)
  F__law_signs_by : Fun K "_law_signs_by" "_law_signs_by" s__law_signs_by t.a__law_signs_by t.d__law_signs_by
  b__law_signs_by : Binds K t.d__law_signs_by ["_law_pot", "_law_most"] []
  m__law_signs_by : mg "_law_signs_by" = some (.ref t.a__law_signs_by)
  F__law_stream : Fun K "_law_stream" "_law_stream" s__law_stream t.a__law_stream t.d__law_stream
  b__law_stream : Binds K t.d__law_stream ["_law_cell", "_law_count"] []
  m__law_stream : mg "_law_stream" = some (.ref t.a__law_stream)
  F__law_names : Fun K "_law_names" "_law_names" s__law_names t.a__law_names t.d__law_names
  b__law_names : Binds K t.d__law_names ["_law_cell", "_law_count"] []
  m__law_names : mg "_law_names" = some (.ref t.a__law_names)
  F__law_sorts : Fun K "_law_sorts" "_law_sorts" s__law_sorts t.a__law_sorts t.d__law_sorts
  b__law_sorts : Binds K t.d__law_sorts ["_law_xs", "_law_count"] []
  m__law_sorts : mg "_law_sorts" = some (.ref t.a__law_sorts)
  F__law_picked : Fun K "_law_picked" "_law_picked" s__law_picked t.a__law_picked t.d__law_picked
  b__law_picked : Binds K t.d__law_picked ["_law_names_here", "_law_x"] []
  m__law_picked : mg "_law_picked" = some (.ref t.a__law_picked)
  F__law_book : Fun K "_law_book" "_law_book" s__law_book t.a__law_book t.d__law_book
  b__law_book : Binds K t.d__law_book ["_law_script"] []
  m__law_book : mg "_law_book" = some (.ref t.a__law_book)
  F__law_tree_by : Fun K "_law_tree_by" "_law_tree_by" s__law_tree_by t.a__law_tree_by t.d__law_tree_by
  b__law_tree_by : Binds K t.d__law_tree_by ["_law_cells", "_law_names_here"] []
  m__law_tree_by : mg "_law_tree_by" = some (.ref t.a__law_tree_by)
  F__law_told_by : Fun K "_law_told_by" "_law_told_by" s__law_told_by t.a__law_told_by t.d__law_told_by
  b__law_told_by : Binds K t.d__law_told_by ["_law_x"] []
  m__law_told_by : mg "_law_told_by" = some (.ref t.a__law_told_by)
  F__law_escaped : Fun K "_law_escaped" "_law_escaped" s__law_escaped t.a__law_escaped t.d__law_escaped
  b__law_escaped : Binds K t.d__law_escaped ["_law_text"] []
  m__law_escaped : mg "_law_escaped" = some (.ref t.a__law_escaped)
  F__law_part : Fun K "_law_part" "_law_part" s__law_part t.a__law_part t.d__law_part
  b__law_part : Binds K t.d__law_part ["_law_book_here", "_law_part_here"] []
  m__law_part : mg "_law_part" = some (.ref t.a__law_part)
  F_law : Fun K "law" "law" s_law t.a_law t.d_law
  b_law : Binds K t.d_law ["_law_script"] []
  m_law : mg "law" = some (.ref t.a_law)
  g_NAME : mg "NAME" = some t.v_NAME ∧ RelV (.int 0) t.v_NAME
  g_SORT : mg "SORT" = some t.v_SORT ∧ RelV (.int 1) t.v_SORT
  z_int : mg "int" = none
  z_isinstance : mg "isinstance" = none
  z_len : mg "len" = none
  z_list : mg "list" = none
  z_range : mg "range" = none
  z_reversed : mg "reversed" = none
  z_sorted : mg "sorted" = none
  z_str : mg "str" = none
  z_tuple : mg "tuple" = none
section
variable {P : Program} {w : World} {K : PySem.W.Frag} {mg : Str → Option Value} {base : Heap} {t : Adr}
theorem sc_row_of : FnScope ["rows", "name", "row"] ["rows", "name"] (defScope s_row_of) := ⟨rfl, rfl, rfl, by decide +kernel, rfl, by decide +kernel, by decide +kernel⟩
theorem sc_sort_of : FnScope ["book", "name", "row"] ["book", "name"] (defScope s_sort_of) := ⟨rfl, rfl, rfl, by decide +kernel, rfl, by decide +kernel, by decide +kernel⟩
theorem sc_escaped : FnScope ["text"] ["text"] (defScope s_escaped) := ⟨rfl, rfl, rfl, by decide +kernel, rfl, by decide +kernel, by decide +kernel⟩
theorem sc_opening_of : FnScope ["name"] ["name"] (defScope s_opening_of) := ⟨rfl, rfl, rfl, by decide +kernel, rfl, by decide +kernel, by decide +kernel⟩
theorem sc_closing_of : FnScope ["name"] ["name"] (defScope s_closing_of) := ⟨rfl, rfl, rfl, by decide +kernel, rfl, by decide +kernel, by decide +kernel⟩
theorem sc_is_text : FnScope ["part"] ["part"] (defScope s_is_text) := ⟨rfl, rfl, rfl, by decide +kernel, rfl, by decide +kernel, by decide +kernel⟩
theorem sc_name_of : FnScope ["tree"] ["tree"] (defScope s_name_of) := ⟨rfl, rfl, rfl, by decide +kernel, rfl, by decide +kernel, by decide +kernel⟩
theorem sc_parts_of : FnScope ["part"] ["part"] (defScope s_parts_of) := ⟨rfl, rfl, rfl, by decide +kernel, rfl, by decide +kernel, by decide +kernel⟩
theorem sc_written : FnScope ["book", "tree", "pieces", "ahead", "step"] ["book", "tree"] (defScope s_written) := ⟨rfl, rfl, rfl, by decide +kernel, rfl, by decide +kernel, by decide +kernel⟩
theorem sc_to_write : FnScope ["parts"] ["parts"] (defScope s_to_write) := ⟨rfl, rfl, rfl, by decide +kernel, rfl, by decide +kernel, by decide +kernel⟩
theorem sc_behind_opening : FnScope ["book", "tree"] ["book", "tree"] (defScope s_behind_opening) := ⟨rfl, rfl, rfl, by decide +kernel, rfl, by decide +kernel, by decide +kernel⟩
theorem sc__law_cell_at : FnScope ["_law_script", "_law_k"] ["_law_script", "_law_k"] (defScope s__law_cell_at) := ⟨rfl, rfl, rfl, by decide +kernel, rfl, by decide +kernel, by decide +kernel⟩
theorem sc__law_mixed : FnScope ["_law_cell", "_law_number"] ["_law_cell"] (defScope s__law_mixed) := ⟨rfl, rfl, rfl, by decide +kernel, rfl, by decide +kernel, by decide +kernel⟩
theorem sc__law_take : FnScope ["_law_pot", "_law_most", "_law_number"] ["_law_pot", "_law_most"] (defScope s__law_take) := ⟨rfl, rfl, rfl, by decide +kernel, rfl, by decide +kernel, by decide +kernel⟩
theorem sc__law_any_names : FnScope ["_law_pot", "_law_count", "_law_letters", "_law_listed", "_law_k", "_law_name"] ["_law_pot", "_law_count"] (defScope s__law_any_names) := ⟨rfl, rfl, rfl, by decide +kernel, rfl, by decide +kernel, by decide +kernel⟩
theorem sc__law_signs_by : FnScope ["_law_pot", "_law_most", "_law_some"] ["_law_pot", "_law_most"] (defScope s__law_signs_by) := ⟨rfl, rfl, rfl, by decide +kernel, rfl, by decide +kernel, by decide +kernel⟩
theorem sc__law_stream : FnScope ["_law_cell", "_law_count", "_law_found", "_law_x", "_law_k"] ["_law_cell", "_law_count"] (defScope s__law_stream) := ⟨rfl, rfl, rfl, by decide +kernel, rfl, by decide +kernel, by decide +kernel⟩
theorem sc__law_names : FnScope ["_law_cell", "_law_count", "_law_letters", "_law_long", "_law_spot", "_law_listed", "_law_k", "_law_name", "_law_j", "_law_step"] ["_law_cell", "_law_count"] (defScope s__law_names) := ⟨rfl, rfl, rfl, by decide +kernel, rfl, by decide +kernel, by decide +kernel⟩
theorem sc__law_sorts : FnScope ["_law_xs", "_law_count", "_law_sorts_here", "_law_frames", "_law_k", "_law_able"] ["_law_xs", "_law_count"] (defScope s__law_sorts) := ⟨rfl, rfl, rfl, by decide +kernel, rfl, by decide +kernel, by decide +kernel⟩
theorem sc__law_picked : FnScope ["_law_names_here", "_law_x", "_law_picked_here", "_law_name"] ["_law_names_here", "_law_x"] (defScope s__law_picked) := ⟨rfl, rfl, rfl, by decide +kernel, rfl, by decide +kernel, by decide +kernel⟩
theorem sc__law_book : FnScope ["_law_script", "_law_names_here", "_law_count", "_law_xs", "_law_sorts_here", "_law_frames", "_law_hosts", "_law_host", "_law_frame", "_law_able", "_law_free", "_law_rows", "_law_k", "_law_shuts", "_law_turn"] ["_law_script"] (defScope s__law_book) := ⟨rfl, rfl, rfl, by decide +kernel, rfl, by decide +kernel, by decide +kernel⟩
theorem sc__law_tree_by : FnScope ["_law_cells", "_law_names_here", "_law_stack", "_law_cell", "_law_pot", "_law_way", "_law_name", "_law_parts"] ["_law_cells", "_law_names_here"] (defScope s__law_tree_by) := ⟨rfl, rfl, rfl, by decide +kernel, rfl, by decide +kernel, by decide +kernel⟩
theorem sc__law_told_by : FnScope ["_law_x", "_law_words"] ["_law_x"] (defScope s__law_told_by) := ⟨rfl, rfl, rfl, by decide +kernel, rfl, by decide +kernel, by decide +kernel⟩
theorem sc__law_escaped : FnScope ["_law_text", "_law_told", "_law_sign"] ["_law_text"] (defScope s__law_escaped) := ⟨rfl, rfl, rfl, by decide +kernel, rfl, by decide +kernel, by decide +kernel⟩
theorem sc__law_part : FnScope ["_law_book_here", "_law_part_here", "_law_name", "_law_parts"] ["_law_book_here", "_law_part_here"] (defScope s__law_part) := ⟨rfl, rfl, rfl, by decide +kernel, rfl, by decide +kernel, by decide +kernel⟩
theorem sc_law : FnScope ["_law_script", "_law_book_here", "_law_tree", "_law_due", "_law_told"] ["_law_script"] (defScope s_law) := ⟨rfl, rfl, rfl, by decide +kernel, rfl, by decide +kernel, by decide +kernel⟩
theorem ok_row_of (T : Txt K mg t) : FnOk P w K mg base CX0 1 t.a_row_of t.d_row_of ["rows", "name"] (sp_row_of K) := by
  refine T.F_row_of.ok sc_row_of (len_row_of K) (fun cdv A outer s H vs Q E hr h => ⟨R_row_of K, ?_, rd_row_of h⟩)
  have S := sc_row_of
  refine pss_cons ?_ ?_
  · refine ps_for PassesOwn.never rfl ?_ ?_ ?_
    · exact (pi_any (pv 0))
    · exact (pg_name (i := 2) S.nd rfl (Or.inl rfl))
    · refine pss_one ?_
      refine ps_if ?_ ?_ ?_
      · exact (pt_cmpR (op_eqA (u190 hr)) (pe_ix (ix_any' (hu_of hr)) (pv 2) (pe_glob rfl T.g_NAME.1 T.g_NAME.2) (fun _ _ => rfl)) (pv 1) (nomark _))
      · refine pss_one ?_
        exact (ps_ret (pv 2))
      · exact pss_nil
  refine pss_one ?_
  exact (ps_ret pe_non)
theorem ok_escaped (T : Txt K mg t) : FnOk P w K mg base CX0 1 t.a_escaped t.d_escaped ["text"] (sp_escaped K) := by
  refine T.F_escaped.ok sc_escaped (len_escaped K) (fun cdv A outer s H vs Q E hr h => ⟨R_escaped K, ?_, rd_escaped h⟩)
  have S := sc_escaped
  refine pss_one ?_
  exact (ps_ret (pe_repl (pe_repl (pv 0))))
theorem ok_opening_of (T : Txt K mg t) : FnOk P w K mg base CX0 1 t.a_opening_of t.d_opening_of ["name"] (sp_opening_of K) := by
  refine T.F_opening_of.ok sc_opening_of (len_opening_of K) (fun cdv A outer s H vs Q E hr h => ⟨R_opening_of K, ?_, rd_opening_of h⟩)
  have S := sc_opening_of
  refine pss_one ?_
  exact (ps_ret (pe_fs (pv 0)))
theorem ok_closing_of (T : Txt K mg t) : FnOk P w K mg base CX0 1 t.a_closing_of t.d_closing_of ["name"] (sp_closing_of K) := by
  refine T.F_closing_of.ok sc_closing_of (len_closing_of K) (fun cdv A outer s H vs Q E hr h => ⟨R_closing_of K, ?_, rd_closing_of h⟩)
  have S := sc_closing_of
  refine pss_one ?_
  exact (ps_ret (pe_fs (pv 0)))
theorem ok_is_text (T : Txt K mg t) : FnOk P w K mg base CX0 1 t.a_is_text t.d_is_text ["part"] (sp_is_text K) := by
  refine T.F_is_text.ok sc_is_text (len_is_text K) (fun cdv A outer s H vs Q E hr h => ⟨R_is_text K, ?_, rd_is_text h⟩)
  have S := sc_is_text
  refine pss_one ?_
  exact (ps_ret (pe_callB call_isinstanceA rfl T.z_isinstance boot_isinstance (pa_cons (pv 0) (pa_cons (pe_bltn rfl T.z_str boot_str rfl) pa_nil))))
theorem ok_name_of (T : Txt K mg t) : FnOk P w K mg base CX0 1 t.a_name_of t.d_name_of ["tree"] (sp_name_of K) := by
  refine T.F_name_of.ok sc_name_of (len_name_of K) (fun cdv A outer s H vs Q E hr h => ⟨R_name_of K, ?_, rd_name_of h⟩)
  have S := sc_name_of
  refine pss_one ?_
  exact (ps_ret (pe_ix (ix_any' (hu_of hr)) (pv 0) pe_int (fun _ _ => rfl)))
theorem ok__law_cell_at (T : Txt K mg t) : FnOk P w K mg base CX0 1 t.a__law_cell_at t.d__law_cell_at ["_law_script", "_law_k"] (sp__law_cell_at K) := by
  refine T.F__law_cell_at.ok sc__law_cell_at (len__law_cell_at K) (fun cdv A outer s H vs Q E hr h => ⟨R__law_cell_at K, ?_, rd__law_cell_at h⟩)
  have S := sc__law_cell_at
  refine pss_cons ?_ ?_
  · refine ps_if ?_ ?_ ?_
    · exact (pt_cmpR op_ltA (pv 1) (pe_callB call_lenA rfl T.z_len boot_len (pa_cons (pv 0) pa_nil)) (nomark _))
    · refine pss_one ?_
      exact (ps_ret (pe_ix (ix_any' (hu_of hr)) (pv 0) (pv 1) (fun _ _ => rfl)))
    · exact pss_nil
  refine pss_one ?_
  exact (ps_ret pe_int)
theorem ok__law_mixed (T : Txt K mg t) : FnOk P w K mg base CX0 1 t.a__law_mixed t.d__law_mixed ["_law_cell"] (sp__law_mixed K) := by
  refine T.F__law_mixed.ok sc__law_mixed (len__law_mixed K) (fun cdv A outer s H vs Q E hr h => ⟨R__law_mixed K, ?_, rd__law_mixed h⟩)
  have S := sc__law_mixed
  refine pss_cons ?_ ?_
  · refine ps_set (i := 1) S.nd rfl (Or.inl rfl) ?_ rfl ?_
    · exact (pe_op op_mod (pe_op op_mulA (pe_op op_addA (pe_op op_mod (pe_op op_fdiv (pv 0) pe_int) pe_int) pe_int) pe_int) pe_int)
    · walk_at "or"
  refine pss_one ?_
  exact (ps_ret (pe_op op_mod (pe_op op_addA (pe_op op_mulA (pv 1) (pv 1)) (pe_op op_mulA pe_int (pv 1))) pe_int))
theorem ok__law_take (T : Txt K mg t) : FnOk P w K mg base CX0 1 t.a__law_take t.d__law_take ["_law_pot", "_law_most"] (sp__law_take K) := by
  refine T.F__law_take.ok sc__law_take (len__law_take K) (fun cdv A outer s H vs Q E hr h => ⟨R__law_take K, ?_, rd__law_take h⟩)
  have S := sc__law_take
  refine pss_cons ?_ ?_
  · refine ps_set (i := 2) S.nd rfl (Or.inl rfl) ?_ rfl ?_
    · exact (pe_op op_mod (pe_ix (ix_any' (hu_of hr)) (pv 0) pe_int (fun _ _ => rfl)) (pv 1))
    · walk_at "or"
  refine pss_cons ?_ ?_
  · exact (ps_asg (pe_op op_fdiv (pe_ix (ix_any' (hu_of hr)) (pv 0) pe_int (fun _ _ => rfl)) (pv 1)) (pg_sub (pv 0) pe_int (set_any' (hu_of hr))))
  refine pss_one ?_
  exact (ps_ret (pv 2))
theorem ok__law_stream (T : Txt K mg t) : FnOk P w K mg base CX0 1 t.a__law_stream t.d__law_stream ["_law_cell", "_law_count"] (sp__law_stream K) := by
  refine T.F__law_stream.ok sc__law_stream (len__law_stream K) (fun cdv A outer s H vs Q E hr h => ⟨R__law_stream K, ?_, rd__law_stream h⟩)
  have S := sc__law_stream
  refine pss_cons ?_ ?_
  · refine ps_set (i := 2) S.nd rfl (Or.inl rfl) ?_ rfl ?_
    · exact (pe_lst pa_nil)
    · walk_at "or"
  refine pss_cons ?_ ?_
  · refine ps_set (i := 3) S.nd rfl (Or.inl rfl) ?_ rfl ?_
    · exact (pe_op op_fdiv (pv 0) pe_int)
    · walk_at "or"
  refine pss_cons ?_ ?_
  · refine ps_if ?_ ?_ ?_
    · exact (pt_cmpR (op_eqA (u190 hr)) (pe_op op_mod (pv 0) pe_int) pe_int (nomark _))
    · refine pss_one ?_
      refine ps_set (i := 3) S.nd rfl (Or.inl rfl) ?_ rfl ?_
      · exact (pe_op op_addA (pe_op op_mod (pv 3) pe_int) pe_int)
      · walk_at "or"
    · exact pss_nil
  refine pss_cons ?_ ?_
  · refine ps_for PassesOwn.never rfl ?_ ?_ ?_
    · exact (pi_range1 rfl T.z_range (pa_cons (pv 1) pa_nil))
    · exact (pg_name (i := 4) S.nd rfl (Or.inl rfl))
    · refine pss_one ?_
      refine ps_if ?_ ?_ ?_
      · exact (pt_cmpR (op_eqA (u190 hr)) (pe_op op_mod (pv 0) pe_int) pe_int (nomark _))
      · refine pss_cons ?_ ?_
        · exact (ps_expr (pe_bm PySem.F.plainAttrs_list PySem.F.slot_list_append PySem.F.type_list_append mt_append (pv 2) (pa_cons (pe_op op_mod (pv 3) (pe_op op_pow pe_int pe_int)) pa_nil)))
        refine pss_one ?_
        refine ps_set (i := 3) S.nd rfl (Or.inl rfl) ?_ rfl ?_
        · exact (pe_op op_fdiv (pv 3) (pe_op op_pow pe_int pe_int))
        · walk_at "or"
      · refine pss_cons ?_ ?_
        · refine ps_set (i := 3) S.nd rfl (Or.inl rfl) ?_ rfl ?_
          · exact (pe_op op_mod (pe_op op_addA (pe_op op_addA (pe_op op_addA (pe_op op_mulA (pv 3) (pv 3)) (pe_op op_mulA pe_int (pv 3))) (pe_op op_mulA pe_int (pv 4))) pe_int) pe_int)
          · walk_at "or"
        refine pss_one ?_
        exact (ps_expr (pe_bm PySem.F.plainAttrs_list PySem.F.slot_list_append PySem.F.type_list_append mt_append (pv 2) (pa_cons (pe_op op_fdiv (pe_op op_mod (pe_op op_addA (pe_op op_addA (pe_op op_mulA (pv 3) (pv 3)) (pe_op op_mulA pe_int (pv 3))) (pv 4)) pe_int) pe_int) pa_nil)))
  refine pss_one ?_
  exact (ps_ret (pe_rev3 (pv 2) (pe_un un_neg pe_int)))
theorem ok__law_sorts (T : Txt K mg t) : FnOk P w K mg base CX0 1 t.a__law_sorts t.d__law_sorts ["_law_xs", "_law_count"] (sp__law_sorts K) := by
  refine T.F__law_sorts.ok sc__law_sorts (len__law_sorts K) (fun cdv A outer s H vs Q E hr h => ⟨R__law_sorts K, ?_, rd__law_sorts h⟩)
  have S := sc__law_sorts
  refine pss_cons ?_ ?_
  · refine ps_set (i := 2) S.nd rfl (Or.inr rfl) ?_ rfl ?_
    · exact (pe_lst pa_nil)
    · walk_at "or"
  refine pss_cons ?_ ?_
  · refine ps_set (i := 3) S.nd rfl (Or.inr rfl) ?_ rfl ?_
    · exact pe_dnewK
    · walk_at "or"
  refine pss_cons ?_ ?_
  · refine ps_for PassesOwn.never rfl ?_ ?_ ?_
    · exact (pi_range1 rfl T.z_range (pa_cons (pv 1) pa_nil))
    · exact (pg_name (i := 4) S.nd rfl (Or.inl rfl))
    · refine pss_one ?_
      exact (ps_expr (pe_bm PySem.F.plainAttrs_list PySem.F.slot_list_append PySem.F.type_list_append mt_append (pv 2) (pa_cons (pe_ix (ix_any' (hu_of hr)) (pe_lst (by repeat (first | with_reducible refine pa_s1 ?_ | with_reducible exact pa_s0))) (pe_op op_mod (pe_bm0 PySem.F.plainAttrs_list PySem.F.slot_list_pop PySem.F.type_list_pop mt_pop (pv 0)) pe_int) (fun _ _ => rfl)) pa_nil)))
  refine pss_cons ?_ ?_
  · refine ps_for PassesOwn.never rfl ?_ ?_ ?_
    · exact (pi_revrange rfl T.z_reversed rfl T.z_range (pa_cons (pv 1) pa_nil))
    · exact (pg_name (i := 4) S.nd rfl (Or.inl rfl))
    · refine pss_one ?_
      refine ps_if ?_ ?_ ?_
      · exact (pt_cmpR (op_eqA (u190 hr)) (pe_ix (ix_any' (hu_of hr)) (pv 2) (pv 4) (fun _ _ => rfl)) pe_str (nomark _))
      · refine pss_cons ?_ ?_
        · exact (ps_setC (i := 5) S.nd rfl rfl rfl (comp_scope (osc := defScope s__law_sorts) (ON := ["_law_xs", "_law_count", "_law_sorts_here", "_law_frames", "_law_k", "_law_able"]) (N := ["_law_frames", "_law_sorts_here", "_law_j"]) (fr := [some 3, some 2, none]) (by decide +kernel) rfl rfl) (pi_range2 rfl T.z_range (pa_cons (pe_op op_addA (pv 4) pe_int) (pa_cons (pv 1) pa_nil))) (fun _ _ _ _ _ _ => (pg_name (i := 2) (show List.Nodup (["_law_frames", "_law_sorts_here", "_law_j"] : List Str) by decide +kernel) rfl (Or.inl rfl))) tg_name (fun _ _ _ _ _ _ => (pts_one (PW.pt (pw_and (pt_cmpR (op_inB (hu_of hr)) (pe_ix (ix_any' (hu_of hr)) (pv 1) (pv 2) (fun _ _ => rfl)) (pe_tup (pa_cons pe_str (pa_cons pe_str pa_nil))) (by with_unfolding_all rfl)) (pw_and1 (pt_cmpR (op_notinB (hu_of hr)) (pv 2) (pv 0) (by with_unfolding_all rfl))))))) (fun _ _ _ _ _ _ => (pv 2)))
        refine pss_one ?_
        refine ps_if ?_ ?_ ?_
        · exact (pt_cmpR (op_eqA (u190 hr)) (pv 5) (pe_lst pa_nil) (nomark _))
        · refine pss_one ?_
          exact (ps_asg pe_str (pg_sub (pv 2) (pv 4) (set_any' (hu_of hr))))
        · refine pss_one ?_
          exact (ps_asg (pv 4) (pg_sub (pv 3) (pe_ix (ix_any' (hu_of hr)) (pv 5) (pe_op op_mod (pe_bm0 PySem.F.plainAttrs_list PySem.F.slot_list_pop PySem.F.type_list_pop mt_pop (pv 0)) (pe_callB call_lenA rfl T.z_len boot_len (pa_cons (pv 5) pa_nil))) (fun _ _ => rfl)) (set_any' (hu_of hr))))
      · exact pss_nil
  refine pss_one ?_
  exact (ps_ret (pe_tup (pa_cons (pv 2) (pa_cons (pv 3) pa_nil))))
theorem ok__law_picked (T : Txt K mg t) : FnOk P w K mg base CX0 1 t.a__law_picked t.d__law_picked ["_law_names_here", "_law_x"] (sp__law_picked K) := by
  refine T.F__law_picked.ok sc__law_picked (len__law_picked K) (fun cdv A outer s H vs Q E hr h => ⟨R__law_picked K, ?_, rd__law_picked h⟩)
  have S := sc__law_picked
  refine pss_cons ?_ ?_
  · refine ps_set (i := 2) S.nd rfl (Or.inl rfl) ?_ rfl ?_
    · exact (pe_lst pa_nil)
    · walk_at "or"
  refine pss_cons ?_ ?_
  · refine ps_for PassesOwn.never rfl ?_ ?_ ?_
    · exact (pi_any (pv 0))
    · exact (pg_name (i := 3) S.nd rfl (Or.inl rfl))
    · refine pss_cons ?_ ?_
      · refine ps_if ?_ ?_ ?_
        · exact (pt_cmpR (op_eqA (u190 hr)) (pe_op op_mod (pv 1) pe_int) pe_int (nomark _))
        · refine pss_one ?_
          exact (ps_expr (pe_bm PySem.F.plainAttrs_list PySem.F.slot_list_append PySem.F.type_list_append mt_append (pv 2) (pa_cons (pv 3) pa_nil)))
        · exact pss_nil
      refine pss_one ?_
      refine ps_set (i := 1) S.nd rfl (Or.inl rfl) ?_ rfl ?_
      · exact (pe_op op_fdiv (pv 1) pe_int)
      · walk_at "or"
  refine pss_one ?_
  exact (ps_ret (pe_callTy call_tupleA rfl T.z_tuple boot_tuple (pa_cons (pe_callB call_sortedA rfl T.z_sorted boot_sorted (pa_cons (pv 2) pa_nil)) pa_nil)))
theorem ok__law_told_by (T : Txt K mg t) : FnOk P w K mg base CX0 1 t.a__law_told_by t.d__law_told_by ["_law_x"] (sp__law_told_by K) := by
  refine T.F__law_told_by.ok sc__law_told_by (len__law_told_by K) (fun cdv A outer s H vs Q E hr h => ⟨R__law_told_by K, ?_, rd__law_told_by h⟩)
  have S := sc__law_told_by
  refine pss_cons ?_ ?_
  · refine ps_set (i := 1) ?_ ?_ ?_ ?_ ?_ ?_
    · exact S.nd
    · rfl
    · exact (Or.inl rfl)
    · refine pe_lst ?_
      with_reducible refine pa_s1 ?_
      with_reducible refine pa_s1 ?_
      with_reducible refine pa_s1 ?_
      with_reducible refine pa_s1 ?_
      with_reducible refine pa_s1 ?_
      with_reducible refine pa_s1 ?_
      with_reducible refine pa_s1 ?_
      with_reducible refine pa_s1 ?_
      with_reducible refine pa_s1 ?_
      with_reducible refine pa_s1 ?_
      with_reducible refine pa_s1 ?_
      with_reducible refine pa_s1 ?_
      with_reducible refine pa_s1 ?_
      with_reducible refine pa_s1 ?_
      with_reducible refine pa_s1 ?_
      with_reducible refine pa_s1 ?_
      exact pa_s0
    · exact rfl
    · walk_at "or"
  refine pss_one ?_
  refine ps_ret ?_
  refine pe_op op_addA ?_ ?_
  · exact (pe_ix (ix_any' (hu_of hr)) (pv 1) (pe_op op_mod (pv 0) pe_int) (fun _ _ => rfl))
  · exact (pe_ix (ix_any' (hu_of hr)) (pe_lst (pa_cons pe_str (pa_cons pe_str (pa_cons pe_str (pa_cons pe_str pa_nil))))) (pe_op op_mod (pe_op op_fdiv (pv 0) pe_int) pe_int) (fun _ _ => rfl))
theorem ok__law_escaped (T : Txt K mg t) : FnOk P w K mg base CX0 1 t.a__law_escaped t.d__law_escaped ["_law_text"] (sp__law_escaped K) := by
  refine T.F__law_escaped.ok sc__law_escaped (len__law_escaped K) (fun cdv A outer s H vs Q E hr h => ⟨R__law_escaped K, ?_, rd__law_escaped h⟩)
  have S := sc__law_escaped
  refine pss_cons ?_ ?_
  · refine ps_set (i := 1) S.nd rfl (Or.inl rfl) ?_ rfl ?_
    · exact pe_str
    · walk_at "or"
  refine pss_cons ?_ ?_
  · refine ps_for PassesOwn.never rfl ?_ ?_ ?_
    · exact (pi_strs (pv 0))
    · exact (pg_name (i := 2) S.nd rfl (Or.inl rfl))
    · refine pss_one ?_
      refine ps_if ?_ ?_ ?_
      · exact (pt_cmpR (op_eqA (u190 hr)) (pv 2) pe_str (nomark _))
      · refine pss_one ?_
        refine ps_set (i := 1) S.nd rfl (Or.inl rfl) ?_ rfl ?_
        · exact (pe_op op_addA (pv 1) pe_str)
        · walk_at "or"
      · refine pss_one ?_
        refine ps_if ?_ ?_ ?_
        · exact (pt_cmpR (op_eqA (u190 hr)) (pv 2) pe_str (nomark _))
        · refine pss_one ?_
          refine ps_set (i := 1) S.nd rfl (Or.inl rfl) ?_ rfl ?_
          · exact (pe_op op_addA (pv 1) pe_str)
          · walk_at "or"
        · refine pss_one ?_
          refine ps_set (i := 1) S.nd rfl (Or.inl rfl) ?_ rfl ?_
          · exact (pe_op op_addA (pv 1) (pv 2))
          · walk_at "or"
  refine pss_one ?_
  exact (ps_ret (pv 1))
theorem ok_sort_of (T : Txt K mg t) : FnOk P w K mg base CX0 2 t.a_sort_of t.d_sort_of ["book", "name"] (sp_sort_of K) := by
  refine T.F_sort_of.ok sc_sort_of (len_sort_of K) (fun cdv A outer s H vs Q E hr h => ⟨R_sort_of K, ?_, rd_sort_of h⟩)
  have S := sc_sort_of
  refine pss_cons ?_ ?_
  · refine ps_set (i := 2) S.nd rfl (Or.inl rfl) ?_ rfl ?_
    · exact (pe_call (ok_row_of T) (hr.mono (by walk_at "le")) rfl T.m_row_of T.F_row_of.kp T.b_row_of .nil pass0 (pa_cons (pv 0) (pa_cons (pv 1) pa_nil)))
    · walk_at "or"
  refine pss_one ?_
  exact (ps_ret (pe_ifExp (pt_cmpR op_isA (pv 2) pe_non (nomark _)) pe_non (pe_ix (ix_any' (hu_of hr)) (pv 2) (pe_glob rfl T.g_SORT.1 T.g_SORT.2) (fun _ _ => rfl))))
theorem ok_parts_of (T : Txt K mg t) : FnOk P w K mg base CX0 2 t.a_parts_of t.d_parts_of ["part"] (sp_parts_of K) := by
  refine T.F_parts_of.ok sc_parts_of (len_parts_of K) (fun cdv A outer s H vs Q E hr h => ⟨R_parts_of K, ?_, rd_parts_of h⟩)
  have S := sc_parts_of
  refine pss_one ?_
  exact (ps_ret (pe_ifExp (pt_val (pe_call (ok_is_text T) (hr.mono (by walk_at "le")) rfl T.m_is_text T.F_is_text.kp T.b_is_text .nil pass0 (pa_cons (pv 0) pa_nil))) (pe_tup pa_nil) (pe_ix (ix_any' (hu_of hr)) (pv 0) pe_int (fun _ _ => rfl))))
theorem ok_to_write (T : Txt K mg t) : FnOk P w K mg base CX0 2 t.a_to_write t.d_to_write ["parts"] (sp_to_write K) := by
  refine T.F_to_write.ok sc_to_write (len_to_write K) (fun cdv A outer s H vs Q E hr h => ⟨R_to_write K, ?_, rd_to_write h⟩)
  have S := sc_to_write
  refine pss_one ?_
  refine ps_ret ?_
  exact (pe_comp rfl (comp_scope (osc := defScope s_to_write) (ON := ["parts"]) (N := ["part"]) (fr := [none]) (by decide +kernel) rfl rfl) (pi_revT rfl T.z_reversed (pa_cons (pv 0) pa_nil)) (fun _ _ _ _ _ _ => (pg_name (i := 0) (show List.Nodup (["part"] : List Str) by decide +kernel) rfl (Or.inl rfl))) tg_name (fun _ _ _ _ _ _ => pts_nil) (fun _ _ _ _ _ _ => (pe_ifExp (pt_val (pe_call (ok_is_text T) (hr.mono (by walk_at "le")) rfl T.m_is_text T.F_is_text.kp T.b_is_text .nil pass0 (pa_cons (pv 0) pa_nil))) (pe_call (ok_escaped T) (hr.mono (by walk_at "le")) rfl T.m_escaped T.F_escaped.kp T.b_escaped .nil pass0 (pa_cons (pv 0) pa_nil)) (pv 0))))
theorem ok__law_any_names (T : Txt K mg t) : FnOk P w K mg base CX0 2 t.a__law_any_names t.d__law_any_names ["_law_pot", "_law_count"] (sp__law_any_names K) := by
  refine T.F__law_any_names.ok sc__law_any_names (len__law_any_names K) (fun cdv A outer s H vs Q E hr h => ⟨R__law_any_names K, ?_, rd__law_any_names h⟩)
  have S := sc__law_any_names
  refine pss_cons ?_ ?_
  · refine ps_set (i := 2) S.nd rfl (Or.inr rfl) ?_ rfl ?_
    · exact pe_str
    · walk_at "or"
  refine pss_cons ?_ ?_
  · refine ps_set (i := 3) S.nd rfl (Or.inl rfl) ?_ rfl ?_
    · exact pe_dnewK
    · walk_at "or"
  refine pss_cons ?_ ?_
  · refine ps_for PassesOwn.never rfl ?_ ?_ ?_
    · exact (pi_range1 rfl T.z_range (pa_cons (pv 1) pa_nil))
    · exact (pg_name (i := 4) S.nd rfl (Or.inl rfl))
    · refine pss_cons ?_ ?_
      · refine ps_set (i := 5) S.nd rfl (Or.inl rfl) ?_ rfl ?_
        · exact (pe_bm PySem.F.plainAttrs_str PySem.F.slot_str_join PySem.F.type_str_join mt_join pe_str (pa_cons (pe_comp rfl (comp_scope (osc := defScope s__law_any_names) (ON := ["_law_pot", "_law_count", "_law_letters", "_law_listed", "_law_k", "_law_name"]) (N := ["_law_letters", "_law_pot", "_law_j"]) (fr := [some 2, some 0, none]) (by decide +kernel) rfl rfl) (pi_range1 rfl T.z_range (pa_cons (pe_op op_addA pe_int (pe_call (ok__law_take T) (hr.mono (by walk_at "le")) rfl T.m__law_take T.F__law_take.kp T.b__law_take .nil pass0 (pa_cons (pv 0) (pa_cons pe_int pa_nil)))) pa_nil)) (fun _ _ _ _ _ _ => (pg_name (i := 2) (show List.Nodup (["_law_letters", "_law_pot", "_law_j"] : List Str) by decide +kernel) rfl (Or.inl rfl))) tg_name (fun _ _ _ _ _ _ => pts_nil) (fun _ _ _ _ _ _ => (pe_ix (ix_any' (hu_of hr)) (pv 0) (pe_call (ok__law_take T) (hr.mono (by walk_at "le")) rfl T.m__law_take T.F__law_take.kp T.b__law_take .nil pass0 (pa_cons (pv 1) (pa_cons pe_int pa_nil))) (fun _ _ => rfl)))) pa_nil))
        · walk_at "or"
      refine pss_one ?_
      exact (ps_asg pe_bl (pg_sub (pv 3) (pe_ix (ix_any' (hu_of hr)) (pe_lst (pa_cons (pv 5) (pa_cons (pe_op op_addA (pv 5) pe_str) pa_nil))) (pe_callTy call_intA rfl T.z_int boot_int (pa_cons (pe_cmpR (op_inB (hu_of hr)) (pv 5) (pe_tup (pa_cons pe_str (pa_cons pe_str pa_nil))) (by with_unfolding_all rfl)) pa_nil)) (fun _ _ => rfl)) (set_any' (hu_of hr))))
  refine pss_one ?_
  exact (ps_ret (pe_callTy (call_list_keys rfl) rfl T.z_list boot_list (pa_cons (pv 3) pa_nil)))
theorem ok__law_signs_by (T : Txt K mg t) : FnOk P w K mg base CX0 2 t.a__law_signs_by t.d__law_signs_by ["_law_pot", "_law_most"] (sp__law_signs_by K) := by
  refine T.F__law_signs_by.ok sc__law_signs_by (len__law_signs_by K) (fun cdv A outer s H vs Q E hr h => ⟨R__law_signs_by K, ?_, rd__law_signs_by h⟩)
  have S := sc__law_signs_by
  refine pss_cons ?_ ?_
  · refine ps_set (i := 2) S.nd rfl (Or.inr rfl) ?_ rfl ?_
    · exact pe_str
    · walk_at "or"
  refine pss_cons ?_ ?_
  · refine ps_set (i := 2) S.nd rfl (Or.inr rfl) ?_ rfl ?_
    · exact (pe_op op_addA (pv 2) pe_str)
    · walk_at "or"
  refine pss_one ?_
  refine ps_ret ?_
  exact (pe_bm PySem.F.plainAttrs_str PySem.F.slot_str_join PySem.F.type_str_join mt_join pe_str (pa_cons (pe_comp rfl (comp_scope (osc := defScope s__law_signs_by) (ON := ["_law_pot", "_law_most", "_law_some"]) (N := ["_law_some", "_law_pot", "_law_k"]) (fr := [some 2, some 0, none]) (by decide +kernel) rfl rfl) (pi_range1 rfl T.z_range (pa_cons (pe_call (ok__law_take T) (hr.mono (by walk_at "le")) rfl T.m__law_take T.F__law_take.kp T.b__law_take .nil pass0 (pa_cons (pv 0) (pa_cons (pe_op op_addA (pv 1) pe_int) pa_nil))) pa_nil)) (fun _ _ _ _ _ _ => (pg_name (i := 2) (show List.Nodup (["_law_some", "_law_pot", "_law_k"] : List Str) by decide +kernel) rfl (Or.inl rfl))) tg_name (fun _ _ _ _ _ _ => pts_nil) (fun _ _ _ _ _ _ => (pe_ix (ix_any' (hu_of hr)) (pv 0) (pe_call (ok__law_take T) (hr.mono (by walk_at "le")) rfl T.m__law_take T.F__law_take.kp T.b__law_take .nil pass0 (pa_cons (pv 1) (pa_cons (pe_callB call_lenA rfl T.z_len boot_len (pa_cons (pv 0) pa_nil)) pa_nil))) (fun _ _ => rfl)))) pa_nil))
theorem ok_behind_opening (T : Txt K mg t) : FnOk P w K mg base CX0 3 t.a_behind_opening t.d_behind_opening ["book", "tree"] (sp_behind_opening K) := by
  refine T.F_behind_opening.ok sc_behind_opening (len_behind_opening K) (fun cdv A outer s H vs Q E hr h => ⟨R_behind_opening K, ?_, rd_behind_opening h⟩)
  have S := sc_behind_opening
  refine pss_cons ?_ ?_
  · refine ps_if ?_ ?_ ?_
    · exact (pt_cmpR (op_eqA (u190 hr)) (pe_call (ok_sort_of T) (hr.mono (by walk_at "le")) rfl T.m_sort_of T.F_sort_of.kp T.b_sort_of .nil pass0 (pa_cons (pv 0) (pa_cons (pe_call (ok_name_of T) (hr.mono (by walk_at "le")) rfl T.m_name_of T.F_name_of.kp T.b_name_of .nil pass0 (pa_cons (pv 1) pa_nil)) pa_nil))) pe_str (nomark _))
    · refine pss_one ?_
      exact (ps_ret (pe_lst pa_nil))
    · exact pss_nil
  refine pss_one ?_
  refine ps_ret ?_
  refine pe_op op_addA ?_ ?_
  · refine pe_lst ?_
    refine pa_cons ?_ ?_
    · refine pe_call (ok_closing_of T) (hr.mono (by walk_at "le")) rfl T.m_closing_of T.F_closing_of.kp T.b_closing_of .nil pass0 ?_
      refine pa_cons ?_ ?_
      · exact (pe_call (ok_name_of T) (hr.mono (by walk_at "le")) rfl T.m_name_of T.F_name_of.kp T.b_name_of .nil pass0 (pa_cons (pv 1) pa_nil))
      exact pa_nil
    exact pa_nil
  · refine pe_call (ok_to_write T) (hr.mono (by walk_at "le")) rfl T.m_to_write T.F_to_write.kp T.b_to_write .nil pass0 ?_
    refine pa_cons ?_ ?_
    · exact (pe_call (ok_parts_of T) (hr.mono (by walk_at "le")) rfl T.m_parts_of T.F_parts_of.kp T.b_parts_of .nil pass0 (pa_cons (pv 1) pa_nil))
    exact pa_nil
theorem ok__law_names (T : Txt K mg t) : FnOk P w K mg base CX0 3 t.a__law_names t.d__law_names ["_law_cell", "_law_count"] (sp__law_names K) := by
  refine T.F__law_names.ok sc__law_names (len__law_names K) (fun cdv A outer s H vs Q E hr h => ⟨R__law_names K, ?_, rd__law_names h⟩)
  have S := sc__law_names
  refine pss_cons ?_ ?_
  · refine ps_if ?_ ?_ ?_
    · exact (pt_cmpR (op_eqA (u190 hr)) (pe_op op_mod (pv 0) pe_int) pe_int (nomark _))
    · refine pss_one ?_
      exact (ps_ret (pe_call (ok__law_any_names T) (hr.mono (by walk_at "le")) rfl T.m__law_any_names T.F__law_any_names.kp T.b__law_any_names .nil pass0 (pa_cons (pe_lst (pa_cons (pe_op op_fdiv (pv 0) pe_int) pa_nil)) (pa_cons (pv 1) pa_nil))))
    · exact pss_nil
  refine pss_cons ?_ ?_
  · refine ps_set (i := 0) S.nd rfl (Or.inl rfl) ?_ rfl ?_
    · exact (pe_op op_fdiv (pv 0) pe_int)
    · walk_at "or"
  refine pss_cons ?_ ?_
  · refine ps_set (i := 2) S.nd rfl (Or.inl rfl) ?_ rfl ?_
    · exact pe_str
    · walk_at "or"
  refine pss_cons ?_ ?_
  · refine ps_set (i := 3) S.nd rfl (Or.inl rfl) ?_ rfl ?_
    · exact (pe_op op_addA pe_int (pe_op op_mod (pv 0) pe_int))
    · walk_at "or"
  refine pss_cons ?_ ?_
  · refine ps_set (i := 4) S.nd rfl (Or.inl rfl) ?_ rfl ?_
    · exact (pe_op op_mod (pe_op op_fdiv (pv 0) pe_int) (pv 3))
    · walk_at "or"
  refine pss_cons ?_ ?_
  · refine ps_set (i := 5) S.nd rfl (Or.inl rfl) ?_ rfl ?_
    · exact (pe_lst pa_nil)
    · walk_at "or"
  refine pss_cons ?_ ?_
  · refine ps_for PassesOwn.never rfl ?_ ?_ ?_
    · exact (pi_range1 rfl T.z_range (pa_cons (pv 1) pa_nil))
    · exact (pg_name (i := 6) S.nd rfl (Or.inl rfl))
    · refine pss_cons ?_ ?_
      · refine ps_set (i := 7) S.nd rfl (Or.inl rfl) ?_ rfl ?_
        · exact pe_str
        · walk_at "or"
      refine pss_cons ?_ ?_
      · refine ps_for PassesOwn.never rfl ?_ ?_ ?_
        · exact (pi_range1 rfl T.z_range (pa_cons (pv 3) pa_nil))
        · exact (pg_name (i := 8) S.nd rfl (Or.inl rfl))
        · refine pss_cons ?_ ?_
          · refine ps_set (i := 9) S.nd rfl (Or.inl rfl) ?_ rfl ?_
            · exact (pe_op op_addA (pe_op op_fdiv (pv 0) (pe_op op_addA (pv 8) pe_int)) (pe_op op_mulA (pv 8) (pv 8)))
            · walk_at "or"
          refine pss_cons ?_ ?_
          · refine ps_if ?_ ?_ ?_
            · exact (pt_cmpR (op_eqA (u190 hr)) (pv 8) (pv 4) (nomark _))
            · refine pss_one ?_
              refine ps_set (i := 9) S.nd rfl (Or.inl rfl) ?_ rfl ?_
              · exact (pe_op op_addA (pv 9) (pv 6))
              · walk_at "or"
            · exact pss_nil
          refine pss_one ?_
          refine ps_set (i := 7) S.nd rfl (Or.inl rfl) ?_ rfl ?_
          · exact (pe_op op_addA (pv 7) (pe_ix (ix_any' (hu_of hr)) (pv 2) (pe_op op_mod (pv 9) pe_int) (fun _ _ => rfl)))
          · walk_at "or"
      refine pss_cons ?_ ?_
      · refine ps_if ?_ ?_ ?_
        · exact (PW.pt (pw_or (pt_cmpR (op_eqA (u190 hr)) (pv 7) pe_str (nomark _)) (pw_or1 (pt_cmpR (op_eqA (u190 hr)) (pv 7) pe_str (nomark _)))))
        · refine pss_one ?_
          refine ps_set (i := 7) S.nd rfl (Or.inl rfl) ?_ rfl ?_
          · exact (pe_op op_addA (pv 7) pe_str)
          · walk_at "or"
        · exact pss_nil
      refine pss_one ?_
      exact (ps_expr (pe_bm PySem.F.plainAttrs_list PySem.F.slot_list_append PySem.F.type_list_append mt_append (pv 5) (pa_cons (pv 7) pa_nil)))
  refine pss_cons ?_ ?_
  · refine ps_if ?_ ?_ ?_
    · exact (pt_cmpR (op_eqA (u190 hr)) (pe_op op_mod (pe_op op_fdiv (pv 0) pe_int) pe_int) pe_int (nomark _))
    · refine pss_one ?_
      exact (ps_asg (pe_op op_addA (pe_ix (ix_any' (hu_of hr)) (pv 5) (pe_un un_neg pe_int) (fun _ _ => rfl)) pe_str) (pg_sub (pv 5) pe_int (set_any' (hu_of hr))))
    · exact pss_nil
  refine pss_one ?_
  exact (ps_ret (pv 5))
theorem ok__law_tree_by (T : Txt K mg t) : FnOk P w K mg base CX0 3 t.a__law_tree_by t.d__law_tree_by ["_law_cells", "_law_names_here"] (sp__law_tree_by K) := by
  refine T.F__law_tree_by.ok sc__law_tree_by (len__law_tree_by K) (fun cdv A outer s H vs Q E hr h => ⟨R__law_tree_by K, ?_, rd__law_tree_by h⟩)
  have S := sc__law_tree_by
  refine pss_cons ?_ ?_
  · refine ps_set (i := 2) S.nd rfl (Or.inl rfl) ?_ rfl ?_
    · exact (pe_lst (pa_cons (pe_tup (pa_cons pe_str (pa_cons (pe_lst pa_nil) pa_nil))) pa_nil))
    · walk_at "or"
  refine pss_cons ?_ ?_
  · refine ps_for PassesOwn.never rfl ?_ ?_ ?_
    · exact (pi_any (pv 0))
    · exact (pg_name (i := 3) S.nd rfl (Or.inl rfl))
    · refine pss_cons ?_ ?_
      · refine ps_set (i := 4) S.nd rfl (Or.inl rfl) ?_ rfl ?_
        · refine pe_lst ?_
          refine pa_cons ?_ ?_
          · refine pe_ix ?_ ?_ ?_ ?_
            · exact ix_any' (hu_of hr)
            · refine pe_lst ?_
              refine pa_cons ?_ ?_
              · exact (pe_call (ok__law_mixed T) (hr.mono (by walk_at "le")) rfl T.m__law_mixed T.F__law_mixed.kp T.b__law_mixed .nil pass0 (pa_cons (pv 3) pa_nil))
              refine pa_cons ?_ ?_
              · exact (pe_op op_fdiv (pv 3) pe_int)
              exact pa_nil
            · exact (pe_op op_mod (pv 3) pe_int)
            · exact fun _ _ => rfl
          exact pa_nil
        · walk_at "or"
      refine pss_cons ?_ ?_
      · refine ps_set (i := 5) S.nd rfl (Or.inl rfl) ?_ rfl ?_
        · exact (pe_call (ok__law_take T) (hr.mono (by walk_at "le")) rfl T.m__law_take T.F__law_take.kp T.b__law_take .nil pass0 (pa_cons (pv 4) (pa_cons pe_int pa_nil)))
        · walk_at "or"
      refine pss_one ?_
      refine ps_if ?_ ?_ ?_
      · exact (PW.pt (pw_and (pt_cmpR op_ltA (pv 5) pe_int (nomark _)) (pw_and1 (pt_cmpR op_ltA (pe_callB call_lenA rfl T.z_len boot_len (pa_cons (pv 2) pa_nil)) pe_int (nomark _)))))
      · refine pss_one ?_
        exact (ps_expr (pe_bm PySem.F.plainAttrs_list PySem.F.slot_list_append PySem.F.type_list_append mt_append (pv 2) (pa_cons (pe_tup (pa_cons (pe_ix (ix_any' (hu_of hr)) (pv 1) (pe_call (ok__law_take T) (hr.mono (by walk_at "le")) rfl T.m__law_take T.F__law_take.kp T.b__law_take .nil pass0 (pa_cons (pv 4) (pa_cons (pe_callB call_lenA rfl T.z_len boot_len (pa_cons (pv 1) pa_nil)) pa_nil))) (fun _ _ => rfl)) (pa_cons (pe_lst pa_nil) pa_nil))) pa_nil)))
      · refine pss_one ?_
        refine ps_if ?_ ?_ ?_
        · exact (PW.pt (pw_and (pt_cmpR (op_eqA (u190 hr)) (pv 5) pe_int (nomark _)) (pw_and1 (pt_cmpR op_gtA (pe_callB call_lenA rfl T.z_len boot_len (pa_cons (pv 2) pa_nil)) pe_int (nomark _)))))
        · refine pss_cons ?_ ?_
          · exact (ps_asg (pe_bm0 PySem.F.plainAttrs_list PySem.F.slot_list_pop PySem.F.type_list_pop mt_pop (pv 2)) (pg_tup rfl (pgs_cons (pg_name (i := 6) S.nd rfl (Or.inl rfl)) (pgs_cons (pg_name (i := 7) S.nd rfl (Or.inl rfl)) pgs_nil))))
          refine pss_one ?_
          exact (ps_expr (pe_bm PySem.F.plainAttrs_list PySem.F.slot_list_append PySem.F.type_list_append mt_append (pe_ix (ix_any' (hu_of hr)) (pe_ix (ix_any' (hu_of hr)) (pv 2) (pe_un un_neg pe_int) (fun _ _ => rfl)) pe_int (fun _ _ => rfl)) (pa_cons (pe_tup (pa_cons (pv 6) (pa_cons (pe_callTy call_tupleA rfl T.z_tuple boot_tuple (pa_cons (pv 7) pa_nil)) pa_nil))) pa_nil)))
        · refine pss_one ?_
          exact (ps_expr (pe_bm PySem.F.plainAttrs_list PySem.F.slot_list_append PySem.F.type_list_append mt_append (pe_ix (ix_any' (hu_of hr)) (pe_ix (ix_any' (hu_of hr)) (pv 2) (pe_un un_neg pe_int) (fun _ _ => rfl)) pe_int (fun _ _ => rfl)) (pa_cons (pe_ix (ix_any' (hu_of hr)) (pe_lst (pa_cons (pe_call (ok__law_told_by T) (hr.mono (by walk_at "le")) rfl T.m__law_told_by T.F__law_told_by.kp T.b__law_told_by .nil pass0 (pa_cons (pe_ix (ix_any' (hu_of hr)) (pv 4) pe_int (fun _ _ => rfl)) pa_nil)) (pa_cons (pe_call (ok__law_signs_by T) (hr.mono (by walk_at "le")) rfl T.m__law_signs_by T.F__law_signs_by.kp T.b__law_signs_by .nil pass0 (pa_cons (pv 4) (pa_cons pe_int pa_nil))) pa_nil))) (pe_op op_mod (pv 3) pe_int) (fun _ _ => rfl)) pa_nil)))
  refine pss_cons ?_ ?_
  · refine ps_while PassesOwn.never ?_ ?_
    · exact (pt_cmpR op_gtA (pe_callB call_lenA rfl T.z_len boot_len (pa_cons (pv 2) pa_nil)) pe_int (nomark _))
    · refine pss_cons ?_ ?_
      · exact (ps_asg (pe_bm0 PySem.F.plainAttrs_list PySem.F.slot_list_pop PySem.F.type_list_pop mt_pop (pv 2)) (pg_tup rfl (pgs_cons (pg_name (i := 6) S.nd rfl (Or.inl rfl)) (pgs_cons (pg_name (i := 7) S.nd rfl (Or.inl rfl)) pgs_nil))))
      refine pss_one ?_
      exact (ps_expr (pe_bm PySem.F.plainAttrs_list PySem.F.slot_list_append PySem.F.type_list_append mt_append (pe_ix (ix_any' (hu_of hr)) (pe_ix (ix_any' (hu_of hr)) (pv 2) (pe_un un_neg pe_int) (fun _ _ => rfl)) pe_int (fun _ _ => rfl)) (pa_cons (pe_tup (pa_cons (pv 6) (pa_cons (pe_callTy call_tupleA rfl T.z_tuple boot_tuple (pa_cons (pv 7) pa_nil)) pa_nil))) pa_nil)))
  refine pss_one ?_
  refine ps_ret ?_
  refine pe_tup ?_
  refine pa_cons ?_ ?_
  · exact pe_str
  refine pa_cons ?_ ?_
  · exact (pe_callTy call_tupleA rfl T.z_tuple boot_tuple (pa_cons (pe_ix (ix_any' (hu_of hr)) (pe_ix (ix_any' (hu_of hr)) (pv 2) pe_int (fun _ _ => rfl)) pe_int (fun _ _ => rfl)) pa_nil))
  exact pa_nil
theorem ok_written (T : Txt K mg t) : FnOk P w K mg base CX0 4 t.a_written t.d_written ["book", "tree"] (sp_written K) := by
  refine T.F_written.ok sc_written (len_written K) (fun cdv A outer s H vs Q E hr h => ⟨R_written K, ?_, rd_written h⟩)
  have S := sc_written
  refine pss_cons ?_ ?_
  · refine ps_set (i := 2) S.nd rfl (Or.inl rfl) ?_ rfl ?_
    · exact (pe_lst pa_nil)
    · walk_at "or"
  refine pss_cons ?_ ?_
  · refine ps_set (i := 3) S.nd rfl (Or.inl rfl) ?_ rfl ?_
    · refine pe_call (ok_to_write T) (hr.mono (by walk_at "le")) rfl T.m_to_write T.F_to_write.kp T.b_to_write .nil pass0 ?_
      refine pa_cons ?_ ?_
      · exact (pe_call (ok_parts_of T) (hr.mono (by walk_at "le")) rfl T.m_parts_of T.F_parts_of.kp T.b_parts_of .nil pass0 (pa_cons (pv 1) pa_nil))
      exact pa_nil
    · walk_at "or"
  refine pss_cons ?_ ?_
  · refine ps_while PassesOwn.never ?_ ?_
    · exact (pt_cmpR op_gtA (pe_callB call_lenA rfl T.z_len boot_len (pa_cons (pv 3) pa_nil)) pe_int (nomark _))
    · refine pss_cons ?_ ?_
      · refine ps_set (i := 4) S.nd rfl (Or.inl rfl) ?_ rfl ?_
        · exact (pe_bm0 PySem.F.plainAttrs_list PySem.F.slot_list_pop PySem.F.type_list_pop mt_pop (pv 3))
        · walk_at "or"
      refine pss_one ?_
      refine ps_if ?_ ?_ ?_
      · exact (pt_val (pe_call (ok_is_text T) (hr.mono (by walk_at "le")) rfl T.m_is_text T.F_is_text.kp T.b_is_text .nil pass0 (pa_cons (pv 4) pa_nil)))
      · refine pss_one ?_
        exact (ps_expr (pe_bm PySem.F.plainAttrs_list PySem.F.slot_list_append PySem.F.type_list_append mt_append (pv 2) (pa_cons (pv 4) pa_nil)))
      · refine pss_cons ?_ ?_
        · exact (ps_expr (pe_bm PySem.F.plainAttrs_list PySem.F.slot_list_append PySem.F.type_list_append mt_append (pv 2) (pa_cons (pe_call (ok_opening_of T) (hr.mono (by walk_at "le")) rfl T.m_opening_of T.F_opening_of.kp T.b_opening_of .nil pass0 (pa_cons (pe_call (ok_name_of T) (hr.mono (by walk_at "le")) rfl T.m_name_of T.F_name_of.kp T.b_name_of .nil pass0 (pa_cons (pv 4) pa_nil)) pa_nil)) pa_nil)))
        refine pss_one ?_
        exact (ps_expr (pe_bm PySem.F.plainAttrs_list PySem.F.slot_list_extend PySem.F.type_list_extend mt_extend (pv 3) (pa_cons (pe_call (ok_behind_opening T) (hr.mono (by walk_at "le")) rfl T.m_behind_opening T.F_behind_opening.kp T.b_behind_opening .nil pass0 (pa_cons (pv 0) (pa_cons (pv 4) pa_nil))) pa_nil)))
  refine pss_one ?_
  exact (ps_ret (pe_bm PySem.F.plainAttrs_str PySem.F.slot_str_join PySem.F.type_str_join mt_join pe_str (pa_cons (pv 2) pa_nil)))
theorem ok__law_book (T : Txt K mg t) : FnOk P w K mg base CX0 4 t.a__law_book t.d__law_book ["_law_script"] (sp__law_book K) := by
  refine T.F__law_book.ok sc__law_book (len__law_book K) (fun cdv A outer s H vs Q E hr h => ⟨R__law_book K, ?_, rd__law_book h⟩)
  have S := sc__law_book
  refine pss_cons ?_ ?_
  · refine ps_set (i := 1) S.nd rfl (Or.inr rfl) ?_ rfl ?_
    · refine pe_call (ok__law_names T) (hr.mono (by walk_at "le")) rfl T.m__law_names T.F__law_names.kp T.b__law_names .nil pass0 ?_
      refine pa_cons ?_ ?_
      · exact (pe_call (ok__law_cell_at T) (hr.mono (by walk_at "le")) rfl T.m__law_cell_at T.F__law_cell_at.kp T.b__law_cell_at .nil pass0 (pa_cons (pv 0) (pa_cons pe_int pa_nil)))
      refine pa_cons ?_ ?_
      · refine pe_op op_addA ?_ ?_
        · exact pe_int
        · exact (pe_op op_mod (pe_call (ok__law_cell_at T) (hr.mono (by walk_at "le")) rfl T.m__law_cell_at T.F__law_cell_at.kp T.b__law_cell_at .nil pass0 (pa_cons (pv 0) (pa_cons pe_int pa_nil))) pe_int)
      exact pa_nil
    · walk_at "or"
  refine pss_cons ?_ ?_
  · refine ps_set (i := 2) S.nd rfl (Or.inl rfl) ?_ rfl ?_
    · exact (pe_callB call_lenA rfl T.z_len boot_len (pa_cons (pv 1) pa_nil))
    · walk_at "or"
  refine pss_cons ?_ ?_
  · refine ps_set (i := 3) S.nd rfl (Or.inl rfl) ?_ rfl ?_
    · refine pe_call (ok__law_stream T) (hr.mono (by walk_at "le")) rfl T.m__law_stream T.F__law_stream.kp T.b__law_stream .nil pass0 ?_
      refine pa_cons ?_ ?_
      · exact (pe_call (ok__law_cell_at T) (hr.mono (by walk_at "le")) rfl T.m__law_cell_at T.F__law_cell_at.kp T.b__law_cell_at .nil pass0 (pa_cons (pv 0) (pa_cons pe_int pa_nil)))
      refine pa_cons ?_ ?_
      · exact pe_int
      exact pa_nil
    · walk_at "or"
  refine pss_cons ?_ ?_
  · exact (ps_asg (pe_call (ok__law_sorts T) (hr.mono (by walk_at "le")) rfl T.m__law_sorts T.F__law_sorts.kp T.b__law_sorts .nil pass0 (pa_cons (pv 3) (pa_cons (pv 2) pa_nil))) (pg_tup rfl (pgs_cons (pg_name (i := 4) S.nd rfl (Or.inr rfl)) (pgs_cons (pg_name (i := 5) S.nd rfl (Or.inr rfl)) pgs_nil))))
  refine pss_cons ?_ ?_
  · refine ps_set (i := 6) S.nd rfl (Or.inl rfl) ?_ rfl ?_
    · exact pe_dnewK
    · walk_at "or"
  refine pss_cons ?_ ?_
  · refine ps_for PassesOwn.never rfl ?_ ?_ ?_
    · exact (pi_items (pv 5) rfl rfl)
    · exact (pg_tup rfl (pgs_cons (pg_name (i := 7) S.nd rfl (Or.inl rfl)) (pgs_cons (pg_name (i := 8) S.nd rfl (Or.inl rfl)) pgs_nil)))
    · refine pss_one ?_
      exact (ps_asg (pv 7) (pg_sub (pv 6) (pv 8) (set_any' (hu_of hr))))
  refine pss_cons ?_ ?_
  · exact (ps_setC (i := 9) S.nd rfl rfl rfl (comp_scope (osc := defScope s__law_book) (ON := ["_law_script", "_law_names_here", "_law_count", "_law_xs", "_law_sorts_here", "_law_frames", "_law_hosts", "_law_host", "_law_frame", "_law_able", "_law_free", "_law_rows", "_law_k", "_law_shuts", "_law_turn"]) (N := ["_law_names_here", "_law_sorts_here", "_law_k"]) (fr := [some 1, some 4, none]) (by decide +kernel) rfl rfl) (pi_range1 rfl T.z_range (pa_cons (pv 2) pa_nil)) (fun _ _ _ _ _ _ => (pg_name (i := 2) (show List.Nodup (["_law_names_here", "_law_sorts_here", "_law_k"] : List Str) by decide +kernel) rfl (Or.inl rfl))) tg_name (fun _ _ _ _ _ _ => (pts_one (pt_cmpR (op_inB (hu_of hr)) (pe_ix (ix_any' (hu_of hr)) (pv 1) (pv 2) (fun _ _ => rfl)) (pe_tup (pa_cons pe_str (pa_cons pe_str pa_nil))) (by with_unfolding_all rfl)))) (fun _ _ _ _ _ _ => (pe_ix (ix_any' (hu_of hr)) (pv 0) (pv 2) (fun _ _ => rfl))))
  refine pss_cons ?_ ?_
  · exact (ps_setC (i := 10) S.nd rfl rfl rfl (comp_scope (osc := defScope s__law_book) (ON := ["_law_script", "_law_names_here", "_law_count", "_law_xs", "_law_sorts_here", "_law_frames", "_law_hosts", "_law_host", "_law_frame", "_law_able", "_law_free", "_law_rows", "_law_k", "_law_shuts", "_law_turn"]) (N := ["_law_names_here", "_law_frames", "_law_sorts_here", "_law_k"]) (fr := [some 1, some 5, some 4, none]) (by decide +kernel) rfl rfl) (pi_range1 rfl T.z_range (pa_cons (pv 2) pa_nil)) (fun _ _ _ _ _ _ => (pg_name (i := 3) (show List.Nodup (["_law_names_here", "_law_frames", "_law_sorts_here", "_law_k"] : List Str) by decide +kernel) rfl (Or.inl rfl))) tg_name (fun _ _ _ _ _ _ => (pts_one (PW.pt (pw_and (pt_cmpR (op_inB (hu_of hr)) (pe_ix (ix_any' (hu_of hr)) (pv 2) (pv 3) (fun _ _ => rfl)) (pe_tup (pa_cons pe_str (pa_cons pe_str pa_nil))) (by with_unfolding_all rfl)) (pw_and1 (pt_cmpR (op_notinB (hu_of hr)) (pv 3) (pv 1) (by with_unfolding_all rfl))))))) (fun _ _ _ _ _ _ => (pe_ix (ix_any' (hu_of hr)) (pv 0) (pv 3) (fun _ _ => rfl))))
  refine pss_cons ?_ ?_
  · refine ps_set (i := 11) S.nd rfl (Or.inl rfl) ?_ rfl ?_
    · exact (pe_lst pa_nil)
    · walk_at "or"
  refine pss_cons ?_ ?_
  · refine ps_for PassesOwn.never rfl ?_ ?_ ?_
    · exact (pi_range1 rfl T.z_range (pa_cons (pv 2) pa_nil))
    · exact (pg_name (i := 12) S.nd rfl (Or.inl rfl))
    · refine pss_cons ?_ ?_
      · refine ps_set (i := 7) S.nd rfl (Or.inl rfl) ?_ rfl ?_
        · exact pe_str
        · walk_at "or"
      refine pss_cons ?_ ?_
      · refine ps_if ?_ ?_ ?_
        · exact (pt_cmpR (op_inB (hu_of hr)) (pv 12) (pv 6) (by with_unfolding_all rfl))
        · refine pss_one ?_
          refine ps_set (i := 7) S.nd rfl (Or.inl rfl) ?_ rfl ?_
          · exact (pe_ix (ix_any' (hu_of hr)) (pv 1) (pe_dget (hu_of hr) (pv 6) (pv 12) (fun _ _ => rfl)) (fun _ _ => rfl))
          · walk_at "or"
        · exact pss_nil
      refine pss_cons ?_ ?_
      · refine ps_set (i := 13) S.nd rfl (Or.inl rfl) ?_ rfl ?_
        · refine pe_call (ok__law_picked T) (hr.mono (by walk_at "le")) rfl T.m__law_picked T.F__law_picked.kp T.b__law_picked .nil pass0 ?_
          refine pa_cons ?_ ?_
          · exact (pv 10)
          refine pa_cons ?_ ?_
          · exact (pe_bm0 PySem.F.plainAttrs_list PySem.F.slot_list_pop PySem.F.type_list_pop mt_pop (pv 3))
          exact pa_nil
        · walk_at "or"
      refine pss_cons ?_ ?_
      · refine ps_if ?_ ?_ ?_
        · exact (pt_cmpR (op_inB (hu_of hr)) (pv 12) (pv 5) (by with_unfolding_all rfl))
        · refine pss_one ?_
          refine ps_set (i := 13) S.nd rfl (Or.inl rfl) ?_ rfl ?_
          · exact (pe_tup pa_nil)
          · walk_at "or"
        · exact pss_nil
      refine pss_one ?_
      exact (ps_expr (pe_bm PySem.F.plainAttrs_list PySem.F.slot_list_append PySem.F.type_list_append mt_append (pv 11) (pa_cons (pe_tup (pa_cons (pe_ix (ix_any' (hu_of hr)) (pv 1) (pv 12) (fun _ _ => rfl)) (pa_cons (pe_ix (ix_any' (hu_of hr)) (pv 4) (pv 12) (fun _ _ => rfl)) (pa_cons (pv 7) (pa_cons (pv 13) (pa_cons (pe_call (ok__law_picked T) (hr.mono (by walk_at "le")) rfl T.m__law_picked T.F__law_picked.kp T.b__law_picked .nil pass0 (pa_cons (pv 9) (pa_cons (pe_op op_addA (pe_op op_mulA (pe_bm0 PySem.F.plainAttrs_list PySem.F.slot_list_pop PySem.F.type_list_pop mt_pop (pv 3)) pe_int) pe_int) pa_nil))) pa_nil)))))) pa_nil)))
  refine pss_cons ?_ ?_
  · refine ps_set (i := 14) S.nd rfl (Or.inl rfl) ?_ rfl ?_
    · exact (pe_op op_mod (pe_bm0 PySem.F.plainAttrs_list PySem.F.slot_list_pop PySem.F.type_list_pop mt_pop (pv 3)) (pv 2))
    · walk_at "or"
  refine pss_one ?_
  exact (ps_ret (pe_callTy call_tupleA rfl T.z_tuple boot_tuple (pa_cons (pe_op op_addA (pe_slice sl_any (pv 11) (po_some (pv 14)) po_none) (pe_slice sl_any (pv 11) po_none (po_some (pv 14)))) pa_nil)))
theorem okn__law_part (T : Txt K mg t) : ∀ n : Nat, FnOk P w K mg base CX0 (2 + n) t.a__law_part t.d__law_part ["_law_book_here", "_law_part_here"] (spn__law_part n K)
  | 0 => by
    have FR : FnOk P w K mg base CX0 1 t.a__law_part t.d__law_part ["_law_book_here", "_law_part_here"] (prev__law_part K 0) := ⟨fun _ _ _ _ h => h.elim, fun _ _ _ _ _ _ _ _ _ _ _ _ _ h => h.elim⟩
    refine T.F__law_part.ok (k := 1) sc__law_part (len__law_part K 0) (fun cdv A outer s H vs Q E hr h => ⟨R__law_part K (prev__law_part K 0), ?_, rd__law_part 0 h⟩)
    have S := sc__law_part
    refine pss_cons ?_ ?_
    · refine ps_if ?_ ?_ ?_
      · exact (pt_val (pe_callB call_isinstanceA rfl T.z_isinstance boot_isinstance (pa_cons (pv 1) (pa_cons (pe_bltn rfl T.z_str boot_str rfl) pa_nil))))
      · refine pss_one ?_
        exact (ps_ret (pe_call (ok__law_escaped T) (hr.mono (by walk_at "le")) rfl T.m__law_escaped T.F__law_escaped.kp T.b__law_escaped .nil pass0 (pa_cons (pv 1) pa_nil)))
      · exact pss_nil
    refine pss_cons ?_ ?_
    · exact (ps_asg (pv 1) (pg_tup rfl (pgs_cons (pg_name (i := 2) S.nd rfl (Or.inr rfl)) (pgs_cons (pg_name (i := 3) S.nd rfl (Or.inl rfl)) pgs_nil))))
    refine pss_cons ?_ ?_
    · refine ps_if ?_ ?_ ?_
      · exact (pt_cmpR (op_inB (hu_of hr)) pe_str (pe_comp rfl (comp_scope (osc := defScope s__law_part) (ON := ["_law_book_here", "_law_part_here", "_law_name", "_law_parts"]) (N := ["_law_name", "_law_row"]) (fr := [some 2, none]) (by decide +kernel) rfl rfl) (pi_any (pv 0)) (fun _ _ _ _ _ _ => (pg_name (i := 1) (show List.Nodup (["_law_name", "_law_row"] : List Str) by decide +kernel) rfl (Or.inl rfl))) tg_name (fun _ _ _ _ _ _ => (pts_one (pt_cmpR (op_eqA (u190 hr)) (pe_ix (ix_any' (hu_of hr)) (pv 1) pe_int (fun _ _ => rfl)) (pv 0) (nomark _)))) (fun _ _ _ _ _ _ => (pe_ix (ix_any' (hu_of hr)) (pv 1) pe_int (fun _ _ => rfl)))) (by with_unfolding_all rfl))
      · refine pss_one ?_
        exact (ps_ret (pe_op op_addA (pe_op op_addA pe_str (pv 2)) pe_str))
      · exact pss_nil
    refine pss_one ?_
    refine ps_ret ?_
    refine pe_op op_addA ?_ ?_
    · refine pe_op op_addA ?_ ?_
      · refine pe_op op_addA ?_ ?_
        · refine pe_op op_addA ?_ ?_
          · exact (pe_op op_addA (pe_op op_addA pe_str (pv 2)) pe_str)
          · exact (pe_bm PySem.F.plainAttrs_str PySem.F.slot_str_join PySem.F.type_str_join mt_join pe_str (pa_cons (pe_comp rfl (comp_scope (osc := defScope s__law_part) (ON := ["_law_book_here", "_law_part_here", "_law_name", "_law_parts"]) (N := ["_law_book_here", "_law_inner"]) (fr := [some 0, none]) (by decide +kernel) rfl rfl) (pi_any (pv 3)) (fun _ _ _ _ _ _ => (pg_name (i := 1) (show List.Nodup (["_law_book_here", "_law_inner"] : List Str) by decide +kernel) rfl (Or.inl rfl))) tg_name (fun _ _ _ _ _ _ => pts_nil) (fun _ _ _ _ _ _ => (pe_call FR (hr.mono (by omega)) rfl T.m__law_part T.F__law_part.kp T.b__law_part .nil pass0 (pa_cons (pv 0) (pa_cons (pv 1) pa_nil))))) pa_nil))
        · exact pe_str
      · exact (pv 2)
    · exact pe_str
  | n + 1 => by
    have FR : FnOk P w K mg base CX0 (2 + n) t.a__law_part t.d__law_part ["_law_book_here", "_law_part_here"] (prev__law_part K (n + 1)) := okn__law_part T n
    refine T.F__law_part.ok (k := (2 + n)) sc__law_part (len__law_part K (n + 1)) (fun cdv A outer s H vs Q E hr h => ⟨R__law_part K (prev__law_part K (n + 1)), ?_, rd__law_part (n + 1) h⟩)
    have S := sc__law_part
    refine pss_cons ?_ ?_
    · refine ps_if ?_ ?_ ?_
      · exact (pt_val (pe_callB call_isinstanceA rfl T.z_isinstance boot_isinstance (pa_cons (pv 1) (pa_cons (pe_bltn rfl T.z_str boot_str rfl) pa_nil))))
      · refine pss_one ?_
        exact (ps_ret (pe_call (ok__law_escaped T) (hr.mono (by walk_at "le")) rfl T.m__law_escaped T.F__law_escaped.kp T.b__law_escaped .nil pass0 (pa_cons (pv 1) pa_nil)))
      · exact pss_nil
    refine pss_cons ?_ ?_
    · exact (ps_asg (pv 1) (pg_tup rfl (pgs_cons (pg_name (i := 2) S.nd rfl (Or.inr rfl)) (pgs_cons (pg_name (i := 3) S.nd rfl (Or.inl rfl)) pgs_nil))))
    refine pss_cons ?_ ?_
    · refine ps_if ?_ ?_ ?_
      · exact (pt_cmpR (op_inB (hu_of hr)) pe_str (pe_comp rfl (comp_scope (osc := defScope s__law_part) (ON := ["_law_book_here", "_law_part_here", "_law_name", "_law_parts"]) (N := ["_law_name", "_law_row"]) (fr := [some 2, none]) (by decide +kernel) rfl rfl) (pi_any (pv 0)) (fun _ _ _ _ _ _ => (pg_name (i := 1) (show List.Nodup (["_law_name", "_law_row"] : List Str) by decide +kernel) rfl (Or.inl rfl))) tg_name (fun _ _ _ _ _ _ => (pts_one (pt_cmpR (op_eqA (u190 hr)) (pe_ix (ix_any' (hu_of hr)) (pv 1) pe_int (fun _ _ => rfl)) (pv 0) (nomark _)))) (fun _ _ _ _ _ _ => (pe_ix (ix_any' (hu_of hr)) (pv 1) pe_int (fun _ _ => rfl)))) (by with_unfolding_all rfl))
      · refine pss_one ?_
        exact (ps_ret (pe_op op_addA (pe_op op_addA pe_str (pv 2)) pe_str))
      · exact pss_nil
    refine pss_one ?_
    refine ps_ret ?_
    refine pe_op op_addA ?_ ?_
    · refine pe_op op_addA ?_ ?_
      · refine pe_op op_addA ?_ ?_
        · refine pe_op op_addA ?_ ?_
          · exact (pe_op op_addA (pe_op op_addA pe_str (pv 2)) pe_str)
          · exact (pe_bm PySem.F.plainAttrs_str PySem.F.slot_str_join PySem.F.type_str_join mt_join pe_str (pa_cons (pe_comp rfl (comp_scope (osc := defScope s__law_part) (ON := ["_law_book_here", "_law_part_here", "_law_name", "_law_parts"]) (N := ["_law_book_here", "_law_inner"]) (fr := [some 0, none]) (by decide +kernel) rfl rfl) (pi_any (pv 3)) (fun _ _ _ _ _ _ => (pg_name (i := 1) (show List.Nodup (["_law_book_here", "_law_inner"] : List Str) by decide +kernel) rfl (Or.inl rfl))) tg_name (fun _ _ _ _ _ _ => pts_nil) (fun _ _ _ _ _ _ => (pe_call FR (hr.mono (by omega)) rfl T.m__law_part T.F__law_part.kp T.b__law_part .nil pass0 (pa_cons (pv 0) (pa_cons (pv 1) pa_nil))))) pa_nil))
        · exact pe_str
      · exact (pv 2)
    · exact pe_str
theorem ok__law_part (T : Txt K mg t) : FnOk P w K mg base CX0 47 t.a__law_part t.d__law_part ["_law_book_here", "_law_part_here"] (sp__law_part K) := okn__law_part T 45
theorem ok_law (T : Txt K mg t) : FnOk P w K mg base CX0 48 t.a_law t.d_law ["_law_script"] (sp_law K) := by
  refine T.F_law.ok sc_law (len_law K) (fun cdv A outer s H vs Q E hr h => ⟨R_law K, ?_, rd_law h⟩)
  have S := sc_law
  refine pss_cons ?_ ?_
  · refine ps_set (i := 1) S.nd rfl (Or.inr rfl) ?_ rfl ?_
    · exact (pe_call (ok__law_book T) (hr.mono (by walk_at "le")) rfl T.m__law_book T.F__law_book.kp T.b__law_book .nil pass0 (pa_cons (pv 0) pa_nil))
    · walk_at "or"
  refine pss_cons ?_ ?_
  · refine ps_set (i := 2) S.nd rfl (Or.inl rfl) ?_ rfl ?_
    · refine pe_call (ok__law_tree_by T) (hr.mono (by walk_at "le")) rfl T.m__law_tree_by T.F__law_tree_by.kp T.b__law_tree_by .nil pass0 ?_
      refine pa_cons ?_ ?_
      · exact (pe_slice sl_any (pv 0) (po_some pe_int) (po_some pe_int))
      refine pa_cons ?_ ?_
      · exact (pe_comp rfl (comp_scope (osc := defScope s_law) (ON := ["_law_script", "_law_book_here", "_law_tree", "_law_due", "_law_told"]) (N := ["_law_row"]) (fr := [none]) (by decide +kernel) rfl rfl) (pi_any (pv 1)) (fun _ _ _ _ _ _ => (pg_name (i := 0) (show List.Nodup (["_law_row"] : List Str) by decide +kernel) rfl (Or.inl rfl))) tg_name (fun _ _ _ _ _ _ => pts_nil) (fun _ _ _ _ _ _ => (pe_ix (ix_any' (hu_of hr)) (pv 0) pe_int (fun _ _ => rfl))))
      exact pa_nil
    · walk_at "or"
  refine pss_cons ?_ ?_
  · refine ps_set (i := 3) S.nd rfl (Or.inl rfl) ?_ rfl ?_
    · exact (pe_bm PySem.F.plainAttrs_str PySem.F.slot_str_join PySem.F.type_str_join mt_join pe_str (pa_cons (pe_comp rfl (comp_scope (osc := defScope s_law) (ON := ["_law_script", "_law_book_here", "_law_tree", "_law_due", "_law_told"]) (N := ["_law_book_here", "_law_part_here"]) (fr := [some 1, none]) (by decide +kernel) rfl rfl) (pi_any (pe_ix (ix_any' (hu_of hr)) (pv 2) pe_int (fun _ _ => rfl))) (fun _ _ _ _ _ _ => (pg_name (i := 1) (show List.Nodup (["_law_book_here", "_law_part_here"] : List Str) by decide +kernel) rfl (Or.inl rfl))) tg_name (fun _ _ _ _ _ _ => pts_nil) (fun _ _ _ _ _ _ => (pe_call (ok__law_part T) (hr.mono (by walk_at "le")) rfl T.m__law_part T.F__law_part.kp T.b__law_part .nil pass0 (pa_cons (pv 0) (pa_cons (pv 1) pa_nil))))) pa_nil))
    · walk_at "or"
  refine pss_cons ?_ ?_
  · refine ps_set (i := 4) S.nd rfl (Or.inl rfl) ?_ rfl ?_
    · exact (pe_call (ok_written T) (hr.mono (by walk_at "le")) rfl T.m_written T.F_written.kp T.b_written .nil pass0 (pa_cons (pv 1) (pa_cons (pv 2) pa_nil)))
    · walk_at "or"
  refine pss_cons ?_ ?_
  · refine ps_if ?_ ?_ ?_
    · exact (PW.pt (pw_or (pt_not (pt_val (pe_callB call_isinstanceA rfl T.z_isinstance boot_isinstance (pa_cons (pv 4) (pa_cons (pe_bltn rfl T.z_str boot_str rfl) pa_nil))))) (pw_or (pt_cmpR (op_neA (u190 hr)) (pv 4) (pv 3) (nomark _)) (pw_or1 (pt_cmpR (op_neA (u190 hr)) (pe_call (ok_written T) (hr.mono (by walk_at "le")) rfl T.m_written T.F_written.kp T.b_written .nil pass0 (pa_cons (pv 1) (pa_cons (pe_tup (pa_cons pe_str (pa_cons (pe_tup pa_nil) pa_nil))) pa_nil))) pe_str (nomark _))))))
    · refine pss_one ?_
      exact (ps_ret pe_bl)
    · exact pss_nil
  refine pss_one ?_
  exact (ps_ret (pe_cmpR (op_eqA (u190 hr)) (pe_call (ok_written T) (hr.mono (by walk_at "le")) rfl T.m_written T.F_written.kp T.b_written .nil pass0 (pa_cons (pv 1) (pa_cons (pv 2) pa_nil))) (pv 3) (nomark _)))
end
theorem ln1 {us : List Value} (h : us.length = 1) : ∃ x0, us = [x0] := by
  match us, h with
  | [x0], _ => exact ⟨x0, rfl⟩
theorem ln2 {us : List Value} (h : us.length = 2) : ∃ x0 x1, us = [x0, x1] := by
  match us, h with
  | [x0, x1], _ => exact ⟨x0, x1, rfl⟩
theorem all_mk {l : PySem.W.OpenLaw} {w : World} {K : PySem.W.Frag} {h : Heap} {mg : Str → Option Value} {fa f0 f1 f2 f3 f4 f5 f6 f7 f8 f9 f10 f11 f12 f13 f14 f15 f16 f17 f18 f19 f20 f21 f22 f23 f24 f25 : Addr} (X : K.In h) (G : h.Ns mainGlobals mg) (hfa : mg "law" = some (.ref fa))
    {od0 an0 od1 an1 od2 an2 od3 an3 od4 an4 od5 an5 od6 an6 od7 an7 od8 an8 od9 an9 od10 an10 od11 an11 od12 an12 od13 an13 od14 an14 od15 an15 od16 an16 od17 an17 od18 an18 od19 an19 od20 an20 od21 an21 od22 an22 od23 an23 od24 an24 od25 an25 : Option Addr} {sl0 sl1 sl2 sl3 sl4 sl5 sl6 sl7 sl8 sl9 sl10 sl11 sl12 sl13 sl14 sl15 sl16 sl17 sl18 sl19 sl20 sl21 sl22 sl23 sl24 sl25 : Array (Option Value)} {oc0 kV0 dc0 pm0 cd0 ct0 oc1 kV1 dc1 pm1 cd1 ct1 oc2 kV2 dc2 pm2 cd2 ct2 oc3 kV3 dc3 pm3 cd3 ct3 oc4 kV4 dc4 pm4 cd4 ct4 oc5 kV5 dc5 pm5 cd5 ct5 oc6 kV6 dc6 pm6 cd6 ct6 oc7 kV7 dc7 pm7 cd7 ct7 oc8 kV8 dc8 pm8 cd8 ct8 oc9 kV9 dc9 pm9 cd9 ct9 oc10 kV10 dc10 pm10 cd10 ct10 oc11 kV11 dc11 pm11 cd11 ct11 oc12 kV12 dc12 pm12 cd12 ct12 oc13 kV13 dc13 pm13 cd13 ct13 oc14 kV14 dc14 pm14 cd14 ct14 oc15 kV15 dc15 pm15 cd15 ct15 oc16 kV16 dc16 pm16 cd16 ct16 oc17 kV17 dc17 pm17 cd17 ct17 oc18 kV18 dc18 pm18 cd18 ct18 oc19 kV19 dc19 pm19 cd19 ct19 oc20 kV20 dc20 pm20 cd20 ct20 oc21 kV21 dc21 pm21 cd21 ct21 oc22 kV22 dc22 pm22 cd22 ct22 oc23 kV23 dc23 pm23 cd23 ct23 oc24 kV24 dc24 pm24 cd24 ct24 oc25 kV25 dc25 pm25 cd25 ct25 : Value}
    {k_NAME k_SORT : Tok}
    (a0 : PySem.W.nsIn K mainGlobals "row_of" = some (some (.ref f0))) (l0 : K.lookup f0 = some ⟨oc0, od0, .func (PySem.W.fnOf "row_of" "row_of" (defArgs s_row_of) (defBody s_row_of) (defScope s_row_of) .none kV0 dc0 pm0 an0 cd0 ct0), sl0⟩) (c0 : PySem.W.codeIn K cd0 "row_of" = true) (k0 : PySem.W.keepIn K (.ref f0) = true)
    (a1 : PySem.W.nsIn K mainGlobals "sort_of" = some (some (.ref f1))) (l1 : K.lookup f1 = some ⟨oc1, od1, .func (PySem.W.fnOf "sort_of" "sort_of" (defArgs s_sort_of) (defBody s_sort_of) (defScope s_sort_of) .none kV1 dc1 pm1 an1 cd1 ct1), sl1⟩) (c1 : PySem.W.codeIn K cd1 "sort_of" = true) (k1 : PySem.W.keepIn K (.ref f1) = true)
    (a2 : PySem.W.nsIn K mainGlobals "escaped" = some (some (.ref f2))) (l2 : K.lookup f2 = some ⟨oc2, od2, .func (PySem.W.fnOf "escaped" "escaped" (defArgs s_escaped) (defBody s_escaped) (defScope s_escaped) .none kV2 dc2 pm2 an2 cd2 ct2), sl2⟩) (c2 : PySem.W.codeIn K cd2 "escaped" = true) (k2 : PySem.W.keepIn K (.ref f2) = true)
    (a3 : PySem.W.nsIn K mainGlobals "opening_of" = some (some (.ref f3))) (l3 : K.lookup f3 = some ⟨oc3, od3, .func (PySem.W.fnOf "opening_of" "opening_of" (defArgs s_opening_of) (defBody s_opening_of) (defScope s_opening_of) .none kV3 dc3 pm3 an3 cd3 ct3), sl3⟩) (c3 : PySem.W.codeIn K cd3 "opening_of" = true) (k3 : PySem.W.keepIn K (.ref f3) = true)
    (a4 : PySem.W.nsIn K mainGlobals "closing_of" = some (some (.ref f4))) (l4 : K.lookup f4 = some ⟨oc4, od4, .func (PySem.W.fnOf "closing_of" "closing_of" (defArgs s_closing_of) (defBody s_closing_of) (defScope s_closing_of) .none kV4 dc4 pm4 an4 cd4 ct4), sl4⟩) (c4 : PySem.W.codeIn K cd4 "closing_of" = true) (k4 : PySem.W.keepIn K (.ref f4) = true)
    (a5 : PySem.W.nsIn K mainGlobals "is_text" = some (some (.ref f5))) (l5 : K.lookup f5 = some ⟨oc5, od5, .func (PySem.W.fnOf "is_text" "is_text" (defArgs s_is_text) (defBody s_is_text) (defScope s_is_text) .none kV5 dc5 pm5 an5 cd5 ct5), sl5⟩) (c5 : PySem.W.codeIn K cd5 "is_text" = true) (k5 : PySem.W.keepIn K (.ref f5) = true)
    (a6 : PySem.W.nsIn K mainGlobals "name_of" = some (some (.ref f6))) (l6 : K.lookup f6 = some ⟨oc6, od6, .func (PySem.W.fnOf "name_of" "name_of" (defArgs s_name_of) (defBody s_name_of) (defScope s_name_of) .none kV6 dc6 pm6 an6 cd6 ct6), sl6⟩) (c6 : PySem.W.codeIn K cd6 "name_of" = true) (k6 : PySem.W.keepIn K (.ref f6) = true)
    (a7 : PySem.W.nsIn K mainGlobals "parts_of" = some (some (.ref f7))) (l7 : K.lookup f7 = some ⟨oc7, od7, .func (PySem.W.fnOf "parts_of" "parts_of" (defArgs s_parts_of) (defBody s_parts_of) (defScope s_parts_of) .none kV7 dc7 pm7 an7 cd7 ct7), sl7⟩) (c7 : PySem.W.codeIn K cd7 "parts_of" = true) (k7 : PySem.W.keepIn K (.ref f7) = true)
    (a8 : PySem.W.nsIn K mainGlobals "written" = some (some (.ref f8))) (l8 : K.lookup f8 = some ⟨oc8, od8, .func (PySem.W.fnOf "written" "written" (defArgs s_written) (defBody s_written) (defScope s_written) .none kV8 dc8 pm8 an8 cd8 ct8), sl8⟩) (c8 : PySem.W.codeIn K cd8 "written" = true) (k8 : PySem.W.keepIn K (.ref f8) = true)
    (a9 : PySem.W.nsIn K mainGlobals "to_write" = some (some (.ref f9))) (l9 : K.lookup f9 = some ⟨oc9, od9, .func (PySem.W.fnOf "to_write" "to_write" (defArgs s_to_write) (defBody s_to_write) (defScope s_to_write) .none kV9 dc9 pm9 an9 cd9 ct9), sl9⟩) (c9 : PySem.W.codeIn K cd9 "to_write" = true) (k9 : PySem.W.keepIn K (.ref f9) = true)
    (a10 : PySem.W.nsIn K mainGlobals "behind_opening" = some (some (.ref f10))) (l10 : K.lookup f10 = some ⟨oc10, od10, .func (PySem.W.fnOf "behind_opening" "behind_opening" (defArgs s_behind_opening) (defBody s_behind_opening) (defScope s_behind_opening) .none kV10 dc10 pm10 an10 cd10 ct10), sl10⟩) (c10 : PySem.W.codeIn K cd10 "behind_opening" = true) (k10 : PySem.W.keepIn K (.ref f10) = true)
    (a11 : PySem.W.nsIn K mainGlobals "_law_cell_at" = some (some (.ref f11))) (l11 : K.lookup f11 = some ⟨oc11, od11, .func (PySem.W.fnOf "_law_cell_at" "_law_cell_at" (defArgs s__law_cell_at) (defBody s__law_cell_at) (defScope s__law_cell_at) .none kV11 dc11 pm11 an11 cd11 ct11), sl11⟩) (c11 : PySem.W.codeIn K cd11 "_law_cell_at" = true) (k11 : PySem.W.keepIn K (.ref f11) = true)
    (a12 : PySem.W.nsIn K mainGlobals "_law_mixed" = some (some (.ref f12))) (l12 : K.lookup f12 = some ⟨oc12, od12, .func (PySem.W.fnOf "_law_mixed" "_law_mixed" (defArgs s__law_mixed) (defBody s__law_mixed) (defScope s__law_mixed) .none kV12 dc12 pm12 an12 cd12 ct12), sl12⟩) (c12 : PySem.W.codeIn K cd12 "_law_mixed" = true) (k12 : PySem.W.keepIn K (.ref f12) = true)
    (a13 : PySem.W.nsIn K mainGlobals "_law_take" = some (some (.ref f13))) (l13 : K.lookup f13 = some ⟨oc13, od13, .func (PySem.W.fnOf "_law_take" "_law_take" (defArgs s__law_take) (defBody s__law_take) (defScope s__law_take) .none kV13 dc13 pm13 an13 cd13 ct13), sl13⟩) (c13 : PySem.W.codeIn K cd13 "_law_take" = true) (k13 : PySem.W.keepIn K (.ref f13) = true)
    (a14 : PySem.W.nsIn K mainGlobals "_law_any_names" = some (some (.ref f14))) (l14 : K.lookup f14 = some ⟨oc14, od14, .func (PySem.W.fnOf "_law_any_names" "_law_any_names" (defArgs s__law_any_names) (defBody s__law_any_names) (defScope s__law_any_names) .none kV14 dc14 pm14 an14 cd14 ct14), sl14⟩) (c14 : PySem.W.codeIn K cd14 "_law_any_names" = true) (k14 : PySem.W.keepIn K (.ref f14) = true)
    (a15 : PySem.W.nsIn K mainGlobals "_law_signs_by" = some (some (.ref f15))) (l15 : K.lookup f15 = some ⟨oc15, od15, .func (PySem.W.fnOf "_law_signs_by" "_law_signs_by" (defArgs s__law_signs_by) (defBody s__law_signs_by) (defScope s__law_signs_by) .none kV15 dc15 pm15 an15 cd15 ct15), sl15⟩) (c15 : PySem.W.codeIn K cd15 "_law_signs_by" = true) (k15 : PySem.W.keepIn K (.ref f15) = true)
    (a16 : PySem.W.nsIn K mainGlobals "_law_stream" = some (some (.ref f16))) (l16 : K.lookup f16 = some ⟨oc16, od16, .func (PySem.W.fnOf "_law_stream" "_law_stream" (defArgs s__law_stream) (defBody s__law_stream) (defScope s__law_stream) .none kV16 dc16 pm16 an16 cd16 ct16), sl16⟩) (c16 : PySem.W.codeIn K cd16 "_law_stream" = true) (k16 : PySem.W.keepIn K (.ref f16) = true)
    (a17 : PySem.W.nsIn K mainGlobals "_law_names" = some (some (.ref f17))) (l17 : K.lookup f17 = some ⟨oc17, od17, .func (PySem.W.fnOf "_law_names" "_law_names" (defArgs s__law_names) (defBody s__law_names) (defScope s__law_names) .none kV17 dc17 pm17 an17 cd17 ct17), sl17⟩) (c17 : PySem.W.codeIn K cd17 "_law_names" = true) (k17 : PySem.W.keepIn K (.ref f17) = true)
    (a18 : PySem.W.nsIn K mainGlobals "_law_sorts" = some (some (.ref f18))) (l18 : K.lookup f18 = some ⟨oc18, od18, .func (PySem.W.fnOf "_law_sorts" "_law_sorts" (defArgs s__law_sorts) (defBody s__law_sorts) (defScope s__law_sorts) .none kV18 dc18 pm18 an18 cd18 ct18), sl18⟩) (c18 : PySem.W.codeIn K cd18 "_law_sorts" = true) (k18 : PySem.W.keepIn K (.ref f18) = true)
    (a19 : PySem.W.nsIn K mainGlobals "_law_picked" = some (some (.ref f19))) (l19 : K.lookup f19 = some ⟨oc19, od19, .func (PySem.W.fnOf "_law_picked" "_law_picked" (defArgs s__law_picked) (defBody s__law_picked) (defScope s__law_picked) .none kV19 dc19 pm19 an19 cd19 ct19), sl19⟩) (c19 : PySem.W.codeIn K cd19 "_law_picked" = true) (k19 : PySem.W.keepIn K (.ref f19) = true)
    (a20 : PySem.W.nsIn K mainGlobals "_law_book" = some (some (.ref f20))) (l20 : K.lookup f20 = some ⟨oc20, od20, .func (PySem.W.fnOf "_law_book" "_law_book" (defArgs s__law_book) (defBody s__law_book) (defScope s__law_book) .none kV20 dc20 pm20 an20 cd20 ct20), sl20⟩) (c20 : PySem.W.codeIn K cd20 "_law_book" = true) (k20 : PySem.W.keepIn K (.ref f20) = true)
    (a21 : PySem.W.nsIn K mainGlobals "_law_tree_by" = some (some (.ref f21))) (l21 : K.lookup f21 = some ⟨oc21, od21, .func (PySem.W.fnOf "_law_tree_by" "_law_tree_by" (defArgs s__law_tree_by) (defBody s__law_tree_by) (defScope s__law_tree_by) .none kV21 dc21 pm21 an21 cd21 ct21), sl21⟩) (c21 : PySem.W.codeIn K cd21 "_law_tree_by" = true) (k21 : PySem.W.keepIn K (.ref f21) = true)
    (a22 : PySem.W.nsIn K mainGlobals "_law_told_by" = some (some (.ref f22))) (l22 : K.lookup f22 = some ⟨oc22, od22, .func (PySem.W.fnOf "_law_told_by" "_law_told_by" (defArgs s__law_told_by) (defBody s__law_told_by) (defScope s__law_told_by) .none kV22 dc22 pm22 an22 cd22 ct22), sl22⟩) (c22 : PySem.W.codeIn K cd22 "_law_told_by" = true) (k22 : PySem.W.keepIn K (.ref f22) = true)
    (a23 : PySem.W.nsIn K mainGlobals "_law_escaped" = some (some (.ref f23))) (l23 : K.lookup f23 = some ⟨oc23, od23, .func (PySem.W.fnOf "_law_escaped" "_law_escaped" (defArgs s__law_escaped) (defBody s__law_escaped) (defScope s__law_escaped) .none kV23 dc23 pm23 an23 cd23 ct23), sl23⟩) (c23 : PySem.W.codeIn K cd23 "_law_escaped" = true) (k23 : PySem.W.keepIn K (.ref f23) = true)
    (a24 : PySem.W.nsIn K mainGlobals "_law_part" = some (some (.ref f24))) (l24 : K.lookup f24 = some ⟨oc24, od24, .func (PySem.W.fnOf "_law_part" "_law_part" (defArgs s__law_part) (defBody s__law_part) (defScope s__law_part) .none kV24 dc24 pm24 an24 cd24 ct24), sl24⟩) (c24 : PySem.W.codeIn K cd24 "_law_part" = true) (k24 : PySem.W.keepIn K (.ref f24) = true)
    (a25 : PySem.W.nsIn K mainGlobals "law" = some (some (.ref f25))) (l25 : K.lookup f25 = some ⟨oc25, od25, .func (PySem.W.fnOf "law" "law" (defArgs s_law) (defBody s_law) (defScope s_law) .none kV25 dc25 pm25 an25 cd25 ct25), sl25⟩) (c25 : PySem.W.codeIn K cd25 "law" = true) (k25 : PySem.W.keepIn K (.ref f25) = true)
    (uNAME : PySem.W.nsIn K mainGlobals "NAME" = some (some (.int 0 k_NAME)))
    (uSORT : PySem.W.nsIn K mainGlobals "SORT" = some (some (.int 1 k_SORT)))
    (zint : PySem.W.nsIn K mainGlobals "int" = some none) (zisinstance : PySem.W.nsIn K mainGlobals "isinstance" = some none) (zlen : PySem.W.nsIn K mainGlobals "len" = some none) (zlist : PySem.W.nsIn K mainGlobals "list" = some none) (zrange : PySem.W.nsIn K mainGlobals "range" = some none) (zreversed : PySem.W.nsIn K mainGlobals "reversed" = some none) (zsorted : PySem.W.nsIn K mainGlobals "sorted" = some none) (zstr : PySem.W.nsIn K mainGlobals "str" = some none) (ztuple : PySem.W.nsIn K mainGlobals "tuple" = some none) :
    ∃ fd : FuncData, (∀ (s : Shared) (v : Value), BindsTo s fd ⟨[v], []⟩ [("_law_script", v)]) ∧ ∀ base : Heap, K.In base → base.Ns mainGlobals mg → FnOk l.prog w K mg base CX0 48 fa fd ["_law_script"] (sp_law K) := by
  have e := hfa.symm.trans (PySem.W.mg_of X G a25)
  have e : f25 = fa := by cases e; rfl
  subst e
  have F0 := fun_mk (st := s_row_of) l0 c0 k0
  have b0 := F0.binds (ps := ["rows", "name"]) fun _ _ _ _ _ _ us hl => by obtain ⟨_, _, rfl⟩ := ln2 hl; rfl
  have F1 := fun_mk (st := s_sort_of) l1 c1 k1
  have b1 := F1.binds (ps := ["book", "name"]) fun _ _ _ _ _ _ us hl => by obtain ⟨_, _, rfl⟩ := ln2 hl; rfl
  have F2 := fun_mk (st := s_escaped) l2 c2 k2
  have b2 := F2.binds (ps := ["text"]) fun _ _ _ _ _ _ us hl => by obtain ⟨_, rfl⟩ := ln1 hl; rfl
  have F3 := fun_mk (st := s_opening_of) l3 c3 k3
  have b3 := F3.binds (ps := ["name"]) fun _ _ _ _ _ _ us hl => by obtain ⟨_, rfl⟩ := ln1 hl; rfl
  have F4 := fun_mk (st := s_closing_of) l4 c4 k4
  have b4 := F4.binds (ps := ["name"]) fun _ _ _ _ _ _ us hl => by obtain ⟨_, rfl⟩ := ln1 hl; rfl
  have F5 := fun_mk (st := s_is_text) l5 c5 k5
  have b5 := F5.binds (ps := ["part"]) fun _ _ _ _ _ _ us hl => by obtain ⟨_, rfl⟩ := ln1 hl; rfl
  have F6 := fun_mk (st := s_name_of) l6 c6 k6
  have b6 := F6.binds (ps := ["tree"]) fun _ _ _ _ _ _ us hl => by obtain ⟨_, rfl⟩ := ln1 hl; rfl
  have F7 := fun_mk (st := s_parts_of) l7 c7 k7
  have b7 := F7.binds (ps := ["part"]) fun _ _ _ _ _ _ us hl => by obtain ⟨_, rfl⟩ := ln1 hl; rfl
  have F8 := fun_mk (st := s_written) l8 c8 k8
  have b8 := F8.binds (ps := ["book", "tree"]) fun _ _ _ _ _ _ us hl => by obtain ⟨_, _, rfl⟩ := ln2 hl; rfl
  have F9 := fun_mk (st := s_to_write) l9 c9 k9
  have b9 := F9.binds (ps := ["parts"]) fun _ _ _ _ _ _ us hl => by obtain ⟨_, rfl⟩ := ln1 hl; rfl
  have F10 := fun_mk (st := s_behind_opening) l10 c10 k10
  have b10 := F10.binds (ps := ["book", "tree"]) fun _ _ _ _ _ _ us hl => by obtain ⟨_, _, rfl⟩ := ln2 hl; rfl
  have F11 := fun_mk (st := s__law_cell_at) l11 c11 k11
  have b11 := F11.binds (ps := ["_law_script", "_law_k"]) fun _ _ _ _ _ _ us hl => by obtain ⟨_, _, rfl⟩ := ln2 hl; rfl
  have F12 := fun_mk (st := s__law_mixed) l12 c12 k12
  have b12 := F12.binds (ps := ["_law_cell"]) fun _ _ _ _ _ _ us hl => by obtain ⟨_, rfl⟩ := ln1 hl; rfl
  have F13 := fun_mk (st := s__law_take) l13 c13 k13
  have b13 := F13.binds (ps := ["_law_pot", "_law_most"]) fun _ _ _ _ _ _ us hl => by obtain ⟨_, _, rfl⟩ := ln2 hl; rfl
  have F14 := fun_mk (st := s__law_any_names) l14 c14 k14
  have b14 := F14.binds (ps := ["_law_pot", "_law_count"]) fun _ _ _ _ _ _ us hl => by obtain ⟨_, _, rfl⟩ := ln2 hl; rfl
  have F15 := fun_mk (st := s__law_signs_by) l15 c15 k15
  have b15 := F15.binds (ps := ["_law_pot", "_law_most"]) fun _ _ _ _ _ _ us hl => by obtain ⟨_, _, rfl⟩ := ln2 hl; rfl
  have F16 := fun_mk (st := s__law_stream) l16 c16 k16
  have b16 := F16.binds (ps := ["_law_cell", "_law_count"]) fun _ _ _ _ _ _ us hl => by obtain ⟨_, _, rfl⟩ := ln2 hl; rfl
  have F17 := fun_mk (st := s__law_names) l17 c17 k17
  have b17 := F17.binds (ps := ["_law_cell", "_law_count"]) fun _ _ _ _ _ _ us hl => by obtain ⟨_, _, rfl⟩ := ln2 hl; rfl
  have F18 := fun_mk (st := s__law_sorts) l18 c18 k18
  have b18 := F18.binds (ps := ["_law_xs", "_law_count"]) fun _ _ _ _ _ _ us hl => by obtain ⟨_, _, rfl⟩ := ln2 hl; rfl
  have F19 := fun_mk (st := s__law_picked) l19 c19 k19
  have b19 := F19.binds (ps := ["_law_names_here", "_law_x"]) fun _ _ _ _ _ _ us hl => by obtain ⟨_, _, rfl⟩ := ln2 hl; rfl
  have F20 := fun_mk (st := s__law_book) l20 c20 k20
  have b20 := F20.binds (ps := ["_law_script"]) fun _ _ _ _ _ _ us hl => by obtain ⟨_, rfl⟩ := ln1 hl; rfl
  have F21 := fun_mk (st := s__law_tree_by) l21 c21 k21
  have b21 := F21.binds (ps := ["_law_cells", "_law_names_here"]) fun _ _ _ _ _ _ us hl => by obtain ⟨_, _, rfl⟩ := ln2 hl; rfl
  have F22 := fun_mk (st := s__law_told_by) l22 c22 k22
  have b22 := F22.binds (ps := ["_law_x"]) fun _ _ _ _ _ _ us hl => by obtain ⟨_, rfl⟩ := ln1 hl; rfl
  have F23 := fun_mk (st := s__law_escaped) l23 c23 k23
  have b23 := F23.binds (ps := ["_law_text"]) fun _ _ _ _ _ _ us hl => by obtain ⟨_, rfl⟩ := ln1 hl; rfl
  have F24 := fun_mk (st := s__law_part) l24 c24 k24
  have b24 := F24.binds (ps := ["_law_book_here", "_law_part_here"]) fun _ _ _ _ _ _ us hl => by obtain ⟨_, _, rfl⟩ := ln2 hl; rfl
  have F25 := fun_mk (st := s_law) l25 c25 k25
  have b25 := F25.binds (ps := ["_law_script"]) fun _ _ _ _ _ _ us hl => by obtain ⟨_, rfl⟩ := ln1 hl; rfl
  let t : Adr := { a_row_of := f0, d_row_of := PySem.W.fnOf "row_of" "row_of" (defArgs s_row_of) (defBody s_row_of) (defScope s_row_of) .none kV0 dc0 pm0 an0 cd0 ct0, a_sort_of := f1, d_sort_of := PySem.W.fnOf "sort_of" "sort_of" (defArgs s_sort_of) (defBody s_sort_of) (defScope s_sort_of) .none kV1 dc1 pm1 an1 cd1 ct1, a_escaped := f2, d_escaped := PySem.W.fnOf "escaped" "escaped" (defArgs s_escaped) (defBody s_escaped) (defScope s_escaped) .none kV2 dc2 pm2 an2 cd2 ct2, a_opening_of := f3, d_opening_of := PySem.W.fnOf "opening_of" "opening_of" (defArgs s_opening_of) (defBody s_opening_of) (defScope s_opening_of) .none kV3 dc3 pm3 an3 cd3 ct3, a_closing_of := f4, d_closing_of := PySem.W.fnOf "closing_of" "closing_of" (defArgs s_closing_of) (defBody s_closing_of) (defScope s_closing_of) .none kV4 dc4 pm4 an4 cd4 ct4, a_is_text := f5, d_is_text := PySem.W.fnOf "is_text" "is_text" (defArgs s_is_text) (defBody s_is_text) (defScope s_is_text) .none kV5 dc5 pm5 an5 cd5 ct5, a_name_of := f6, d_name_of := PySem.W.fnOf "name_of" "name_of" (defArgs s_name_of) (defBody s_name_of) (defScope s_name_of) .none kV6 dc6 pm6 an6 cd6 ct6, a_parts_of := f7, d_parts_of := PySem.W.fnOf "parts_of" "parts_of" (defArgs s_parts_of) (defBody s_parts_of) (defScope s_parts_of) .none kV7 dc7 pm7 an7 cd7 ct7, a_written := f8, d_written := PySem.W.fnOf "written" "written" (defArgs s_written) (defBody s_written) (defScope s_written) .none kV8 dc8 pm8 an8 cd8 ct8, a_to_write := f9, d_to_write := PySem.W.fnOf "to_write" "to_write" (defArgs s_to_write) (defBody s_to_write) (defScope s_to_write) .none kV9 dc9 pm9 an9 cd9 ct9, a_behind_opening := f10, d_behind_opening := PySem.W.fnOf "behind_opening" "behind_opening" (defArgs s_behind_opening) (defBody s_behind_opening) (defScope s_behind_opening) .none kV10 dc10 pm10 an10 cd10 ct10, a__law_cell_at := f11, d__law_cell_at := PySem.W.fnOf "_law_cell_at" "_law_cell_at" (defArgs s__law_cell_at) (defBody s__law_cell_at) (defScope s__law_cell_at) .none kV11 dc11 pm11 an11 cd11 ct11, a__law_mixed := f12, d__law_mixed := PySem.W.fnOf "_law_mixed" "_law_mixed" (defArgs s__law_mixed) (defBody s__law_mixed) (defScope s__law_mixed) .none kV12 dc12 pm12 an12 cd12 ct12, a__law_take := f13, d__law_take := PySem.W.fnOf "_law_take" "_law_take" (defArgs s__law_take) (defBody s__law_take) (defScope s__law_take) .none kV13 dc13 pm13 an13 cd13 ct13, a__law_any_names := f14, d__law_any_names := PySem.W.fnOf "_law_any_names" "_law_any_names" (defArgs s__law_any_names) (defBody s__law_any_names) (defScope s__law_any_names) .none kV14 dc14 pm14 an14 cd14 ct14, a__law_signs_by := f15, d__law_signs_by := PySem.W.fnOf "_law_signs_by" "_law_signs_by" (defArgs s__law_signs_by) (defBody s__law_signs_by) (defScope s__law_signs_by) .none kV15 dc15 pm15 an15 cd15 ct15, a__law_stream := f16, d__law_stream := PySem.W.fnOf "_law_stream" "_law_stream" (defArgs s__law_stream) (defBody s__law_stream) (defScope s__law_stream) .none kV16 dc16 pm16 an16 cd16 ct16, a__law_names := f17, d__law_names := PySem.W.fnOf "_law_names" "_law_names" (defArgs s__law_names) (defBody s__law_names) (defScope s__law_names) .none kV17 dc17 pm17 an17 cd17 ct17, a__law_sorts := f18, d__law_sorts := PySem.W.fnOf "_law_sorts" "_law_sorts" (defArgs s__law_sorts) (defBody s__law_sorts) (defScope s__law_sorts) .none kV18 dc18 pm18 an18 cd18 ct18, a__law_picked := f19, d__law_picked := PySem.W.fnOf "_law_picked" "_law_picked" (defArgs s__law_picked) (defBody s__law_picked) (defScope s__law_picked) .none kV19 dc19 pm19 an19 cd19 ct19, a__law_book := f20, d__law_book := PySem.W.fnOf "_law_book" "_law_book" (defArgs s__law_book) (defBody s__law_book) (defScope s__law_book) .none kV20 dc20 pm20 an20 cd20 ct20, a__law_tree_by := f21, d__law_tree_by := PySem.W.fnOf "_law_tree_by" "_law_tree_by" (defArgs s__law_tree_by) (defBody s__law_tree_by) (defScope s__law_tree_by) .none kV21 dc21 pm21 an21 cd21 ct21, a__law_told_by := f22, d__law_told_by := PySem.W.fnOf "_law_told_by" "_law_told_by" (defArgs s__law_told_by) (defBody s__law_told_by) (defScope s__law_told_by) .none kV22 dc22 pm22 an22 cd22 ct22, a__law_escaped := f23, d__law_escaped := PySem.W.fnOf "_law_escaped" "_law_escaped" (defArgs s__law_escaped) (defBody s__law_escaped) (defScope s__law_escaped) .none kV23 dc23 pm23 an23 cd23 ct23, a__law_part := f24, d__law_part := PySem.W.fnOf "_law_part" "_law_part" (defArgs s__law_part) (defBody s__law_part) (defScope s__law_part) .none kV24 dc24 pm24 an24 cd24 ct24, a_law := f25, d_law := PySem.W.fnOf "law" "law" (defArgs s_law) (defBody s_law) (defScope s_law) .none kV25 dc25 pm25 an25 cd25 ct25, v_NAME := .int 0 k_NAME, v_SORT := .int 1 k_SORT }
  have T : Txt K mg t := ⟨F0, b0, PySem.W.mg_of X G a0, F1, b1, PySem.W.mg_of X G a1, F2, b2, PySem.W.mg_of X G a2, F3, b3, PySem.W.mg_of X G a3, F4, b4, PySem.W.mg_of X G a4, F5, b5, PySem.W.mg_of X G a5, F6, b6, PySem.W.mg_of X G a6, F7, b7, PySem.W.mg_of X G a7, F8, b8, PySem.W.mg_of X G a8, F9, b9, PySem.W.mg_of X G a9, F10, b10, PySem.W.mg_of X G a10, F11, b11, PySem.W.mg_of X G a11, F12, b12, PySem.W.mg_of X G a12, F13, b13, PySem.W.mg_of X G a13, F14, b14, PySem.W.mg_of X G a14, F15, b15, PySem.W.mg_of X G a15, F16, b16, PySem.W.mg_of X G a16, F17, b17, PySem.W.mg_of X G a17, F18, b18, PySem.W.mg_of X G a18, F19, b19, PySem.W.mg_of X G a19, F20, b20, PySem.W.mg_of X G a20, F21, b21, PySem.W.mg_of X G a21, F22, b22, PySem.W.mg_of X G a22, F23, b23, PySem.W.mg_of X G a23, F24, b24, PySem.W.mg_of X G a24, F25, b25, PySem.W.mg_of X G a25, ⟨PySem.W.mg_of X G uNAME, ⟨_, rfl⟩⟩, ⟨PySem.W.mg_of X G uSORT, ⟨_, rfl⟩⟩, PySem.W.mg_none_of X G zint, PySem.W.mg_none_of X G zisinstance, PySem.W.mg_none_of X G zlen, PySem.W.mg_none_of X G zlist, PySem.W.mg_none_of X G zrange, PySem.W.mg_none_of X G zreversed, PySem.W.mg_none_of X G zsorted, PySem.W.mg_none_of X G zstr, PySem.W.mg_none_of X G ztuple⟩
  exact ⟨_, fun s v => .of_eq rfl, fun base _ _ => ok_law T⟩
theorem walk {l : PySem.W.OpenLaw} {q : Program} {loose : List Str} {XP : (Str → Option Value) → Heap → Prop} {as : List Addr} {z t : Nat} {d : DefRec} {K : Params → PySem.W.Frag} (hn : l.most = some 63) (hdf : d.params.defaults = [])
    (hk : ∀ P, as = (K P).map (·.1)) (h0 : 0 < t)
    (F : ∀ (w : World) (mg : Str → Option Value) (fa : Addr) (h : Heap), (K w.params).In h → h.Ns mainGlobals mg → mg d.name = some (.ref fa) →
      ∃ fd : FuncData, (∀ (s : Shared) (u : Value), BindsTo s fd ⟨[u], []⟩ [("_law_script", u)]) ∧ ∀ base : Heap, (K w.params).In base → base.Ns mainGlobals mg → FnOk l.prog w (K w.params) mg base CX0 48 fa fd ["_law_script"] (sp_law (K w.params))) :
    PySem.W.WalkX q loose XP (PySem.W.X.obsZ as) (PySem.W.X.valZ K z t) l.row.toRowW d [] (fun f vs => PySem.call f vs) :=
  L2.walk_of (n := 63) (k := 48) (x := "_law_script") (CX := fun _ => CX0) (sp := fun w => sp_law (K w.params)) hn (by decide) hdf ⟨rfl, by decide, by decide⟩ hk h0 F (fun _ _ a ns hl _ hS => ⟨a, ns, rfl, hS, hl, fun _ => rfl⟩) fun _ _ _ _ _ z => z
end My
open PySem PySem.W PyProof.Rows
set_option maxRecDepth 100000 in
set_option maxHeartbeats 0 in
theorem PySem.Challenge.cw_tagmend_k50_trees_written_holds : PySem.Challenge.rw_tagmend_k50_trees_written.Holds := by
  w_on; o_law; z_head; (case hw => w_witness2)
  k_fill
  refine My.walk (l := PySem.Challenge.rw_tagmend_k50_trees_written) rfl rfl (fun _ => rfl) (by decide) ?F
  case F =>
    intro w mg fa h KX G hmg
    refine' My.all_mk KX G hmg ?a0 ?l0 ?c0 ?k0 ?a1 ?l1 ?c1 ?k1 ?a2 ?l2 ?c2 ?k2 ?a3 ?l3 ?c3 ?k3 ?a4 ?l4 ?c4 ?k4 ?a5 ?l5 ?c5 ?k5 ?a6 ?l6 ?c6 ?k6 ?a7 ?l7 ?c7 ?k7 ?a8 ?l8 ?c8 ?k8 ?a9 ?l9 ?c9 ?k9 ?a10 ?l10 ?c10 ?k10 ?a11 ?l11 ?c11 ?k11 ?a12 ?l12 ?c12 ?k12 ?a13 ?l13 ?c13 ?k13 ?a14 ?l14 ?c14 ?k14 ?a15 ?l15 ?c15 ?k15 ?a16 ?l16 ?c16 ?k16 ?a17 ?l17 ?c17 ?k17 ?a18 ?l18 ?c18 ?k18 ?a19 ?l19 ?c19 ?k19 ?a20 ?l20 ?c20 ?k20 ?a21 ?l21 ?c21 ?k21 ?a22 ?l22 ?c22 ?k22 ?a23 ?l23 ?c23 ?k23 ?a24 ?l24 ?c24 ?k24 ?a25 ?l25 ?c25 ?k25 ?uNAME ?uSORT ?zint ?zisinstance ?zlen ?zlist ?zrange ?zreversed ?zsorted ?zstr ?ztuple
    (case a0 => k_is); (case l0 => k_is); (case c0 => k_is); (case k0 => k_is)
    (case a1 => k_is); (case l1 => k_is); (case c1 => k_is); (case k1 => k_is)
    (case a2 => k_is); (case l2 => k_is); (case c2 => k_is); (case k2 => k_is)
    (case a3 => k_is); (case l3 => k_is); (case c3 => k_is); (case k3 => k_is)
    (case a4 => k_is); (case l4 => k_is); (case c4 => k_is); (case k4 => k_is)
    (case a5 => k_is); (case l5 => k_is); (case c5 => k_is); (case k5 => k_is)
    (case a6 => k_is); (case l6 => k_is); (case c6 => k_is); (case k6 => k_is)
    (case a7 => k_is); (case l7 => k_is); (case c7 => k_is); (case k7 => k_is)
    (case a8 => k_is); (case l8 => k_is); (case c8 => k_is); (case k8 => k_is)
    (case a9 => k_is); (case l9 => k_is); (case c9 => k_is); (case k9 => k_is)
    (case a10 => k_is); (case l10 => k_is); (case c10 => k_is); (case k10 => k_is)
    (case a11 => k_is); (case l11 => k_is); (case c11 => k_is); (case k11 => k_is)
    (case a12 => k_is); (case l12 => k_is); (case c12 => k_is); (case k12 => k_is)
    (case a13 => k_is); (case l13 => k_is); (case c13 => k_is); (case k13 => k_is)
    (case a14 => k_is); (case l14 => k_is); (case c14 => k_is); (case k14 => k_is)
    (case a15 => k_is); (case l15 => k_is); (case c15 => k_is); (case k15 => k_is)
    (case a16 => k_is); (case l16 => k_is); (case c16 => k_is); (case k16 => k_is)
    (case a17 => k_is); (case l17 => k_is); (case c17 => k_is); (case k17 => k_is)
    (case a18 => k_is); (case l18 => k_is); (case c18 => k_is); (case k18 => k_is)
    (case a19 => k_is); (case l19 => k_is); (case c19 => k_is); (case k19 => k_is)
    (case a20 => k_is); (case l20 => k_is); (case c20 => k_is); (case k20 => k_is)
    (case a21 => k_is); (case l21 => k_is); (case c21 => k_is); (case k21 => k_is)
    (case a22 => k_is); (case l22 => k_is); (case c22 => k_is); (case k22 => k_is)
    (case a23 => k_is); (case l23 => k_is); (case c23 => k_is); (case k23 => k_is)
    (case a24 => k_is); (case l24 => k_is); (case c24 => k_is); (case k24 => k_is)
    (case a25 => k_is); (case l25 => k_is); (case c25 => k_is); (case k25 => k_is)
    (case uNAME => k_is); (case uSORT => k_is); (case zint => k_is); (case zisinstance => k_is)
    (case zlen => k_is); (case zlist => k_is); (case zrange => k_is); (case zreversed => k_is)
    (case zsorted => k_is); (case zstr => k_is); (case ztuple => k_is)
