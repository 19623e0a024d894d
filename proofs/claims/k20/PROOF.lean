import PyProof.Rows.All
import Wide.All
import OpenK.AllK
import Wide.FinOn
import Lean
import PyProof.EqAt
import PyProof.EqKinds
import PyProof.TupleCall
import PyProof.NeData
import PyProof.Rows.StrJoin2
import PyProof.Rows.SortStr
import PyProof.Rows.SortWalk
import KE.KRevIter
import PyProof.Rows.RuleN_isinstance
import PyProof.StrReplace2
import PyProof.StrWalks
import PyProof.Draws
import PyProof.EnumMake
import PyProof.Rows.StrNews2
import PyProof.StrLawsTight
import PyProof.StrLawsReplace
import PyProof.ConsumeWalk
import PyProof.StrLawsFrom
import PyProof.DictValues
import PyProof.Rows.SumAny
import PyProof.SeqI3
import PyProof.NoPylong
import PySem.Challenge.RW_tagmend_k20_places_in_trees
set_option Elab.async false
set_option linter.all false
set_option maxRecDepth 100000
local macro_rules | `(tactic| omega) => `(tactic| lia)
namespace L2
open PySem PySem.Spec PyProof.Rows
abbrev Key := Sum Int Str
def keyIs : Key → Value → Bool
  | .inl k, v => Value.isInt k v
  | .inr x, v => Value.isStrOf x v
def keyH (w : World) : Key → Int
  | .inl k => hashInt k
  | .inr x => hashStr w x
theorem keyIs_shape : ∀ {k : Key} {v : Value}, keyIs k v = true → (∃ i t, k = Sum.inl i ∧ v = Value.int i t) ∨ (∃ x t, k = Sum.inr x ∧ v = Value.str x t)
  | .inl i, v, h => by
    obtain ⟨t, e⟩ := Value.isInt_shape (k := i) (v := v) h
    exact .inl ⟨i, t, rfl, e⟩
  | .inr x, v, h => by
    obtain ⟨t, e⟩ := Value.isStrOf_shape (x := x) (v := v) h
    exact .inr ⟨x, t, rfl, e⟩
theorem keyIs_int (i : Int) (t : Tok) : keyIs (.inl i) (.int i t) = true := by simp [keyIs, Value.isInt]
theorem keyIs_str (x : Str) (t : Tok) : keyIs (.inr x) (.str x t) = true := by simp [keyIs, Value.isStrOf]
theorem key_ll (a b : Int) : decide ((Sum.inl a : Key) = Sum.inl b) = (a == b) := by
  by_cases e : a = b
  · subst e; simp
  · have h : ¬ (Sum.inl a : Key) = Sum.inl b := fun q => e (Sum.inl.inj q)
    rw [decide_eq_false h]
    exact (beq_eq_false_iff_ne.mpr e).symm
theorem key_rr (a b : Str) : decide ((Sum.inr a : Key) = Sum.inr b) = decide (a = b) := by
  by_cases e : a = b
  · subst e; simp
  · have h : ¬ (Sum.inr a : Key) = Sum.inr b := fun q => e (Sum.inr.inj q)
    rw [decide_eq_false h, decide_eq_false e]
theorem key_lr (a : Int) (b : Str) : decide ((Sum.inl a : Key) = Sum.inr b) = false := decide_eq_false (fun q => nomatch q)
theorem key_rl (a : Str) (b : Int) : decide ((Sum.inr a : Key) = Sum.inl b) = false := decide_eq_false (fun q => nomatch q)
def mixKind (prog : Program) (w : World) : PySem.KeyKind prog w Key where
  is := keyIs
  hash := keyH w
  inj := fun v a b ha hb => by
    rcases keyIs_shape ha with ⟨i, t, rfl, rfl⟩ | ⟨x, t, rfl, rfl⟩
    · rcases keyIs_shape hb with ⟨j, u, rfl, e⟩ | ⟨y, u, rfl, e⟩
      · injection e with e1 _; rw [e1]
      · exact nomatch e
    · rcases keyIs_shape hb with ⟨j, u, rfl, e⟩ | ⟨y, u, rfl, e⟩
      · exact nomatch e
      · injection e with e1 _; rw [e1]
  byValue := fun k v h => by
    rcases keyIs_shape h with ⟨i, t, rfl, rfl⟩ | ⟨x, t, rfl, rfl⟩ <;> rfl
  pyHash := fun hv h => by
    rcases keyIs_shape hv with ⟨i, t, rfl, rfl⟩ | ⟨x, t, rfl, rfl⟩
    · exact wpAny_pyHash_int h
    · exact wpAny_pyHash_str h
  eqBool := fun hu hv h => by
    rcases keyIs_shape hu with ⟨i, t, rfl, rfl⟩ | ⟨x, t, rfl, rfl⟩
    · rcases keyIs_shape hv with ⟨j, u, rfl, rfl⟩ | ⟨y, u, rfl, rfl⟩
      · rw [key_ll] at h; exact wpAny_eqBool_int h
      · rw [key_lr] at h; exact SeqAt.EqAt.int_str i t y u _ _ _ _ h
    · rcases keyIs_shape hv with ⟨j, u, rfl, rfl⟩ | ⟨y, u, rfl, rfl⟩
      · rw [key_rl] at h; exact SeqAt.EqAt.str_int x t j u _ _ _ _ h
      · rw [key_rr] at h; exact wpAny_eqBool_str h
  «strs» := fun k x t v h => by
    rcases keyIs_shape h with ⟨i, u, rfl, e⟩ | ⟨y, u, rfl, e⟩
    · exact nomatch e
    · injection e with e1 _
      subst e1
      cases v <;> rfl
theorem mixKind_int (prog : Program) (w : World) (i : Int) (t : Tok) : (mixKind prog w).is (.inl i) (.int i t) = true := keyIs_int i t
theorem mixKind_str (prog : Program) (w : World) (x : Str) (t : Tok) : (mixKind prog w).is (.inr x) (.str x t) = true := keyIs_str x t
end L2
namespace L2
open PySem PySem.Spec PyProof.Rows
inductive V where
  | non | bl (b : Bool) | int (i : Int) | str (x : Str) | byt (b : Array UInt8) | flt (b : UInt64) | ref (a : Addr) | ty (n : String)
  deriving DecidableEq
def RelV : V → Value → Prop
  | .non, u => u = Value.none
  | .bl b, u => u = Value.bool b
  | .int i, u => ∃ t, u = Value.int i t
  | .str x, u => ∃ t, u = Value.str x t
  | .byt b, u => ∃ t, u = Value.bytes b t
  | .flt b, u => ∃ t, u = Value.float b t
  | .ref a, u => u = Value.ref a
  | .ty n, u => u = Value.type n
abbrev Vals : List V → List Value → Prop := Paired RelV
theorem Vals.length {xs : List V} {us : List Value} (r : Vals xs us) : xs.length = us.length := Paired.length r
theorem Vals.get : ∀ {xs : List V} {us : List Value} {i : Nat} {x : V}, Vals xs us → xs[i]? = some x → ∃ u, us[i]? = some u ∧ RelV x u
  | _, _, _, _, .nil, e => by simp at e
  | _, _, 0, _, .cons r _, e => by simp at e; subst e; exact ⟨_, rfl, r⟩
  | _, _, i + 1, x, .cons _ t, e => by
    obtain ⟨u, h1, h2⟩ := Vals.get (i := i) (x := x) t (by simpa using e)
    exact ⟨u, by simpa using h1, h2⟩
theorem Vals.set {x : V} {u : Value} (r : RelV x u) : ∀ {xs : List V} {us : List Value} (i : Nat), Vals xs us → Vals (xs.set i x) (us.set i u)
  | _, _, _, .nil => .nil
  | _, _, 0, .cons _ t => .cons r t
  | _, _, i + 1, .cons q t => .cons q (Vals.set r i t)
theorem Vals.append : ∀ {xs ys : List V} {us ws : List Value}, Vals xs us → Vals ys ws → Vals (xs ++ ys) (us ++ ws)
  | _, _, _, _, .nil, s => s
  | _, _, _, _, .cons r t, s => .cons r (Vals.append t s)
theorem Vals.take : ∀ {xs : List V} {us : List Value} (n : Nat), Vals xs us → Vals (xs.take n) (us.take n)
  | _, _, 0, _ => .nil
  | _, _, _ + 1, .nil => .nil
  | _, _, n + 1, .cons r t => .cons r (Vals.take n t)
theorem Vals.drop : ∀ {xs : List V} {us : List Value} (n : Nat), Vals xs us → Vals (xs.drop n) (us.drop n)
  | _, _, 0, r => r
  | _, _, _ + 1, .nil => .nil
  | _, _, n + 1, .cons _ t => Vals.drop n t
def RelO : Option V → Option Value → Prop
  | some v, some u => RelV v u
  | none, none => True
  | _, _ => False
def KV {κ : Type} : List (κ × V) → List (κ × Value) → Prop := Paired fun (p : κ × V) (q : κ × Value) => p.1 = q.1 ∧ RelV p.2 q.2
def kV : Key → V
  | .inl i => .int i
  | .inr x => .str x
inductive HO where
  /-- a list -/
  | lst (xs : List V)
  /-- a tuple (never changes) -/
  | tup (xs : List V)
  /-- a dict whose keys are ints and texts; one whose keys are tuples of ints and texts (the empty one is both) -/
  | dK (kvs : List (Key × V)) | dT (kvs : List (List Key × V))
  /-- a set of ints: its members, its size -/
  | set (S : Int → Bool) (n : Nat)
  /-- an instance of the class at C, its dict at dx, its attributes -/
  | ins (C dx : Addr) (fs : List (Str × V))
  /-- the dict of the instance at x -/
  | own (x : Addr)
  /-- the dict of an exception -/
  | xd (fs : List (Str × V))
  /-- a bound method, f of x -/
  | met (f x : Addr)
  /-- a range object lo, lo + 1, .. below hi -/
  | rng (lo hi : Int)
  /-- a thing that is known to the object (the script; a dict while a loop walks it): read, never written while it is so -/
  | frz (o : Obj) (u : HO)
  /-- a code object's table -/
  | tbl (ps : Array Value)
  /-- any other thing, by what is true of its one object (a def of one's own: SetO a S n := HO.ext fun h => ..) -/
  | ext (φ : Heap → Prop)
abbrev Hp := Addr → Option HO
def upd (H : Hp) (a : Addr) (o : HO) : Hp := fun b => if b = a then some o else H b
theorem upd_same {H : Hp} {a : Addr} {o : HO} : upd H a o a = some o := by unfold upd; rw [if_pos rfl]
theorem upd_ne {H : Hp} {a b : Addr} {o : HO} (h : b ≠ a) : upd H a o b = H b := by unfold upd; rw [if_neg h]
theorem ne_of {H : Hp} {a b : Addr} {o u : HO} (h : H a = some o) (h' : H b = some u) (d : o ≠ u) : a ≠ b := by
  intro e; subst e; rw [h] at h'; exact d (Option.some.inj h')
theorem ne_of_none {H : Hp} {a b : Addr} {o : HO} (h : H a = some o) (h' : H b = none) : a ≠ b := by
  intro e; subst e; rw [h] at h'; cases h'
section
variable (P : Program) (w : World)
def ObjOk (H : Hp) (h : Heap) (a : Addr) : HO → Prop
  | .lst xs => xs.length ≤ sizeLine ∧ ∃ (its : List Value) (n : Nat), Vals xs its ∧ h.get? a = some { cls := .type "list", data := .seq its.toArray n }
  | .tup xs => xs.length ≤ sizeLine ∧ ∃ its : List Value, Vals xs its ∧ IsTup h a its.toArray
  | .dK kvs => kvs.length ≤ sizeLine ∧ (a == sysModules) = false ∧ ∃ vs, KV kvs vs ∧ h.DictOf (mixKind P w) a vs
  | .dT kvs => kvs.length ≤ sizeLine ∧ (a == sysModules) = false ∧ ∃ xs : List (List Key × Addr × Value),
      Paired (fun (p : List Key × V) (q : List Key × Addr × Value) => p.1 = q.1 ∧ H q.2.1 = some (.tup (p.1.map kV)) ∧ RelV p.2 q.2.2) kvs xs ∧
      ∃ o es ep, h.get? a = some o ∧ o.ExactDict ∧ o.data = .dict es ep ∧ es.toList = xs.map (entryOfKey (tupleKind (mixKind P w))) ∧ (xs.map (·.1)).Nodup
  | .set S n => h.SetOf (intKind P w) a S n
  | .ins C dx fs => H dx = some (.own a) ∧ fs.length ≤ 1000 ∧ dx ≠ a ∧ h.get? a = some (PySem.W.instObj C dx) ∧
      ∃ mA, h.Ns1 dx mA ∧ (∀ f, RelO (fs.lookup f) (mA f)) ∧ PySem.Within mA (fs.map (·.1))
  | .own _ => ∃ o, h.get? a = some o
  | .xd fs => ∃ mA, h.Ns1 a mA ∧ ∀ f, RelO (fs.lookup f) (mA f)
  | .rng lo hi => ∃ t u v, h.get? a = some { cls := .type "range", data := .fields #[.int lo t, .int hi u, .int 1 v] }
  | .frz o u => h.get? a = some o ∧ ObjOk H h a u
  | .tbl ps => h.get? a = some { cls := .none, data := .fields ps }
  | .met f x => h.get? a = some (PySem.W.methodObj (.ref f) (.ref x))
  | .ext φ => φ h ∧ (∃ o, h.get? a = some o) ∧ ∀ h1 h2 : Heap, φ h1 → (∀ o, h1.get? a = some o → h2.get? a = some o) → φ h2
def HOk (H : Hp) (h : Heap) : Prop := ∀ a o, H a = some o → ObjOk P w H h a o
end
section
variable {P : Program} {w : World} {H H' : Hp} {h h' : Heap} {a : Addr} {o : HO}
theorem ObjOk.lt (x : ObjOk P w H h a o) : a < h.objs.size := by
  cases o with
  | lst xs => obtain ⟨_, _, _, _, e⟩ := x; exact Heap.lt_size e
  | tup xs => obtain ⟨_, _, _, p⟩ := x; exact p.lt
  | dK kvs => obtain ⟨_, _, _, _, o, _, _, e, _⟩ := x; exact Heap.lt_size e
  | dT kvs => obtain ⟨_, _, _, _, o, _, _, e, _⟩ := x; exact Heap.lt_size e
  | set S n => obtain ⟨o, _, _, _, e, _⟩ := x; exact Heap.lt_size e
  | ins C dx fs => obtain ⟨_, _, _, e, _⟩ := x; exact Heap.lt_size e
  | own y => obtain ⟨_, e⟩ := x; exact Heap.lt_size e
  | xd fs => obtain ⟨_, ⟨_, _, _, e, _⟩, _⟩ := x; exact Heap.lt_size e
  | rng lo hi => obtain ⟨_, _, _, e⟩ := x; exact Heap.lt_size e
  | frz ob u => obtain ⟨e, _⟩ := x; exact Heap.lt_size e
  | tbl ps => exact Heap.lt_size (show h.get? a = some _ from x)
  | met f y => exact Heap.lt_size (show h.get? a = some _ from x)
  | ext φ => obtain ⟨_, ⟨_, e⟩, _⟩ := x; exact Heap.lt_size e
theorem Paired.mapP {α β : Type} {F G : α → β → Prop} : ∀ {l₁ : List α} {l₂ : List β}, Paired F l₁ l₂ → (∀ a b, F a b → G a b) → Paired G l₁ l₂
  | _, _, .nil, _ => .nil
  | _, _, .cons r t, f => .cons (f _ _ r) (Paired.mapP t f)
theorem ObjOk.stay (x : ObjOk P w H h a o) (k : ∀ b u, (b = a ∨ H b = some (.own a)) → h.get? b = some u → h'.get? b = some u)
    (ho : ∀ b, H b = some (.own a) → H' b = some (.own a)) (ht : ∀ b xs, H b = some (.tup xs) → H' b = some (.tup xs)) : ObjOk P w H' h' a o := by
  induction o with
  | lst xs => obtain ⟨z, its, n, r, e⟩ := x; exact ⟨z, its, n, r, k _ _ (.inl rfl) e⟩
  | tup xs => obtain ⟨z, its, r, ob, e, c⟩ := x; exact ⟨z, its, r, ob, k _ _ (.inl rfl) e, c⟩
  | dK kvs => obtain ⟨z, y, vs, r, ob, es, ep, e, c⟩ := x; exact ⟨z, y, vs, r, ob, es, ep, k _ _ (.inl rfl) e, c⟩
  | dT kvs =>
    obtain ⟨z, y, xs, r, ob, es, ep, e, c⟩ := x
    exact ⟨z, y, xs, Paired.mapP r fun p q z => ⟨z.1, ht _ _ z.2.1, z.2.2⟩, ob, es, ep, k _ _ (.inl rfl) e, c⟩
  | set S n => obtain ⟨ob, es, ep, t, e, c⟩ := x; exact ⟨ob, es, ep, t, k _ _ (.inl rfl) e, c⟩
  | ins C dx fs =>
    obtain ⟨d, z, ne, e, mA, ⟨od, es, ep, e2, c⟩, r⟩ := x
    exact ⟨ho _ d, z, ne, k _ _ (.inl rfl) e, mA, ⟨od, es, ep, k _ _ (.inr d) e2, c⟩, r⟩
  | own y => obtain ⟨ob, e⟩ := x; exact ⟨ob, k _ _ (.inl rfl) e⟩
  | xd fs => obtain ⟨mA, ⟨od, es, ep, e, c⟩, r⟩ := x; exact ⟨mA, ⟨od, es, ep, k _ _ (.inl rfl) e, c⟩, r⟩
  | rng lo hi => obtain ⟨t, u, v, e⟩ := x; exact ⟨t, u, v, k _ _ (.inl rfl) e⟩
  | frz ob u ih => obtain ⟨e, q⟩ := x; exact ⟨k _ _ (.inl rfl) e, ih q⟩
  | tbl ps =>
    have e : h.get? a = some { cls := .none, data := .fields ps } := x
    show h'.get? a = some { cls := .none, data := .fields ps }
    exact k a _ (.inl rfl) e
  | met f y =>
    have e : h.get? a = some (PySem.W.methodObj (.ref f) (.ref y)) := x
    show h'.get? a = some (PySem.W.methodObj (.ref f) (.ref y))
    exact k a _ (.inl rfl) e
  | ext φ => obtain ⟨p, ⟨o, e⟩, st⟩ := x; exact ⟨st _ _ p fun o q => k _ _ (.inl rfl) q, ⟨o, k _ _ (.inl rfl) e⟩, st⟩
theorem HOk.lt (x : HOk P w H h) (e : H a = some o) : a < h.objs.size := (x a o e).lt
theorem HOk.fresh (x : HOk P w H h) (e : h.objs.size ≤ a) : H a = none := by
  cases q : H a with
  | none => rfl
  | some u => exact absurd (Nat.lt_of_lt_of_le (x.lt q) e) (Nat.lt_irrefl _)
theorem HOk.kept (x : HOk P w H h) (k : ∀ b u, h.get? b = some u → h'.get? b = some u) : HOk P w H h' := fun a o e =>
  (x a o e).stay (fun b u _ q => k b u q) (fun _ q => q) fun _ _ q => q
theorem HOk.laid (x : HOk P w H h) (k : ∀ b u, h.get? b = some u → h'.get? b = some u) (hp : h.objs.size ≤ a) (new : ObjOk P w (upd H a o) h' a o) : HOk P w (upd H a o) h' := fun b u e => by
  have hn := x.fresh hp
  by_cases hb : b = a
  · subst hb; rw [upd_same] at e; cases e; exact new
  · rw [upd_ne hb] at e
    exact (x b u e).stay (fun c v _ q => k c v q) (fun c q => by rw [upd_ne (ne_of_none q hn)]; exact q) fun c xs q => by rw [upd_ne (ne_of_none q hn)]; exact q
end
def Rd (H : Hp) (a : Addr) (u : HO) : Prop := H a = some u ∨ ∃ o, H a = some (.frz o u)
theorem Rd.ok {P : Program} {w : World} {H : Hp} {h : Heap} {a : Addr} {u : HO} (r : Rd H a u) (x : HOk P w H h) : ObjOk P w H h a u := by
  rcases r with r | ⟨o, r⟩
  · exact x a u r
  · obtain ⟨_, q⟩ := x a _ r
    exact q
def Mut : Option HO → Prop
  | some (.lst _) => True
  | some (.dK _) => True
  | some (.dT _) => True
  | some (.set _ _) => True
  | some (.ins _ _ _) => True
  | some (.ext _) => True
  | _ => False
section
variable {P : Program} {w : World} {H : Hp} {h h' : Heap} {x e : Addr} {o' : HO}
theorem HOk.write (ok : HOk P w H h) (mu : Mut (H x)) (he : e = x ∨ H e = some (.own x)) (k : ∀ b u, b ≠ e → h.get? b = some u → h'.get? b = some u) (heo : ∃ u, h'.get? e = some u)
    (new : ObjOk P w (upd H x o') h' x o') : HOk P w (upd H x o') h' := fun b u q => by
  have nown : ∀ c y, H c = some (.own y) → c ≠ x := fun c y r z => by subst z; rw [r] at mu; exact mu
  have ntup : ∀ c xs, H c = some (.tup xs) → c ≠ x := fun c xs r z => by subst z; rw [r] at mu; exact mu
  by_cases hb : b = x
  · subst hb; rw [upd_same] at q; cases q; exact new
  · rw [upd_ne hb] at q
    by_cases hbe : b = e
    · have q' : H b = some (.own x) := by
        rcases he with z | z
        · exact absurd (hbe.trans z) hb
        · rw [hbe]; exact z
      rw [q] at q'; cases q'
      obtain ⟨v, hv⟩ := heo
      exact ⟨v, by rw [hbe]; exact hv⟩
    · refine (ok b u q).stay (fun c v hc r => k c v ?_ r) (fun c r => by rw [upd_ne (nown c b r)]; exact r) fun c xs r => by rw [upd_ne (ntup c xs r)]; exact r
      rcases hc with rfl | hc
      · exact hbe
      · rintro rfl
        rcases he with z | z
        · exact nown c b hc z
        · rw [hc] at z; cases z; exact hb rfl
end
structure Un (fs ex : List Addr) (H H' : Hp) (h h' : Heap) : Prop where
  keep : ∀ b o, h.get? b = some o → H b = none → b ∉ fs → b ∉ ex → h'.get? b = some o
  slot : ∀ b o, h.get? b = some o → H b = none → b ∈ fs → b ∉ ex → ∃ sl, h'.get? b = some { o with slots := sl }
  free : ∀ b o, h.get? b = some o → H b = none → b ∉ ex → H' b = none
  there : ∀ b o, h.get? b = some o → b ∉ ex → ∃ o', h'.get? b = some o'
  tups : ∀ b xs, H b = some (.tup xs) → H' b = some (.tup xs)
  frzs : ∀ b o u, H b = some (.frz o u) → H' b = some (.frz o u)
  tbls : ∀ b ps, H b = some (.tbl ps) → ∃ more, H' b = some (.tbl (ps ++ more))
section
variable {fs fs' ex ex' : List Addr} {H H1 H2 : Hp} {h h1 h2 h' : Heap} {a x e : Addr} {o : HO}
theorem Un.any (u : Un fs ex H H1 h h1) {b : Addr} {ob : Obj} (q : h.get? b = some ob) (n : H b = none) (hx : b ∉ ex) : ∃ sl, h1.get? b = some { ob with slots := sl } := by
  by_cases hb : b ∈ fs
  · exact u.slot b ob q n hb hx
  · exact ⟨ob.slots, u.keep b ob q n hb hx⟩
theorem Un.kept (k : ∀ b u, h.get? b = some u → h'.get? b = some u) : Un fs ex H H h h' :=
  ⟨fun b ob q _ _ _ => k b ob q, fun b ob q _ _ _ => ⟨ob.slots, k b ob q⟩, fun _ _ _ n _ => n, fun b ob q _ => ⟨ob, k b ob q⟩, fun _ _ q => q, fun _ _ _ q => q, fun _ ps q => ⟨#[], by rw [q]; simp⟩⟩
theorem Un.refl : Un fs ex H H h h := Un.kept fun _ _ q => q
theorem Un.laid (k : ∀ b u, h.get? b = some u → h'.get? b = some u) (hp : h.objs.size ≤ a) (hn : H a = none) : Un fs ex H (upd H a o) h h' where
  keep := fun b u q _ _ _ => k b u q
  slot := fun b u q _ _ _ => ⟨u.slots, k b u q⟩
  free := fun b u q n _ => by rw [upd_ne (Nat.ne_of_lt (Nat.lt_of_lt_of_le (Heap.lt_size q) hp))]; exact n
  there := fun b u q _ => ⟨u, k b u q⟩
  tups := fun b xs q => by rw [upd_ne (ne_of_none q hn)]; exact q
  frzs := fun b u xs q => by rw [upd_ne (ne_of_none q hn)]; exact q
  tbls := fun b ps q => ⟨#[], by rw [upd_ne (ne_of_none q hn), q]; simp⟩
theorem Un.write (mu : Mut (H x)) (he : e = x ∨ H e = some (.own x)) (k : ∀ b u, b ≠ e → h.get? b = some u → h'.get? b = some u) (heo : ∃ u, h'.get? e = some u) : Un fs ex H (upd H x o) h h' := by
  have hx : ∀ b, H b = none → b ≠ x := fun b n z => by subst z; rw [n] at mu; exact mu
  have hb : ∀ b, H b = none → b ≠ e := fun b n z => by
    subst z
    rcases he with r | r
    · exact hx b n r
    · rw [n] at r; cases r
  have hm : ∀ b u, H b = some u → ¬ Mut (some u) → b ≠ x := fun b u q nm z => by subst z; rw [q] at mu; exact nm mu
  refine ⟨fun b u q n _ _ => k b u (hb b n) q, fun b u q n _ _ => ⟨u.slots, k b u (hb b n) q⟩, fun b u q n _ => by rw [upd_ne (hx b n)]; exact n, fun b u q _ => ?_,
    fun b xs q => by rw [upd_ne (hm b _ q fun z => z)]; exact q, fun b u xs q => by rw [upd_ne (hm b _ q fun z => z)]; exact q, fun b ps q => ⟨#[], by rw [upd_ne (hm b _ q fun z => z), q]; simp⟩⟩
  by_cases hbe : b = e
  · subst hbe; exact heo
  · exact ⟨u, k b u hbe q⟩
end
def trk (h : Heap) (H : Hp) : List Addr := (List.range h.objs.size).filter fun a => (H a).isSome
def hidT (h : Heap) (H : Hp) : Heap := PySem.W.hideAll h (trk h H)
theorem hidT_size (h : Heap) (H : Hp) : (hidT h H).objs.size = h.objs.size := PySem.W.hideAll_size _ _
theorem hidT_get {h : Heap} {H : Hp} {b : Addr} {o : Obj} (e : h.get? b = some o) (n : H b = none) : (hidT h H).get? b = some o :=
  PySem.W.hideAll_get _ e fun hm => by
    have q : (H b).isSome = true := (List.mem_filter.mp hm).2
    rw [n] at q; simp at q
theorem of_hidT {h : Heap} {H : Hp} {b : Addr} {o : Obj} (e : (hidT h H).get? b = some o) : h.get? b = some o ∧ H b = none := by
  have e' : h.get? b = some o := PySem.W.of_hideAll (trk h H) e
  refine ⟨e', ?_⟩
  cases q : H b with
  | none => rfl
  | some x =>
    have hm : b ∈ trk h H := List.mem_filter.mpr ⟨List.mem_range.mpr (Heap.lt_size e'), by simp [q]⟩
    have z : (hidT h H).get? b = none := PySem.W.hideAll_none (trk h H) hm
    rw [z] at e; cases e
end L2
namespace L2
open PySem PySem.Spec PyProof.Rows
structure Mod (K : PySem.W.Frag) (mg : Str → Option Value) (base : Heap) : Prop where
  kin : K.In base
  glob : base.Ns mainGlobals mg
  blt : ∃ mb, base.Ns builtinsNs mb ∧ ∀ x : Str, x ≠ "__name__" → mb x = bootBuiltins x
  nolimit : base.NoLimit
structure Cx where
  prog : Program
  w : World
  K : PySem.W.Frag
  mg : Str → Option Value
  base : Heap
  A : Around
  N : List Str
  s₀ : Shared
  H₀ : Hp
  env : Env
  outer : List Env
  stack : List Env
  ex : List Addr
  fn : Str → Bool
  calm : Bool
  pn : List (Addr × Obj)
  xe : Value → Shared → Prop
def frs (l : List Env) : List Addr := l.filterMap (·.frame)
abbrev Cx.fs (X : Cx) : List Addr := frs X.outer
def Vis (sc : Scope) (x : Str) : Prop := sc.names.lookup x = some .local ∨ sc.names.lookup x = some .cell ∨ sc.names.lookup x = some .free
def Loc (sc : Scope) (x : Str) : Prop := sc.names.lookup x = some .local ∨ sc.names.lookup x = some .cell
def Look (env : Env) (h : Heap) (m : Str → Option Value) (x : Str) (u : Value) : Prop :=
  (env.kindOf x = some .local ∧ m x = some u) ∨ ((env.kindOf x = some .cell ∨ env.kindOf x = some .free) ∧ ∃ c, env.cells.lookup x = some c ∧ h.IsCell c (some u))
structure Cx.Ok (X : Cx) : Prop where
  mod : Mod X.K X.mg X.base
  kind : X.env.scope.kind = .function
  glob : X.env.globals = mainGlobals
  blt : X.env.builtins = builtinsNs
  above : X.s₀.heap.objs.size ≤ X.env.locals
  inj : ∀ x y c, X.env.cells.lookup x = some c → X.env.cells.lookup y = some c → x = y
  has : ∀ x, (X.env.kindOf x = some .cell ∨ X.env.kindOf x = some .free) → ∃ c, X.env.cells.lookup x = some c
  cab : ∀ x c, X.fn x = true → X.env.cells.lookup x = some c → X.s₀.heap.objs.size ≤ c
  hd : X.calm = true → X.A.handled = none
  frames : X.A.frames = some X.stack
  stk : X.stack = X.outer ∨ (X.stack = X.env :: X.outer ∧ X.env.frame = some X.env.locals)
  exf : ∀ b ∈ X.ex, b ≠ X.env.locals ∧ ∀ x c, X.env.cells.lookup x = some c → c ≠ b
  bs : ∀ b o, X.base.get? b = some o → X.s₀.heap.get? b = some o ∧ X.H₀ b = none
  bsz : X.base.objs.size ≤ X.s₀.heap.objs.size
  noex : ∀ b o, X.base.get? b = some o → b ∉ X.ex
  exfs : ∀ b ∈ X.ex, b ∉ X.fs
  funs : X.s₀.heap.FunFrames X.base X.outer
  frf : ∀ b ∈ X.fs, X.H₀ b = none
structure Inv (X : Cx) (pins : List (Addr × Obj)) (σ : List (Option V)) (H : Hp) (s : Shared) : Prop where
  ok : X.Ok
  os : s.os = X.s₀.os
  bare : AllBare s.gens
  base : Un X.fs X.ex X.H₀ H X.s₀.heap s.heap
  loc : ∃ m, s.heap.Ns X.env.locals m ∧ ∀ (i : Nat) (x : Str) (v : V), X.N[i]? = some x → σ[i]? = some (some v) → Vis X.env.scope x → ∃ u, RelV v u ∧ Look X.env s.heap m x u
  cell : ∀ x c, X.env.cells.lookup x = some c → ∃ v, s.heap.IsCell c v
  free : H X.env.locals = none
  freeC : ∀ x c, X.env.cells.lookup x = some c → H c = none
  pin : ∀ p ∈ X.pn ++ pins, s.heap.get? p.1 = some p.2 ∧ H p.1 = none ∧ p.1 ≠ X.env.locals ∧ p.1 ∉ X.fs ∧ ∀ v, p.2.data ≠ .cell v
  hok : HOk X.prog X.w H s.heap
  len : σ.length = X.N.length
  tk : 0 < s.toks
section
variable {X : Cx} {pins : List (Addr × Obj)} {σ : List (Option V)} {H H' : Hp} {s : Shared} {h' : Heap}
theorem Cx.Ok.nofr (ok : X.Ok) {b : Addr} {o : Obj} (e : X.base.get? b = some o) : b ∉ X.fs := fun hb => by
  have := (ok.funs.mem hb).1
  rw [e] at this; cases this
theorem Inv.bs (I : Inv X pins σ H s) : ∀ b o, X.base.get? b = some o → s.heap.get? b = some o ∧ H b = none := fun b o e =>
  ⟨I.base.keep b o (I.ok.bs b o e).1 (I.ok.bs b o e).2 (I.ok.nofr e) (I.ok.noex b o e), I.base.free b o (I.ok.bs b o e).1 (I.ok.bs b o e).2 (I.ok.noex b o e)⟩
theorem Inv.bk (I : Inv X pins σ H s) : ∀ b o, X.base.get? b = some o → s.heap.get? b = some o := fun b o e => (I.bs b o e).1
theorem Inv.mod (I : Inv X pins σ H s) : Mod X.K X.mg X.base := I.ok.mod
theorem Inv.kIn (I : Inv X pins σ H s) : X.K.In s.heap := I.ok.mod.kin.keeps I.bk
theorem Inv.lt (I : Inv X pins σ H s) : X.env.locals < s.heap.objs.size := let ⟨_, hn, _⟩ := I.loc; hn.lt
theorem Inv.sz (I : Inv X pins σ H s) : X.s₀.heap.objs.size ≤ s.heap.objs.size := Nat.le_trans I.ok.above (Nat.le_of_lt I.lt)
theorem Inv.nofs (I : Inv X pins σ H s) {a : Addr} (h : s.heap.objs.size ≤ a) : a ∉ X.fs := fun hb => by
  obtain ⟨_, o, ho, _⟩ := I.ok.funs.mem hb
  exact absurd (Nat.lt_of_lt_of_le (Heap.lt_size ho) (Nat.le_trans I.sz h)) (Nat.lt_irrefl _)
theorem Inv.cne (I : Inv X pins σ H s) : ∀ x c, X.env.cells.lookup x = some c → c ≠ X.env.locals := fun x c e z => by
  obtain ⟨v, o, ho, hd⟩ := I.cell x c e
  obtain ⟨m, ⟨o', es, ep, ho', hd', _⟩, _⟩ := I.loc
  rw [z, ho'] at ho; cases ho; rw [hd'] at hd; cases hd
theorem Inv.funs (I : Inv X pins σ H s) : s.heap.FunFrames X.base X.outer := by
  have all : ∀ (l : List Env), (∀ b ∈ frs l, b ∈ X.fs) → X.s₀.heap.FunFrames X.base l → s.heap.FunFrames X.base l := by
    intro l
    induction l with
    | nil => intro _ _; trivial
    | cons env r ih =>
      intro hs hl
      obtain ⟨hk, ⟨L, o, hf, hn, ho, hd⟩, hr⟩ := hl
      have hL : L ∈ X.fs := hs L (by unfold frs; rw [List.filterMap_cons, hf]; exact List.mem_cons_self)
      obtain ⟨sl, e⟩ := I.base.slot L o ho (I.ok.frf L hL) hL fun z => I.ok.exfs L z hL
      exact ⟨hk, ⟨L, _, hf, hn, e, hd⟩, ih (fun b hb => hs b (by unfold frs; rw [List.filterMap_cons, hf]; exact List.mem_cons_of_mem _ hb)) hr⟩
  exact all X.outer (fun _ hb => hb) I.ok.funs
theorem Inv.stack (I : Inv X pins σ H s) : s.heap.FunFrames X.base X.stack := by
  rcases I.ok.stk with e | ⟨e, hf⟩
  · rw [e]; exact I.funs
  · rw [e]
    obtain ⟨m, hn, _⟩ := I.loc
    refine .cons (by rw [I.ok.kind]; decide) hf hn ?_ I.funs
    exact Heap.get?_none_of_le (Nat.le_trans I.ok.bsz I.ok.above)
theorem Inv.stkSub (I : Inv X pins σ H s) : ∀ b ∈ frs X.stack, b ∈ X.env.locals :: X.fs := fun b hb => by
  rcases I.ok.stk with e | ⟨e, hf⟩
  · rw [e] at hb; exact List.mem_cons_of_mem _ hb
  · rw [e] at hb
    unfold frs at hb
    rw [List.filterMap_cons, hf] at hb
    exact hb
theorem Inv.stkFree (I : Inv X pins σ H s) : ∀ b ∈ frs X.stack, H b = none := fun b hb => by
  rcases List.mem_cons.mp (I.stkSub b hb) with e | hb
  · rw [e]; exact I.free
  · obtain ⟨_, o, ho, _⟩ := I.ok.funs.mem hb
    exact I.base.free b o ho (I.ok.frf b hb) fun z => I.ok.exfs b z hb
theorem Inv.step {g' : Array GenState} {t' : Nat} {d' : Drawn} {ch : List Addr} (I : Inv X pins σ H s)
    (hch : ∀ b ∈ ch, (b ∈ X.ex ∨ X.s₀.heap.objs.size ≤ b) ∧ b ≠ X.env.locals ∧ (∀ x c, X.env.cells.lookup x = some c → c ≠ b) ∧ ∀ p ∈ X.pn ++ pins, p.1 ≠ b)
    (keep : ∀ b o, b ≠ X.env.locals → b ∉ X.fs → b ∉ ch → s.heap.get? b = some o → H b = none → h'.get? b = some o)
    (slot : ∀ b o, b ≠ X.env.locals → b ∈ X.fs → b ∉ ch → s.heap.get? b = some o → H b = none → ∃ sl, h'.get? b = some { o with slots := sl }) (free : ∀ b o, b ∉ ch → s.heap.get? b = some o → H b = none → H' b = none)
    (there : ∀ b o, b ∉ ch → s.heap.get? b = some o → ∃ o', h'.get? b = some o')
    (tups : ∀ b xs, H b = some (.tup xs) → H' b = some (.tup xs)) (frzs : ∀ b o u, H b = some (.frz o u) → H' b = some (.frz o u)) (tbls : ∀ b ps, H b = some (.tbl ps) → ∃ more, H' b = some (.tbl (ps ++ more)))
    (ns : ∀ m, s.heap.Ns X.env.locals m → h'.Ns X.env.locals m) (hok : HOk X.prog X.w H' h') (hg : AllBare g') (ht : 0 < t' := by first | exact Nat.succ_pos _ | assumption | exact Inv.tk ‹_› | omega) :
    Inv X pins σ H' { s with heap := h', gens := g', drawn := d', toks := t' } := by
  have neL : ∀ b o, X.s₀.heap.get? b = some o → b ≠ X.env.locals := fun b o e => Nat.ne_of_lt (Nat.lt_of_lt_of_le (Heap.lt_size e) I.ok.above)
  have neC : ∀ b o, X.s₀.heap.get? b = some o → b ∉ X.ex → b ∉ ch := fun b o e hx hb => by
    rcases (hch b hb).1 with z | z
    · exact hx z
    · exact absurd (Nat.lt_of_lt_of_le (Heap.lt_size e) z) (Nat.lt_irrefl _)
  have cellK : ∀ x c, X.env.cells.lookup x = some c → ∀ v, s.heap.IsCell c v → h'.IsCell c v := fun x c e v ⟨o, ho, hd⟩ => by
    have nch : c ∉ ch := fun z => (hch c z).2.2.1 x c e rfl
    by_cases hc : c ∈ X.fs
    · obtain ⟨sl, q⟩ := slot c o (I.cne x c e) hc nch ho (I.freeC x c e)
      exact ⟨_, q, hd⟩
    · exact ⟨o, keep c o (I.cne x c e) hc nch ho (I.freeC x c e), hd⟩
  refine ⟨I.ok, I.os, hg, ⟨fun b o e n hb hx => ?_, fun b o e n hb hx => ?_, fun b o e n hx => ?_, fun b o e hx => ?_, fun b xs e => tups b xs (I.base.tups b xs e), fun b o xs e => frzs b o xs (I.base.frzs b o xs e), fun b ps e => ?_⟩, ?_, fun x c e => ?_, ?_, fun x c e => ?_, fun p hp => ?_, hok, I.len, ht⟩
  · exact keep b o (neL b o e) hb (neC b o e hx) (I.base.keep b o e n hb hx) (I.base.free b o e n hx)
  · obtain ⟨sl, e1⟩ := I.base.slot b o e n hb hx
    obtain ⟨sl', e2⟩ := slot b _ (neL b o e) hb (neC b o e hx) e1 (I.base.free b o e n hx)
    exact ⟨sl', e2⟩
  · obtain ⟨o', e1⟩ := I.base.there b o e hx
    exact free b o' (neC b o e hx) e1 (I.base.free b o e n hx)
  · obtain ⟨o', e1⟩ := I.base.there b o e hx
    exact there b o' (neC b o e hx) e1
  · obtain ⟨m1, e1⟩ := I.base.tbls b ps e
    obtain ⟨m2, e2⟩ := tbls b _ e1
    exact ⟨m1 ++ m2, by rw [e2, Array.append_assoc]⟩
  · obtain ⟨m, hn, hl⟩ := I.loc
    refine ⟨m, ns m hn, fun i x v e1 e2 e3 => ?_⟩
    obtain ⟨u, r, l⟩ := hl i x v e1 e2 e3
    refine ⟨u, r, ?_⟩
    rcases l with l | ⟨k, c, e, z⟩
    · exact .inl l
    · exact .inr ⟨k, c, e, cellK x c e _ z⟩
  · obtain ⟨v, z⟩ := I.cell x c e
    exact ⟨v, cellK x c e v z⟩
  · obtain ⟨m, ⟨o, _, _, ho, _⟩, _⟩ := I.loc
    exact free _ o (fun z => (hch _ z).2.1 rfl) ho I.free
  · obtain ⟨v, o, ho, hd⟩ := I.cell x c e
    exact free c o (fun z => (hch c z).2.2.1 x c e rfl) ho (I.freeC x c e)
  · obtain ⟨e, n, ne, nf, d⟩ := I.pin p hp
    have nch : p.1 ∉ ch := fun z => (hch p.1 z).2.2.2 p hp rfl
    exact ⟨keep p.1 p.2 ne nf nch e n, free p.1 p.2 nch e n, ne, nf, d⟩
theorem Inv.un {t' : Nat} (I : Inv X pins σ H s) (u : Un X.fs [] H H' s.heap h') (hok : HOk X.prog X.w H' h') (ht : 0 < t' := by first | exact Nat.succ_pos _ | assumption | exact Inv.tk ‹_› | omega) : Inv X pins σ H' { s with heap := h', toks := t' } := by
  obtain ⟨m, ⟨o, es, ep, ho, r⟩, _⟩ := id I.loc
  obtain ⟨sl, hL⟩ := u.any ho I.free (by simp)
  exact I.step (g' := s.gens) (d' := s.drawn) (ch := []) (fun _ z => nomatch z) (fun b o _ hb _ e n => u.keep b o e n hb (by simp)) (fun b o _ hb _ e n => u.slot b o e n hb (by simp)) (fun b o _ e n => u.free b o e n (by simp)) (fun b o _ e => u.there b o e (by simp)) u.tups u.frzs u.tbls (fun m' hm => by
    obtain ⟨o', es', ep', ho', r'⟩ := hm
    rw [ho] at ho'; cases ho'
    exact ⟨_, es', ep', hL, r'⟩) hok I.bare
theorem Inv.call {g' : Array GenState} {t' : Nat} {d' : Drawn} {ch : List Addr} (I : Inv X pins σ H s) (u : Un (frs X.stack) ch H H' s.heap h') (hok : HOk X.prog X.w H' h') (hg : AllBare g')
    (hch : ∀ b ∈ ch, (b ∈ X.ex ∨ X.s₀.heap.objs.size ≤ b) ∧ b ≠ X.env.locals ∧ (∀ x c, X.env.cells.lookup x = some c → c ≠ b) ∧ ∀ p ∈ X.pn ++ pins, p.1 ≠ b) (ht : 0 < t' := by first | exact Nat.succ_pos _ | assumption | exact Inv.tk ‹_› | omega) :
    Inv X pins σ H' { s with heap := h', gens := g', drawn := d', toks := t' } := by
  obtain ⟨m, ⟨o, es, ep, ho, r⟩, _⟩ := id I.loc
  obtain ⟨sl, hL⟩ := u.any ho I.free fun z => (hch _ z).2.1 rfl
  exact I.step (ch := ch) hch (fun b o hL hb hc e n => u.keep b o e n (fun z => (List.mem_cons.mp (I.stkSub b z)).elim hL hb) hc) (fun b o _ _ hc e n => u.any e n hc) (fun b o hc e n => u.free b o e n hc) (fun b o hc e => u.there b o e hc) u.tups u.frzs u.tbls (fun m' hm => by
    obtain ⟨o', es', ep', ho', r'⟩ := hm
    rw [ho] at ho'; cases ho'
    exact ⟨_, es', ep', hL, r'⟩) hok hg
theorem Inv.turned {t' : Nat} {it : Addr} (I : Inv X pins σ H s) (k : ∀ b o, b ≠ it → s.heap.get? b = some o → h'.get? b = some o) (hn : H it = none) (hL : it ≠ X.env.locals)
    (h1 : it ∈ X.ex ∨ X.s₀.heap.objs.size ≤ it) (h2 : ∀ x c, X.env.cells.lookup x = some c → c ≠ it) (h3 : ∀ p ∈ X.pn ++ pins, p.1 ≠ it) (ht : 0 < t' := by first | exact Nat.succ_pos _ | assumption | exact Inv.tk ‹_› | omega) : Inv X pins σ H { s with heap := h', toks := t' } := by
  have nit : ∀ b u, H b = some u → b ≠ it := fun b u e z => by rw [z, hn] at e; cases e
  refine I.step (g' := s.gens) (d' := s.drawn) (ch := [it]) (fun b hb => ?_) (fun b o _ _ hc e _ => k b o (fun z => hc (by simp [z])) e) (fun b o _ _ hc e _ => ⟨o.slots, k b o (fun z => hc (by simp [z])) e⟩) (fun _ _ _ _ n => n)
    (fun b o hc e => ⟨o, k b o (fun z => hc (by simp [z])) e⟩) (fun _ _ e => e) (fun _ _ _ e => e) (fun b ps e => ⟨#[], by rw [e]; simp⟩) (fun m hm => ?_) (fun b u e => ?_) I.bare
  · have e : b = it := by simpa using hb
    subst e
    exact ⟨h1, hL, h2, h3⟩
  · obtain ⟨o, es, ep, ho, r⟩ := hm
    exact ⟨o, es, ep, k _ o (Ne.symm hL) ho, r⟩
  · refine (I.hok b u e).stay (fun c v hc q => k c v ?_ q) (fun _ q => q) fun _ _ q => q
    rcases hc with z | z
    · rw [z]; exact nit b u e
    · exact nit c _ z
theorem Inv.tok (I : Inv X pins σ H s) (t' : Nat) (ht : 0 < t' := by first | exact Nat.succ_pos _ | assumption | exact Inv.tk ‹_› | omega) : Inv X pins σ H { s with toks := t' } := I.un (h' := s.heap) (t' := t') Un.refl I.hok
theorem Inv.kept {t' : Nat} (I : Inv X pins σ H s) (k : ∀ b u, s.heap.get? b = some u → h'.get? b = some u) (ht : 0 < t' := by first | exact Nat.succ_pos _ | assumption | exact Inv.tk ‹_› | omega) : Inv X pins σ H { s with heap := h', toks := t' } := I.un (Un.kept k) (I.hok.kept k)
theorem Inv.laid {a : Addr} {o : HO} {t' : Nat} (I : Inv X pins σ H s) (k : ∀ b u, s.heap.get? b = some u → h'.get? b = some u) (hp : s.heap.objs.size ≤ a) (new : ObjOk X.prog X.w (upd H a o) h' a o) (ht : 0 < t' := by first | exact Nat.succ_pos _ | assumption | exact Inv.tk ‹_› | omega) :
    Inv X pins σ (upd H a o) { s with heap := h', toks := t' } := I.un (Un.laid k hp (I.hok.fresh hp)) (I.hok.laid k hp new)
theorem Inv.write {x e : Addr} {o : HO} {t' : Nat} (I : Inv X pins σ H s) (mu : Mut (H x)) (he : e = x ∨ H e = some (.own x)) (k : ∀ b u, b ≠ e → s.heap.get? b = some u → h'.get? b = some u) (heo : ∃ u, h'.get? e = some u)
    (new : ObjOk X.prog X.w (upd H x o) h' x o) (ht : 0 < t' := by first | exact Nat.succ_pos _ | assumption | exact Inv.tk ‹_› | omega) : Inv X pins σ (upd H x o) { s with heap := h', toks := t' } := I.un (Un.write mu he k heo) (I.hok.write mu he k heo new)
theorem Inv.weak {σ' : List (Option V)} (I : Inv X pins σ H s) (hl : σ'.length = σ.length) (w : ∀ (i : Nat) v, σ'[i]? = some (some v) → σ[i]? = some (some v)) : Inv X pins σ' H s :=
  ⟨I.ok, I.os, I.bare, I.base, let ⟨m, hn, hl'⟩ := I.loc; ⟨m, hn, fun i x v e1 e2 e3 => hl' i x v e1 (w i v e2) e3⟩, I.cell, I.free, I.freeC, I.pin, I.hok, hl.trans I.len, I.tk⟩
theorem Inv.pins_of {pins' : List (Addr × Obj)} (I : Inv X pins σ H s) (h : ∀ p ∈ pins', s.heap.get? p.1 = some p.2 ∧ H p.1 = none ∧ p.1 ≠ X.env.locals ∧ p.1 ∉ X.fs ∧ ∀ v, p.2.data ≠ .cell v) : Inv X pins' σ H s :=
  ⟨I.ok, I.os, I.bare, I.base, I.loc, I.cell, I.free, I.freeC, fun p hp => (List.mem_append.mp hp).elim (fun z => I.pin p (List.mem_append_left _ z)) (h p), I.hok, I.len, I.tk⟩
theorem nodup_ix {N : List Str} (hN : N.Nodup) {i j : Nat} {x : Str} (a : N[i]? = some x) (b : N[j]? = some x) : i = j := by
  obtain ⟨h1, e1⟩ := List.getElem?_eq_some_iff.mp a
  obtain ⟨h2, e2⟩ := List.getElem?_eq_some_iff.mp b
  exact (List.getElem_inj hN).mp (e1.trans e2.symm)
theorem store_ok2 {M : Model} {A : Around} {E : Value → Shared → Prop} {i : Nat} {x : Str} {v : V} {u : Value} {Q : Unit → Shared → Prop} (I : Inv X pins σ H s) (hN : X.N.Nodup) (hi : X.N[i]? = some x) (hx : Loc X.env.scope x) (r : RelV v u)
    (h : ∀ s', Inv X pins (σ.set i (some v)) H s' → (∃ a, Heap.SameBut a s.heap s'.heap ∧ (a = X.env.locals ∨ X.env.cells.lookup x = some a)) → Q () s') (hf : X.fn x = true ∨ X.env.scope.names.lookup x = some .local := by first | exact .inl rfl | exact .inr rfl | assumption) : wpAny M A (storeName X.env x u) Q E s := by
  obtain ⟨m, hn, hl⟩ := id I.loc
  have hcls : (X.env.scope.kind == .class || (X.env.scope.kind == .module && X.env.locals != X.env.globals)) = false := by rw [I.ok.kind]; rfl
  have hiσ : i < σ.length := by rw [I.len]; exact (List.getElem?_eq_some_iff.mp hi).1
  have cne := I.cne
  have tracked : ∀ {a : Addr} {h' : Heap}, (∃ o, s.heap.get? a = some o ∧ H a = none) → Heap.SameBut a s.heap h' → HOk X.prog X.w H h' := fun {a h'} ha hs b ob e => by
    obtain ⟨_, _, hfree⟩ := ha
    refine (I.hok b ob e).stay (fun c w' hc q => (hs.2 c ?_).trans q) (fun _ q => q) fun _ _ q => q
    rintro rfl
    rcases hc with rfl | hc
    · rw [hfree] at e; cases e
    · rw [hfree] at hc; cases hc
  rcases hx with hk | hk
  · refine wpAny_storeName_local hk hn (fun h' hn' hs => ?_) hcls
    obtain ⟨oL, _, _, hoL, _⟩ := id hn
    refine h _ ⟨I.ok, I.os, I.bare, ⟨fun b o e n hb hx => ?_, fun b o e n hb hx => ?_, I.base.free, fun b o e hx => ?_, I.base.tups, I.base.frzs, I.base.tbls⟩, ⟨_, hn', fun j y v' e1 e2 e3 => ?_⟩, fun y c e => ?_, I.free, I.freeC, fun p hp => ?_, tracked ⟨oL, hoL, I.free⟩ hs, by simpa using I.len, by first | exact I.tk | exact Nat.succ_pos _⟩ ⟨_, hs, .inl rfl⟩
    · exact (hs.2 b (Nat.ne_of_lt (Nat.lt_of_lt_of_le (Heap.lt_size e) I.ok.above))).trans (I.base.keep b o e n hb hx)
    · obtain ⟨sl, e1⟩ := I.base.slot b o e n hb hx
      exact ⟨sl, (hs.2 b (Nat.ne_of_lt (Nat.lt_of_lt_of_le (Heap.lt_size e) I.ok.above))).trans e1⟩
    · obtain ⟨o', e1⟩ := I.base.there b o e hx
      exact ⟨o', (hs.2 b (Nat.ne_of_lt (Nat.lt_of_lt_of_le (Heap.lt_size e) I.ok.above))).trans e1⟩
    · by_cases hj : j = i
      · subst hj
        rw [hi] at e1; cases e1
        rw [List.getElem?_set_self hiσ] at e2
        cases e2
        exact ⟨u, r, .inl ⟨hk, by simp⟩⟩
      · rw [List.getElem?_set_ne (Ne.symm hj)] at e2
        obtain ⟨u', r', q⟩ := hl j y v' e1 e2 e3
        refine ⟨u', r', ?_⟩
        rcases q with ⟨k, e⟩ | ⟨k, c, e, z⟩
        · refine .inl ⟨k, ?_⟩
          have : y ≠ x := fun e => hj (nodup_ix hN e1 (e ▸ hi))
          simp [this, e]
        · exact .inr ⟨k, c, e, z.sameBut hs (cne y c e)⟩
    · obtain ⟨w', z⟩ := I.cell y c e
      exact ⟨w', z.sameBut hs (cne y c e)⟩
    · obtain ⟨e, n, ne, nf, d⟩ := I.pin p hp
      exact ⟨(hs.2 p.1 ne).trans e, n, ne, nf, d⟩
  · have hfn : X.fn x = true := by
      rcases hf with z | z
      · exact z
      · rw [z] at hk; cases hk
    obtain ⟨c, hc⟩ := I.ok.has x (.inl hk)
    obtain ⟨w', z⟩ := I.cell x c hc
    refine wpAny_storeName_cell I.ok.kind hk hc z (fun h' hc' hs => ?_)
    obtain ⟨oc, hoc, hocd⟩ := id z
    refine h { s with heap := h' } ⟨I.ok, I.os, I.bare, ⟨fun b o e n hb hx => ?_, fun b o e n hb hx => ?_, I.base.free, fun b o e hx => ?_, I.base.tups, I.base.frzs, I.base.tbls⟩, ⟨m, hn.sameBut hs (Ne.symm (cne x c hc)), fun j y v' e1 e2 e3 => ?_⟩, fun y c' e => ?_, I.free, I.freeC, fun p hp => ?_, tracked ⟨oc, hoc, I.freeC x c hc⟩ hs, by simpa using I.len, by first | exact I.tk | exact Nat.succ_pos _⟩ ⟨c, hs, .inr hc⟩
    · exact (hs.2 b (Nat.ne_of_lt (Nat.lt_of_lt_of_le (Heap.lt_size e) (I.ok.cab x c hfn hc)))).trans (I.base.keep b o e n hb hx)
    · obtain ⟨sl, e1⟩ := I.base.slot b o e n hb hx
      exact ⟨sl, (hs.2 b (Nat.ne_of_lt (Nat.lt_of_lt_of_le (Heap.lt_size e) (I.ok.cab x c hfn hc)))).trans e1⟩
    · obtain ⟨o', e1⟩ := I.base.there b o e hx
      exact ⟨o', (hs.2 b (Nat.ne_of_lt (Nat.lt_of_lt_of_le (Heap.lt_size e) (I.ok.cab x c hfn hc)))).trans e1⟩
    · by_cases hj : j = i
      · subst hj
        rw [hi] at e1; cases e1
        rw [List.getElem?_set_self hiσ] at e2
        cases e2
        exact ⟨u, r, .inr ⟨.inl hk, c, hc, hc'⟩⟩
      · rw [List.getElem?_set_ne (Ne.symm hj)] at e2
        obtain ⟨u', r', q⟩ := hl j y v' e1 e2 e3
        refine ⟨u', r', ?_⟩
        rcases q with q | ⟨k, c', e, z'⟩
        · exact .inl q
        · refine .inr ⟨k, c', e, z'.sameBut hs ?_⟩
          rintro rfl
          exact hj (nodup_ix hN e1 (I.ok.inj _ _ _ e hc ▸ hi))
    · by_cases hcc : c' = c
      · subst hcc; exact ⟨_, hc'⟩
      · obtain ⟨w2, z2⟩ := I.cell y c' e
        exact ⟨w2, z2.sameBut hs hcc⟩
    · obtain ⟨e, n, ne, nf, d⟩ := I.pin p hp
      refine ⟨(hs.2 p.1 ?_).trans e, n, ne, nf, d⟩
      intro q
      rw [q, hoc] at e
      have q' : oc = p.2 := Option.some.inj e
      exact d w' (by rw [← q']; exact hocd)
theorem store_ok {M : Model} {A : Around} {E : Value → Shared → Prop} {i : Nat} {x : Str} {v : V} {u : Value} {Q : Unit → Shared → Prop} (I : Inv X pins σ H s) (hN : X.N.Nodup) (hi : X.N[i]? = some x) (hx : Loc X.env.scope x) (r : RelV v u)
    (h : ∀ s', Inv X pins (σ.set i (some v)) H s' → Q () s') (hf : X.fn x = true ∨ X.env.scope.names.lookup x = some .local := by first | exact .inl rfl | exact .inr rfl | assumption) : wpAny M A (storeName X.env x u) Q E s :=
  store_ok2 I hN hi hx r (fun s' I' _ => h s' I') hf
end
abbrev XK := Value → Option Addr → Hp → Prop
abbrev St := List (Option V)
abbrev VK := V → Hp → Prop
abbrev TE := St → Hp → VK → Prop
abbrev TT := St → Hp → (Bool → Hp → Prop) → Prop
abbrev TA := St → Hp → (List V → Hp → Prop) → Prop
structure Ends where
  nx : St → Hp → Prop
  rt : VK
  bk : St → Hp → Prop := fun _ _ => False
  ct : St → Hp → Prop := fun _ _ => False
abbrev TS := Ends → St → Hp → Prop
def EP (X : Cx) (pins : List (Addr × Obj)) (σ : St) (Q : VK) (u : Value) (s' : Shared) : Prop := ∃ v H', Inv X pins σ H' s' ∧ RelV v u ∧ Q v H'
def TP (X : Cx) (pins : List (Addr × Obj)) (σ : St) (Q : Bool → Hp → Prop) (b : Bool) (s' : Shared) : Prop := ∃ H', Inv X pins σ H' s' ∧ Q b H'
def AP (X : Cx) (pins : List (Addr × Obj)) (σ : St) (Q : List V → Hp → Prop) (us : List Value) (s' : Shared) : Prop := ∃ vs H', Inv X pins σ H' s' ∧ Vals vs us ∧ Q vs H'
def SP (X : Cx) (pins : List (Addr × Obj)) (D : Ends) (f : Flow) (s' : Shared) : Prop :=
  match f with
  | .next => ∃ σ' H', Inv X pins σ' H' s' ∧ D.nx σ' H'
  | .brk => ∃ σ' H', Inv X pins σ' H' s' ∧ D.bk σ' H'
  | .cont => ∃ σ' H', Inv X pins σ' H' s' ∧ D.ct σ' H'
  | .ret u => ∃ v σ' H', Inv X pins σ' H' s' ∧ RelV v u ∧ D.rt v H'
def PE (X : Cx) (e : Expr) (t : TE) : Prop :=
  ∀ (pins : List (Addr × Obj)) (s : Shared) (σ : St) (H : Hp) (Q : VK), Inv X pins σ H s → t σ H Q → wpAny (model X.prog X.w) X.A (eval e X.env) (EP X pins σ Q) X.xe s
def PT (X : Cx) (e : Expr) (t : TT) : Prop :=
  ∀ (pins : List (Addr × Obj)) (s : Shared) (σ : St) (H : Hp) (Q : Bool → Hp → Prop), Inv X pins σ H s → t σ H Q → wpAny (model X.prog X.w) X.A (isTrue e X.env (eval e X.env)) (TP X pins σ Q) X.xe s
def PW (X : Cx) (e : Expr) (t : TT) : Prop :=
  ∀ (whole : Sem Value) (pins : List (Addr × Obj)) (s : Shared) (σ : St) (H : Hp) (Q : Bool → Hp → Prop), Inv X pins σ H s → t σ H Q → wpAny (model X.prog X.w) X.A (isTrue e X.env whole) (TP X pins σ Q) X.xe s
theorem PW.pt {X : Cx} {e : Expr} {t : TT} (h : PW X e t) : PT X e t := h _
def PA (X : Cx) (es : List Expr) (t : TA) : Prop :=
  ∀ (pos : Pos) (pins : List (Addr × Obj)) (s : Shared) (σ : St) (H : Hp) (Q : List V → Hp → Prop), Inv X pins σ H s → t σ H Q → wpAny (model X.prog X.w) X.A (spliced (backTo pos (starEach es X.env))) (AP X pins σ Q) X.xe s
def PS (X : Cx) (st : Stmt) (t : TS) : Prop :=
  ∀ (pins : List (Addr × Obj)) (s : Shared) (σ : St) (H : Hp) (D : Ends), Inv X pins σ H s → t D σ H → wpAny (model X.prog X.w) X.A (exec st X.env) (SP X pins D) X.xe s
def PSs (X : Cx) (st : List Stmt) (t : TS) : Prop :=
  ∀ (pins : List (Addr × Obj)) (s : Shared) (σ : St) (H : Hp) (D : Ends), Inv X pins σ H s → t D σ H → wpAny (model X.prog X.w) X.A (execs st X.env) (SP X pins D) X.xe s
theorem thn {α : Type} {t : Sem α} {Q Q' : α → Shared → Prop} {M : Model} {A : Around} {E : Value → Shared → Prop} {s : Shared} (h : wpAny M A t Q E s) (hQ : ∀ a s, Q a s → Q' a s) : wpAny M A t Q' E s := wpAny_mono h hQ fun _ _ x => x
end L2
namespace L2
open PySem PySem.Spec PyProof.Rows
section
variable {X : Cx}
def tVar (i : Nat) : TE := fun σ H Q => ∃ v, σ[i]? = some (some v) ∧ Q v H
def tC (v : V) : TE := fun _ H Q => Q v H
theorem pe_var {i : Nat} {x : Str} {pos : Pos} (hN : X.N[i]? = some x) (hv : Vis X.env.scope x) (hd : (x == ("__debug__" : Str)) = false := by decide) (hcd : (x == ("__classdict__" : Str)) = false := by decide) : PE X (.Name x pos) (tVar i) := by
  intro pins s σ H Q I h
  obtain ⟨v, e, h⟩ := h
  obtain ⟨m, hn, hl⟩ := I.loc
  obtain ⟨u, r, l⟩ := hl i x v hN e hv
  have fin : EP X pins σ Q u s := ⟨v, H, I, r, h⟩
  rcases l with ⟨hk, hm⟩ | ⟨hk, c, hc, hcell⟩
  · exact wpAny_Name (wpAny_loadName_local I.ok.kind hk hn hm fin) hd
  · rcases hk with hk | hk
    · exact wpAny_Name (wpAny_loadName_cell I.ok.kind hk hc hcell fin) hd
    · exact wpAny_Name (wpAny_loadName_free I.ok.kind hk hc hcell fin hcd) hd
theorem pe_int {i j pos} : PE X (.Constant (.int i) j pos) (tC (.int i)) := fun _ _ _ H _ I h => wpAny_Constant_int ⟨.int i, H, I.tok _, ⟨_, rfl⟩, h⟩
theorem pe_bl {b j pos} : PE X (.Constant (.bool b) j pos) (tC (.bl b)) := fun _ _ _ H _ I h => Constant_bool ⟨.bl b, H, I, rfl, h⟩
theorem pe_non {j pos} : PE X (.Constant .none j pos) (tC .non) := fun _ _ _ H _ I h => Constant_none ⟨.non, H, I, rfl, h⟩
theorem pe_str {x j pos} : PE X (.Constant (.str x) j pos) (tC (.str x)) := fun _ _ _ H _ I h => Calls.Constant_str ⟨.str x, H, I.tok _, ⟨_, rfl⟩, h⟩
def Gl (X : Cx) (x : Str) : Prop := X.env.kindOf x = some .globalImplicit
theorem ld_glob {E : Value → Shared → Prop} {pins : List (Addr × Obj)} {s : Shared} {σ : St} {H : Hp} {x : Str} {u : Value} {pos : Pos} {Q : Value → Shared → Prop} (I : Inv X pins σ H s) (hg : Gl X x) (hm : X.mg x = some u) (h : Q u s)
    (hd : (x == ("__debug__" : Str)) = false := by decide) : wpAny (model X.prog X.w) X.A (eval (.Name x pos) X.env) Q E s :=
  Calls.Name_function_global I.ok.kind hg (Calls.loadGlobal_global (by rw [I.ok.glob]; exact I.mod.glob.keeps I.bk) hm h) hd
theorem ld_blt {E : Value → Shared → Prop} {pins : List (Addr × Obj)} {s : Shared} {σ : St} {H : Hp} {x : Str} {u : Value} {pos : Pos} {Q : Value → Shared → Prop} (I : Inv X pins σ H s) (hg : Gl X x) (hm : X.mg x = none) (hv : bootBuiltins x = some u) (h : Q u s)
    (hn : x ≠ "__name__" := by decide) (hd : (x == ("__debug__" : Str)) = false := by decide) : wpAny (model X.prog X.w) X.A (eval (.Name x pos) X.env) Q E s := by
  obtain ⟨mb, h1, h2⟩ := I.mod.blt
  exact Calls.Name_function_global I.ok.kind hg (Calls.loadGlobal_builtin (by rw [I.ok.glob]; exact I.mod.glob.keeps I.bk) hm (by rw [I.ok.blt]; exact h1.keeps I.bk) ((h2 x hn).trans hv) h) hd
theorem pe_glob {x : Str} {v : V} {u : Value} {pos : Pos} (hg : Gl X x) (hm : X.mg x = some u) (r : RelV v u) (hd : (x == ("__debug__" : Str)) = false := by decide) : PE X (.Name x pos) (tC v) :=
  fun _ _ _ H _ I h => ld_glob I hg hm ⟨v, H, I, r, h⟩ hd
theorem pe_bltn {x : Str} {v : V} {u : Value} {pos : Pos} (hg : Gl X x) (hm : X.mg x = none) (hv : bootBuiltins x = some u) (r : RelV v u) (hn : x ≠ "__name__" := by decide) (hd : (x == ("__debug__" : Str)) = false := by decide) : PE X (.Name x pos) (tC v) :=
  fun _ _ _ H _ I h => ld_blt I hg hm hv ⟨v, H, I, r, h⟩ hn hd
variable {a b : Expr} {ta tb : TE} {pos : Pos}
def tB (t : TE) : TT := fun σ H Q => t σ H fun x H1 => ∃ c, x = .bl c ∧ Q c H1
theorem pt_val {e : Expr} {t : TE} (h : PE X e t) (he : ∀ whole, isTrue e X.env whole = (do let v ← whole; standAt e.pos; holding [v] (truthy v)) := by intro _; rfl) : PT X e (tB t) := by
  intro pins s σ H Q I hw
  refine isTrue_plain (thn (h pins s σ H _ I hw) fun v s1 ⟨x, H1, I1, r1, q1⟩ => ?_) (he _)
  obtain ⟨d, rfl, q⟩ := q1
  cases r1
  exact wpAny_truthy_bool ⟨H1, I1, q⟩
variable {tA tB' : TT} {rest : List Expr}
def tAnd (t u : TT) : TT := fun σ H Q => t σ H fun c H1 => if c = true then u σ H1 Q else Q false H1
def tOr (t u : TT) : TT := fun σ H Q => t σ H fun c H1 => if c = true then Q true H1 else u σ H1 Q
def tNot (t : TT) : TT := fun σ H Q => t σ H fun c H1 => Q (!c) H1
theorem pw_and1 (ha : PT X a tA) : PW X (.BoolOp .And [a] pos) tA := by
  intro wh pins s σ H Q I h
  refine isTrue_and (thn (ha pins s σ H Q I h) fun c s1 e => ?_)
  cases c with
  | true => exact isTrue_and_nil e
  | false => exact e
theorem pw_or1 (ha : PT X a tA) : PW X (.BoolOp .Or [a] pos) tA := by
  intro wh pins s σ H Q I h
  refine isTrue_or (thn (ha pins s σ H Q I h) fun c s1 e => ?_)
  cases c with
  | false => exact isTrue_or_nil e
  | true => exact e
theorem pw_and (ha : PT X a tA) (hb : PW X (.BoolOp .And (b :: rest) pos) tB') : PW X (.BoolOp .And (a :: b :: rest) pos) (tAnd tA tB') := by
  intro wh pins s σ H Q I h
  refine isTrue_and (thn (ha pins s σ H _ I h) fun c s1 ⟨H1, I1, q1⟩ => ?_)
  cases c with
  | true => exact hb wh pins s1 σ H1 Q I1 q1
  | false => exact ⟨H1, I1, q1⟩
theorem pw_or (ha : PT X a tA) (hb : PW X (.BoolOp .Or (b :: rest) pos) tB') : PW X (.BoolOp .Or (a :: b :: rest) pos) (tOr tA tB') := by
  intro wh pins s σ H Q I h
  refine isTrue_or (thn (ha pins s σ H _ I h) fun c s1 ⟨H1, I1, q1⟩ => ?_)
  cases c with
  | true => exact ⟨H1, I1, q1⟩
  | false => exact hb wh pins s1 σ H1 Q I1 q1
theorem pt_not (ha : PT X a tA) : PT X (.UnaryOp .Not a pos) (tNot tA) := by
  intro pins s σ H Q I h
  exact isTrue_not (ha pins s σ H (fun c H1 => Q (!c) H1) I h)
def tAndV (ta tb : TE) : TE := fun σ H Q => ta σ H fun x H1 => ∃ c, x = .bl c ∧ if c = true then tb σ H1 Q else Q (.bl false) H1
def tNotV (ta : TE) : TE := fun σ H Q => ta σ H fun x H1 => ∃ c, x = .bl c ∧ Q (.bl (!c)) H1
theorem pe_one {op} {t : TE} (h : PE X a t) : PE X (.BoolOp op [a] pos) t := fun pins s σ H Q I hw => BoolOp_one (h pins s σ H Q I hw)
theorem pe_and (ha : PE X a ta) (hb : PE X (.BoolOp .And (b :: rest) pos) tb) : PE X (.BoolOp .And (a :: b :: rest) pos) (tAndV ta tb) := by
  intro pins s σ H Q I h
  refine BoolOp_and (thn (ha pins s σ H _ I h) fun v s1 ⟨x, H1, I1, r1, q1⟩ => ?_)
  obtain ⟨c, rfl, q1⟩ := q1
  cases r1
  refine wpAny_truthy_bool ?_
  cases c with
  | true => exact hb pins s1 σ H1 Q I1 q1
  | false => exact ⟨.bl false, H1, I1, rfl, q1⟩
theorem pe_not (ha : PE X a ta) : PE X (.UnaryOp .Not a pos) (tNotV ta) := by
  intro pins s σ H Q I h
  refine UnaryOp_ (thn (ha pins s σ H _ I h) fun v s1 ⟨x, H1, I1, r1, q1⟩ => ?_)
  obtain ⟨c, rfl, q1⟩ := q1
  cases r1
  exact not_of (wpAny_truthy_bool ⟨.bl (!c), H1, I1, rfl, q1⟩)
def tIf (t : TT) (ta tb : TE) : TE := fun σ H Q => t σ H fun c H1 => if c = true then ta σ H1 Q else tb σ H1 Q
theorem pe_ifExp {c : Expr} (hc : PT X c tA) (ha : PE X a ta) (hb : PE X b tb) : PE X (.IfExp c a b pos) (tIf tA ta tb) := by
  intro pins s σ H Q I h
  refine wpAny_IfExp (thn (hc pins s σ H _ I h) fun d s1 ⟨H1, I1, q1⟩ => ?_)
  cases d with
  | true => exact ha pins s1 σ H1 Q I1 q1
  | false => exact hb pins s1 σ H1 Q I1 q1
end
end L2
namespace L2
open PySem PySem.Spec PyProof.Rows
def SqL (K : PySem.W.Frag) (H : Hp) (a : Addr) (xs : List V) : Prop :=
  Rd H a (.lst xs) ∨
    ∃ (o : Obj) (its : Array Value) (n : Nat), K.lookup a = some o ∧ o.cls = .type "list" ∧ o.dict = none ∧ o.data = .seq its n ∧ its.size ≤ sizeLine ∧ Vals xs its.toList
def SqT (K : PySem.W.Frag) (H : Hp) (a : Addr) (xs : List V) : Prop :=
  Rd H a (.tup xs) ∨
    ∃ (o : Obj) (its : Array Value) (n : Nat), K.lookup a = some o ∧ o.cls = .type "tuple" ∧ o.data = .seq its n ∧ its.size ≤ sizeLine ∧ Vals xs its.toList
def absV : Value → Option V
  | .none => some .non
  | .bool b => some (.bl b)
  | .int i _ => some (.int i)
  | .str x _ => some (.str x)
  | .bytes b _ => some (.byt b)
  | .float b _ => some (.flt b)
  | .ref a => some (.ref a)
  | .type n => some (.ty n)
  | _ => none
theorem RelV.abs {x : V} {u : Value} (r : RelV x u) : absV u = some x := by
  cases x with
  | non => cases r; rfl
  | bl _ => cases r; rfl
  | int _ => obtain ⟨t, rfl⟩ := r; rfl
  | str _ => obtain ⟨t, rfl⟩ := r; rfl
  | byt _ => obtain ⟨t, rfl⟩ := r; rfl
  | flt _ => obtain ⟨t, rfl⟩ := r; rfl
  | ref _ => cases r; rfl
  | ty _ => cases r; rfl
theorem RelV.inj {x y : V} {u : Value} (r : RelV x u) (q : RelV y u) : x = y := Option.some.inj (r.abs.symm.trans q.abs)
theorem Vals.inj : ∀ {xs ys : List V} {us : List Value}, Vals xs us → Vals ys us → xs = ys
  | _, _, _, .nil, .nil => rfl
  | _, _, _, .cons r t, .cons r' t' => by rw [r.inj r', Vals.inj t t']
section
variable {X : Cx} {pins : List (Addr × Obj)} {σ : St} {H : Hp} {s : Shared} {a : Addr} {xs ys : List V}
theorem SqL.of {K : PySem.W.Frag} (h : H a = some (.lst xs)) : SqL K H a xs := .inl (.inl h)
theorem SqT.of {K : PySem.W.Frag} (h : H a = some (.tup xs)) : SqT K H a xs := .inl (.inl h)
theorem Inv.list (I : Inv X pins σ H s) (h : SqL X.K H a xs) : ∃ its : List Value, Vals xs its ∧ PlainL s.heap a its.toArray ∧ xs.length ≤ sizeLine := by
  rcases h with h | ⟨o, its, n, hk, hc, hd, hs, hz, r⟩
  · obtain ⟨z, its, n, r, e⟩ := h.ok I.hok
    exact ⟨its, r, ⟨_, n, e, rfl, rfl, rfl⟩, z⟩
  · refine ⟨its.toList, r, ⟨o, n, I.kIn a o hk, hc, hd, by simpa using hs⟩, ?_⟩
    have e := r.length
    simp only [Array.length_toList] at e
    omega
theorem Inv.tuple (I : Inv X pins σ H s) (h : SqT X.K H a xs) : ∃ its : List Value, Vals xs its ∧ IsTup s.heap a its.toArray ∧ xs.length ≤ sizeLine := by
  rcases h with h | ⟨o, its, n, hk, hc, hs, hz, r⟩
  · obtain ⟨z, its, r, p⟩ := h.ok I.hok
    exact ⟨its, r, p, z⟩
  · refine ⟨its.toList, r, ⟨o, I.kIn a o hk, hc, n, by simpa using hs⟩, ?_⟩
    have e := r.length
    simp only [Array.length_toList] at e
    omega
theorem Inv.list_inj (I : Inv X pins σ H s) (h : SqL X.K H a xs) (h' : SqL X.K H a ys) : xs = ys := by
  obtain ⟨its, r, ⟨o, n, e, _, _, d⟩, _⟩ := I.list h
  obtain ⟨its', r', ⟨o', n', e', _, _, d'⟩, _⟩ := I.list h'
  rw [e] at e'; cases e'
  rw [d] at d'
  injection d' with d1 _
  have : its = its' := by simpa using congrArg Array.toList d1
  subst this
  exact r.inj r'
theorem Inv.tuple_inj (I : Inv X pins σ H s) (h : SqT X.K H a xs) (h' : SqT X.K H a ys) : xs = ys := by
  obtain ⟨its, r, ⟨o, e, _, n, d⟩, _⟩ := I.tuple h
  obtain ⟨its', r', ⟨o', e', _, n', d'⟩, _⟩ := I.tuple h'
  rw [e] at e'; cases e'
  rw [d] at d'
  injection d' with d1 _
  have : its = its' := by simpa using congrArg Array.toList d1
  subst this
  exact r.inj r'
end
abbrev Cx.wish (X : Cx) (E : Value → Shared → Prop) : Cx := { X with xe := E }
abbrev Cx.nox (X : Cx) : Cx := X.wish fun _ _ => False
theorem Cx.Ok.wish {X : Cx} (ok : X.Ok) (E : Value → Shared → Prop) : (X.wish E).Ok :=
  ⟨ok.mod, ok.kind, ok.glob, ok.blt, ok.above, ok.inj, ok.has, ok.cab, ok.hd, ok.frames, ok.stk, ok.exf, ok.bs, ok.bsz, ok.noex, ok.exfs, ok.funs, ok.frf⟩
theorem Cx.Ok.unwish {X : Cx} {E : Value → Shared → Prop} (ok : (X.wish E).Ok) : X.Ok :=
  ⟨ok.mod, ok.kind, ok.glob, ok.blt, ok.above, ok.inj, ok.has, ok.cab, ok.hd, ok.frames, ok.stk, ok.exf, ok.bs, ok.bsz, ok.noex, ok.exfs, ok.funs, ok.frf⟩
section
variable {X : Cx} {pins : List (Addr × Obj)} {σ : St} {H : Hp} {s : Shared} {E : Value → Shared → Prop}
theorem Inv.wish (I : Inv X pins σ H s) (E : Value → Shared → Prop) : Inv (X.wish E) pins σ H s := ⟨I.ok.wish E, I.os, I.bare, I.base, I.loc, I.cell, I.free, I.freeC, I.pin, I.hok, I.len, I.tk⟩
theorem Inv.unwish (I : Inv (X.wish E) pins σ H s) : Inv X pins σ H s := ⟨I.ok.unwish, I.os, I.bare, I.base, I.loc, I.cell, I.free, I.freeC, I.pin, I.hok, I.len, I.tk⟩
theorem SP.unwish {D : Ends} {f : Flow} {s' : Shared} (h : SP (X.wish E) pins D f s') : SP X pins D f s' := by
  cases f with
  | next => obtain ⟨σ', H', I, q⟩ := h; exact ⟨σ', H', I.unwish, q⟩
  | brk => obtain ⟨σ', H', I, q⟩ := h; exact ⟨σ', H', I.unwish, q⟩
  | cont => obtain ⟨σ', H', I, q⟩ := h; exact ⟨σ', H', I.unwish, q⟩
  | ret u => obtain ⟨v, σ', H', I, r, q⟩ := h; exact ⟨v, σ', H', I.unwish, r, q⟩
theorem PSs.nox {st : List Stmt} {t : TS} (h : PSs X.nox st t) : PSs X st t := fun pins s σ H D I hw =>
  wpAny_mono (h pins s σ H D (I.wish _) hw) (fun _ _ q => q.unwish) fun _ _ z => False.elim z
end
section
variable {X : Cx} {st : Stmt} {rest : List Stmt} {t u : TS} {e : Expr} {te : TE} {pos : Pos}
def tNext : TS := fun D σ H => D.nx σ H
def tSeq (t u : TS) : TS := fun D σ H => t { D with nx := u D } σ H
theorem pss_nil : PSs X [] tNext := fun _ _ σ H _ I h => wpAny_execs_nil ⟨σ, H, I, h⟩
theorem pss_cons (h1 : PS X st t) (h2 : PSs X rest u) : PSs X (st :: rest) (tSeq t u) := by
  intro pins s σ H D I h
  refine wpAny_execs_cons (thn (h1 pins s σ H { D with nx := u D } I h) fun f s1 q => ?_)
  cases f with
  | next =>
    obtain ⟨σ', H', I', q⟩ := q
    exact h2 pins s1 σ' H' D I' q
  | ret v => exact q
  | brk => exact q
  | cont => exact q
theorem pss_one (h1 : PS X st t) : PSs X [st] t := by
  intro pins s σ H D I h
  refine wpAny_execs_cons (thn (h1 pins s σ H D I h) fun f s1 q => ?_)
  cases f with
  | next => exact wpAny_execs_nil q
  | ret v => exact q
  | brk => exact q
  | cont => exact q
theorem Inv.quiet {pins : List (Addr × Obj)} {σ : St} {H : Hp} {s : Shared} (I : Inv X pins σ H s) : interactive X.env = false := by simp [interactive, I.ok.kind]
def tDrop (te : TE) : TS := fun D σ H => te σ H fun _ H1 => D.nx σ H1
theorem ps_expr (he : PE X e te) (hs : swapsWith e none pos.line X.env = pure false := by rfl) : PS X (.Expr e pos) (tDrop te) := by
  intro pins s σ H D I h
  exact wpAny_Expr_any (thn (he pins s σ H _ I h) fun v s1 ⟨x, H1, I1, r1, q1⟩ => ⟨σ, H1, I1, q1⟩) I.quiet hs
def tRet (te : TE) : TS := fun D σ H => te σ H D.rt
theorem ps_ret (he : PE X e te) : PS X (.Return (some e) pos) (tRet te) := by
  intro pins s σ H D I h
  exact wpAny_Return_some (thn (he pins s σ H _ I h) fun v s1 ⟨x, H1, I1, r1, q1⟩ => ⟨x, σ, H1, I1, r1, q1⟩)
def tIfS (c : TT) (t u : TS) : TS := fun D σ H => c σ H fun b H1 => if b = true then t D σ H1 else u D σ H1
theorem ps_if {c : Expr} {a b : List Stmt} {tc : TT} (hc : PT X c tc) (ha : PSs X a t) (hb : PSs X b u) : PS X (.If c a b pos) (tIfS tc t u) := by
  intro pins s σ H D I h
  refine wpAny_If (thn (hc pins s σ H _ I h) fun d s1 ⟨H1, I1, q1⟩ => ?_)
  cases d with
  | true => exact ha pins s1 σ H1 D I1 q1
  | false => exact hb pins s1 σ H1 D I1 q1
def tNever : TS := fun _ _ _ => False
theorem ps_never : PS X st tNever := fun _ _ _ _ _ _ h => h.elim
end
abbrev TG := V → St → Hp → (St → Hp → Prop) → Prop
abbrev TGs := List V → St → Hp → (St → Hp → Prop) → Prop
def PG (X : Cx) (target : Expr) (t : TG) : Prop :=
  ∀ (pins : List (Addr × Obj)) (s : Shared) (σ : St) (H : Hp) (v : V) (u : Value) (Q : St → Hp → Prop), Inv X pins σ H s → RelV v u → t v σ H Q →
    wpAny (model X.prog X.w) X.A (assign target X.env u) (fun _ s' => ∃ σ' H', Inv X pins σ' H' s' ∧ Q σ' H') X.xe s
def PGs (X : Cx) (ts : List Expr) (t : TGs) : Prop :=
  ∀ (pins : List (Addr × Obj)) (s : Shared) (σ : St) (H : Hp) (vs : List V) (us : List Value) (Q : St → Hp → Prop), Inv X pins σ H s → Vals vs us → t vs σ H Q →
    wpAny (model X.prog X.w) X.A (assignInOrder ((assignEach ts X.env).map (·.2)) us) (fun _ s' => ∃ σ' H', Inv X pins σ' H' s' ∧ Q σ' H') X.xe s
abbrev TSet := V → V → V → Hp → (Hp → Prop) → Prop
def PSet (X : Cx) (t : TSet) : Prop :=
  ∀ (pins : List (Addr × Obj)) (s : Shared) (σ : St) (H : Hp) (o i v : V) (ov iv u : Value) (Q : Hp → Prop), Inv X pins σ H s → RelV o ov → RelV i iv → RelV v u → t o i v H Q →
    wpAny (model X.prog X.w) X.A (setItem ov iv u) (fun _ s' => ∃ H', Inv X pins σ H' s' ∧ Q H') X.xe s
section
variable {X : Cx} {pos : Pos}
def gName (i : Nat) : TG := fun v σ H Q => Q (σ.set i (some v)) H
theorem pg_name {i : Nat} {x : Str} (hN : X.N.Nodup) (hi : X.N[i]? = some x) (hx : Loc X.env.scope x) (hf : X.fn x = true ∨ X.env.scope.names.lookup x = some .local := by first | exact .inl rfl | exact .inr rfl | assumption) : PG X (.Name x pos) (gName i) := by
  intro pins s σ H v u Q I r h
  exact wpAny_assign_Name (store_ok I hN hi hx r (fun s' I' => ⟨_, H, I', h⟩) hf)
def gNil : TGs := fun vs σ H Q => vs = [] ∧ Q σ H
def gCons (t : TG) (u : TGs) : TGs := fun vs σ H Q => ∃ v r, vs = v :: r ∧ t v σ H fun σ' H' => u r σ' H' Q
theorem pgs_nil : PGs X [] gNil := by
  intro pins s σ H vs us Q I r h
  obtain ⟨e, h⟩ := h
  subst e
  cases r
  exact assignInOrder_nil ⟨σ, H, I, h⟩
theorem pgs_cons {e : Expr} {es : List Expr} {t : TG} {u : TGs} (h1 : PG X e t) (h2 : PGs X es u)
    (hs : (assignEach (e :: es) X.env).map (·.2) = assign e X.env :: (assignEach es X.env).map (·.2) := by rfl) : PGs X (e :: es) (gCons t u) := by
  intro pins s σ H vs us Q I r h
  obtain ⟨v, vr, e1, h⟩ := h
  subst e1
  cases r with
  | cons r rr =>
    rw [hs]
    refine assignInOrder_cons (thn (h1 pins s σ H _ _ _ I r h) fun _ s1 ⟨σ1, H1, I1, q1⟩ => ?_)
    exact h2 pins s1 σ1 H1 _ _ Q I1 rr q1
def gTup (K : PySem.W.Frag) (n : Nat) (t : TGs) : TG := fun v σ H Q => ∃ a xs, v = .ref a ∧ SqT K H a xs ∧ xs.length = n ∧ t xs σ H Q
theorem pg_tup {es : List Expr} {k : Nat} {t : TGs} {n : Nat} (hc : X.calm = true) (h : PGs X es t)
    (hn : (assignEach es X.env).length = n := by rfl) (hst : (assignEach es X.env).findIdx? (·.1) = none := by rfl) : PG X (.Tuple es k pos) (gTup X.K n t) := by
  intro pins s σ H v u Q I r hw
  obtain ⟨a, xs, e1, hq, hl, hw⟩ := hw
  subst e1
  cases r
  obtain ⟨its, rv, ht, hz⟩ := I.tuple hq
  refine assign_Tuple_tuple (I.ok.hd hc) ht (by simp [hn, ← hl, rv.length]) hst fun h' hx => ?_
  have I1 : Inv X pins σ H { s with heap := h' } := I.kept (t' := s.toks) fun b o e => hx b o (Nat.ne_of_lt (Heap.lt_size e)) e
  exact h pins _ σ H xs _ Q I1 (by simpa using rv) hw
def gSub (to ti : TE) (t : TSet) : TG := fun v σ H Q => to σ H fun o H1 => ti σ H1 fun i H2 => t o i v H2 fun H3 => Q σ H3
theorem pg_sub {o i : Expr} {to ti : TE} {t : TSet} (ho : PE X o to) (hi : PE X i ti) (hs : PSet X t)
    (ha : ∀ v, assign (.Subscript o i pos) X.env v = (do
      let ov ← holding [v] (eval o X.env)
      let iv ← holding [v, ov] (eval i X.env)
      standAt pos
      holding [v, ov, iv] (setItem ov iv v)
      release [v, ov, iv] []) := by intro _; rfl) : PG X (.Subscript o i pos) (gSub to ti t) := by
  intro pins s σ H v u Q I r h
  rw [ha]
  refine wpAny_bind (wpAny_holding (thn (ho pins s σ H _ I h) fun ov s1 ⟨x, H1, I1, r1, q1⟩ => ?_))
  refine wpAny_bind (wpAny_holding (thn (hi pins s1 σ H1 _ I1 q1) fun iv s2 ⟨y, H2, I2, r2, q2⟩ => ?_))
  refine wpAny_bind (wpAny_standAt (wpAny_bind (wpAny_holding (thn (hs pins s2 σ H2 x y v ov iv u _ I2 r1 r2 r q2) fun _ s3 ⟨H3, I3, q3⟩ => ?_))))
  exact wpAny_release ⟨σ, H3, I3, q3⟩
def tAsg (te : TE) (g : TG) : TS := fun D σ H => te σ H fun x H1 => g x σ H1 D.nx
theorem ps_asg {tg e : Expr} {te : TE} {g : TG} (he : PE X e te) (hg : PG X tg g) (hs : swapsWithSole [tg] e pos.line X.env = pure false := by rfl) (hw : swappedStores [tg] e X.env = pure none := by rfl)
    (h1 : (assignEach [tg] X.env).map (·.2) = [assign tg X.env] := by rfl) : PS X (.Assign [tg] e pos) (tAsg te g) := by
  intro pins s σ H D I h
  refine wpAny_Assign_stores (thn (he pins s σ H _ I h) fun v s1 ⟨x, H1, I1, r1, q1⟩ => ?_) hs hw
  rw [h1]
  exact thn (hg pins s1 σ H1 x v _ I1 r1 q1) fun _ s2 q => q
theorem ps_set {i : Nat} {x : Str} {e : Expr} {te : TE} {pos' : Pos} (hN : X.N.Nodup) (hi : X.N[i]? = some x) (hx : Loc X.env.scope x) (he : PE X e te) (hs : swapsWith e (some (.Name x pos')) pos.line X.env = pure false := by rfl) (hf : X.fn x = true ∨ X.env.scope.names.lookup x = some .local := by first | exact .inl rfl | exact .inr rfl | assumption) :
    PS X (.Assign [.Name x pos'] e pos) (tAsg te (gName i)) := by
  intro pins s σ H D I h
  refine wpAny_Assign_Name (thn (he pins s σ H _ I h) fun v s1 ⟨y, H1, I1, r1, q1⟩ => ?_) hs
  exact store_ok I1 hN hi hx r1 (fun s2 I2 => ⟨_, H1, I2, q1⟩) hf
end
section
variable {X : Cx} {pos : Pos}
def tWhile (c : TT) (tb : TS) : TS := fun D σ H => ∃ W : Nat → St → Hp → Prop, (∃ m, W m σ H) ∧ ∀ m σ H, W m σ H →
  c σ H fun b H1 => if b = true then ∃ N : St → Hp → Prop, (∀ σ' H', N σ' H' → ∃ m', m' < m ∧ W m' σ' H') ∧ tb { D with nx := N, ct := N, bk := D.nx } σ H1 else D.nx σ H1
theorem ps_while {c : Expr} {body : List Stmt} {tc : TT} {tb : TS} (hp : PassesOwn (model X.prog X.w) X.A X.env X.xe) (hc : PT X c tc) (hb : PSs X body tb) : PS X (.While c body [] pos) (tWhile tc tb) := by
  intro pins s σ H D I h
  obtain ⟨W, ⟨m0, w0⟩, turn⟩ := h
  refine wpAny_While (codeAny_whileLoop (fun n s' => ∃ σ' H', Inv X pins σ' H' s' ∧ W n σ' H') ?_ m0 ⟨σ, H, I, w0⟩)
  rintro n s1 ⟨σ1, H1, I1, w1⟩
  refine wpAny_passesOwn hp (thn (hc pins s1 σ1 H1 _ I1 (turn n σ1 H1 w1)) fun b s2 ⟨H2, I2, q2⟩ => ?_)
  cases b with
  | true =>
    obtain ⟨N, hN, q2⟩ := q2
    rw [if_pos rfl]
    refine wpAny_passesOwn hp (thn (hb pins s2 σ1 H2 _ I2 q2) fun f s3 q3 => ?_)
    cases f with
    | next =>
      obtain ⟨σ3, H3, I3, n3⟩ := q3
      obtain ⟨m', hm, w3⟩ := hN σ3 H3 n3
      exact ⟨m', hm, σ3, H3, I3, w3⟩
    | cont =>
      obtain ⟨σ3, H3, I3, n3⟩ := q3
      obtain ⟨m', hm, w3⟩ := hN σ3 H3 n3
      exact ⟨m', hm, σ3, H3, I3, w3⟩
    | brk => exact q3
    | ret v => exact q3
  | false =>
    rw [if_neg Bool.false_ne_true]
    exact wpAny_execs_nil ⟨σ1, H2, I2, q2⟩
end
structure It where
  go : Nat → Hp → Prop
  yld : Nat → Hp → V → Hp → Prop
  stop : Nat → Hp → Prop
def FpOk (X : Cx) (pins : List (Addr × Obj)) (H : Hp) (b : Addr) : Prop :=
  H b = none ∧ b ≠ X.env.locals ∧ b ∉ X.fs ∧ (b ∈ X.ex ∨ X.s₀.heap.objs.size ≤ b) ∧ (∀ x c, X.env.cells.lookup x = some c → c ≠ b) ∧ ∀ p ∈ X.pn ++ pins, p.1 ≠ b
theorem Inv.fpOk {X : Cx} {pins : List (Addr × Obj)} {σ : St} {H H' : Hp} {s : Shared} {b : Addr} (I : Inv X pins σ H s) (hb : s.heap.objs.size ≤ b) (hn : H' b = none) : FpOk X pins H' b := by
  refine ⟨hn, Nat.ne_of_gt (Nat.lt_of_lt_of_le I.lt hb), I.nofs hb, .inr (Nat.le_trans I.sz hb), fun x c e z => ?_, fun p hp z => ?_⟩
  · obtain ⟨v, q⟩ := I.cell x c e
    exact absurd (Nat.lt_of_lt_of_le q.lt (by rw [z]; exact hb)) (Nat.lt_irrefl _)
  · exact absurd (Nat.lt_of_lt_of_le (Heap.lt_size (I.pin p hp).1) (by rw [z]; exact hb)) (Nat.lt_irrefl _)
structure Turn (P : Program) (w : World) (K : PySem.W.Frag) (tg : Expr) (J : It) (fp : List Addr) (it : Addr) (tn : Nat → Heap → Prop) : Prop where
  mem : it ∈ fp
  obj : ∀ i h, tn i h → ∀ b ∈ fp, ∃ o, h.get? b = some o ∧ ∀ v, o.data ≠ .cell v
  keep : ∀ i h h', tn i h → (∀ b ∈ fp, ∀ o, h.get? b = some o → h'.get? b = some o) → tn i h'
  item : ∀ (X : Cx), X.prog = P → X.w = w → X.K = K → X.calm = true → ∀ (i : Nat) (pins : List (Addr × Obj)) (s : Shared) (σ : St) (H : Hp) (E : Value → Shared → Prop), Inv X pins σ H s → (∀ b ∈ fp, FpOk X pins H b) → tn i s.heap → J.go i H →
    wpAny (model P w) X.A (pyNext (.ref it)) (fun r s1 => ∃ u, r = some u ∧
      wpAny (model P w) X.A (letOwnedTupleGo tg (.ref it) u) (fun _ s2 => ∃ x H', Inv X pins σ H' s2 ∧ RelV x u ∧ J.yld i H x H' ∧ tn (i + 1) s2.heap ∧ ∀ b ∈ fp, H' b = none) E s1) E s
  done : ∀ (X : Cx), X.prog = P → X.w = w → X.K = K → X.calm = true → ∀ (i : Nat) (pins : List (Addr × Obj)) (s : Shared) (σ : St) (H : Hp) (E : Value → Shared → Prop), Inv X pins σ H s → (∀ b ∈ fp, FpOk X pins H b) → tn i s.heap → J.stop i H →
    wpAny (model P w) X.A (pyNext (.ref it)) (fun r s1 => r = none ∧ Inv X pins σ H s1) E s
  self : ∀ (A : Around) (i : Nat) (s : Shared) (Q : Value → Shared → Prop) (E : Value → Shared → Prop), tn i s.heap → Q (.ref it) s → wpAny (model P w) A (pyIter (.ref it)) Q E s
abbrev TI := St → Hp → (It → Hp → Prop) → Prop
def PIE (X : Cx) (pins : List (Addr × Obj)) (σ : St) (tg : Expr) (R : It → Hp → Prop) (itv : Value) (s2 : Shared) : Prop :=
  ∃ (it : Addr) (fp : List Addr) (tn : Nat → Heap → Prop) (J : It) (H' : Hp), itv = .ref it ∧ Inv X pins σ H' s2 ∧ Turn X.prog X.w X.K tg J fp it tn ∧ tn 0 s2.heap ∧ (∀ b ∈ fp, FpOk X pins H' b) ∧ R J H'
def PI (X : Cx) (tg iter : Expr) (wi : TI) : Prop :=
  ∀ (pins : List (Addr × Obj)) (s : Shared) (σ : St) (H : Hp) (R : It → Hp → Prop), Inv X pins σ H s → wi σ H R →
    wpAny (model X.prog X.w) X.A (eval iter X.env) (fun v s1 => wpAny (model X.prog X.w) X.A (pyIter v) (PIE X pins σ tg R) X.xe s1) X.xe s
theorem go_of {M : Model} {A : Around} {E : Value → Shared → Prop} {s : Shared} {tg : Expr} {it : Addr} {u : Value} {o : Obj} {n : String} {vs : Array Value} {Q : Unit → Shared → Prop} (ho : s.heap.get? it = some o) (hc : o.cls = .type n) (hd : o.data = .fields vs)
    (hn : ["enumerate", "zip", "dict_itemiterator", "dict_reverseitemiterator", "odict_iterator", "itertools.zip_longest", "itertools.pairwise"].contains n = false) (hQ : Q () s) : wpAny M A (letOwnedTupleGo tg (.ref it) u) Q E s := by
  unfold letOwnedTupleGo
  cases tg <;> first
    | exact wpAny_pure hQ
    | (cases u <;> first
        | exact wpAny_pure hQ
        | (refine wpAny_bind (wpAny_load ho ?_)
           rw [hc, hd]
           show wpAny M A (if (["enumerate", "zip", "dict_itemiterator", "dict_reverseitemiterator", "odict_iterator", "itertools.zip_longest", "itertools.pairwise"].contains n && vs[0]? == some (rawInt _)) = true then _ else _) Q E s
           rw [if_neg (by intro h; rw [hn, Bool.false_and] at h; cases h)]
           exact wpAny_pure hQ))
def Itl (K : PySem.W.Frag) (a : Addr) : It :=
  ⟨fun i H => ∃ xs x, SqL K H a xs ∧ xs[i]? = some x, fun i H x H' => H' = H ∧ ∀ xs, SqL K H a xs → xs[i]? = some x, fun i H => ∃ xs, SqL K H a xs ∧ xs.length ≤ i⟩
def Itt (K : PySem.W.Frag) (a : Addr) : It :=
  ⟨fun i H => ∃ xs x, SqT K H a xs ∧ xs[i]? = some x, fun i H x H' => H' = H ∧ ∀ xs, SqT K H a xs → xs[i]? = some x, fun i H => ∃ xs, SqT K H a xs ∧ xs.length ≤ i⟩
def Itr (lo : Int) (n : Nat) : It := ⟨fun i _ => i < n, fun i H x H' => H' = H ∧ x = .int (lo + i), fun i _ => n ≤ i⟩
theorem turn_list {P : Program} {w : World} {K : PySem.W.Frag} {tg : Expr} (a it : Addr) : Turn P w K tg (Itl K a) [it] it (fun i h => h.IsListIter it a i) where
  mem := by simp
  obj := fun i h st b hb => by
    have e : b = it := by simpa using hb
    subst e
    obtain ⟨o, e, c, d⟩ := st
    exact ⟨o, e, fun v z => by rw [d] at z; cases z⟩
  keep := fun i h h' st k => st.at fun o e => k it (by simp) o e
  item := by
    intro X hP hw hK hc i pins s σ H E I hf st hg
    subst hP hw hK
    obtain ⟨xs, x, hq, hx⟩ := hg
    obtain ⟨its, rv, p, hz⟩ := I.list hq
    obtain ⟨u, hu, ru⟩ := rv.get hx
    obtain ⟨f0, f1, f2, f3, f4, f5⟩ := hf it (by simp)
    refine wpAny_pyNext_list_item st p.isList (x := u) (by simpa using hu) fun h' st' sb => ?_
    have I1 : Inv X pins σ H { s with heap := h' } := I.turned (t' := s.toks) (fun b o hb e => (sb.2 b hb).trans e) f0 f1 f3 f4 f5
    obtain ⟨o, e, c, d⟩ := id st'
    exact ⟨u, rfl, go_of (s := { s with heap := h' }) e c d (by decide) ⟨x, H, I1, ru, ⟨rfl, fun ys hy => by rw [I.list_inj hy hq]; exact hx⟩, st', fun b hb => (hf b hb).1⟩⟩
  done := by
    intro X hP hw hK hc i pins s σ H E I hf st hg
    subst hP hw hK
    obtain ⟨xs, hq, hx⟩ := hg
    obtain ⟨its, rv, p, hz⟩ := I.list hq
    obtain ⟨f0, f1, f2, f3, f4, f5⟩ := hf it (by simp)
    have hl := rv.length
    exact wpAny_pyNext_list_end (I.ok.hd hc) st p.isList (by simp; omega) fun h' eb => ⟨rfl, I.turned (t' := s.toks) (fun b o hb e => eb b o hb e) f0 f1 f3 f4 f5⟩
  self := fun _ _ _ _ _ st h => wpAny_pyIter_listiter st h
theorem turn_tuple {P : Program} {w : World} {K : PySem.W.Frag} {tg : Expr} (a it : Addr) : Turn P w K tg (Itt K a) [it] it (fun i h => h.IsTupleIter it a i) where
  mem := by simp
  obj := fun i h st b hb => by
    have e : b = it := by simpa using hb
    subst e
    obtain ⟨o, e, c, d⟩ := st
    exact ⟨o, e, fun v z => by rw [d] at z; cases z⟩
  keep := fun i h h' st k => st.at fun o e => k it (by simp) o e
  item := by
    intro X hP hw hK hc i pins s σ H E I hf st hg
    subst hP hw hK
    obtain ⟨xs, x, hq, hx⟩ := hg
    obtain ⟨its, rv, p, hz⟩ := I.tuple hq
    obtain ⟨u, hu, ru⟩ := rv.get hx
    obtain ⟨f0, f1, f2, f3, f4, f5⟩ := hf it (by simp)
    refine wpAny_pyNext_tuple_item st (show s.heap.IsTuple a its.toArray from p) (x := u) (by simpa using hu) fun h' st' sb => ?_
    have I1 : Inv X pins σ H { s with heap := h' } := I.turned (t' := s.toks) (fun b o hb e => (sb.2 b hb).trans e) f0 f1 f3 f4 f5
    obtain ⟨o, e, c, d⟩ := id st'
    exact ⟨u, rfl, go_of (s := { s with heap := h' }) e c d (by decide) ⟨x, H, I1, ru, ⟨rfl, fun ys hy => by rw [I.tuple_inj hy hq]; exact hx⟩, st', fun b hb => (hf b hb).1⟩⟩
  done := by
    intro X hP hw hK hc i pins s σ H E I hf st hg
    subst hP hw hK
    obtain ⟨xs, hq, hx⟩ := hg
    obtain ⟨its, rv, p, hz⟩ := I.tuple hq
    obtain ⟨f0, f1, f2, f3, f4, f5⟩ := hf it (by simp)
    have hl := rv.length
    exact wpAny_pyNext_tuple_end (I.ok.hd hc) st (show s.heap.IsTuple a its.toArray from p) (by simp; omega) fun h' eb => ⟨rfl, I.turned (t' := s.toks) (fun b o hb e => eb b o hb e) f0 f1 f3 f4 f5⟩
  self := fun _ _ _ _ _ st h => wpAny_pyIter_tupleiter st h
theorem turn_range {P : Program} {w : World} {K : PySem.W.Frag} {tg : Expr} (it : Addr) (lo : Int) (n : Nat) : Turn P w K tg (Itr lo n) [it] it (fun i h => IsRangeIter h it (lo + (i : Nat) * 1) ((n : Int) - (i : Nat)) 1) where
  mem := by simp
  obj := fun i h st b hb => by
    have e : b = it := by simpa using hb
    subst e
    exact ⟨_, st, fun v z => by
      have z' : Data.fields _ = Data.cell v := z
      cases z'⟩
  keep := fun i h h' st k => k it (by simp) _ st
  item := by
    intro X hP hw hK hc i pins s σ H E I hf st hg
    subst hP hw hK
    obtain ⟨f0, f1, f2, f3, f4, f5⟩ := hf it (by simp)
    have W := Walks.range (prog := X.prog) (w := X.w) (I.ok.hd hc) it lo 1 n
    refine wpAny_with_toks (n := 1) I.tk (W.item i s _ _ hg st fun v h' tk hv st' kk ht => ?_)
    have ht : 0 < tk := ht
    obtain ⟨t, rfl⟩ := hv
    have I1 : Inv X pins σ H { s with heap := h', toks := tk } := I.turned (fun b o hb e => kk b o (by simpa using hb) e) f0 f1 f3 f4 f5
    refine ⟨_, rfl, go_of (s := { s with heap := h', toks := tk }) (n := "range_iterator") st' rfl rfl (by decide) ⟨.int (lo + i), H, I1, ⟨t, ?_⟩, ⟨rfl, rfl⟩, st', fun b hb => (hf b hb).1⟩⟩
    rw [Int.mul_one]
  done := by
    intro X hP hw hK hc i pins s σ H E I hf st hg
    subst hP hw hK
    obtain ⟨f0, f1, f2, f3, f4, f5⟩ := hf it (by simp)
    exact wpAny_pyNext_range_end (I.ok.hd hc) st (by have : n ≤ i := hg; omega) fun h' eb => ⟨rfl, I.turned (t' := s.toks) (fun b o hb e => eb b o hb e) f0 f1 f3 f4 f5⟩
  self := fun _ _ _ _ _ st h => wpAny_pyIter_rangeiter st h
end L2
namespace L2
open PySem PySem.Spec PyProof.Rows
section
variable {X : Cx} {tg : Expr}
theorem range_it {pins : List (Addr × Obj)} {σ : St} {H : Hp} {s : Shared} {R : It → Hp → Prop} {E : Value → Shared → Prop} {lo hi : Int} {t u v : Tok} {tk : Nat} (I : Inv X pins σ H s) (h1 : -(2 ^ 62) ≤ lo) (h2 : lo < 2 ^ 62) (h3 : -(2 ^ 62) ≤ hi) (h4 : hi < 2 ^ 62)
    (q : R (Itr lo (hi - lo).toNat) H) (ht : 0 < tk := by first | exact Nat.succ_pos _ | assumption | exact Inv.tk ‹_› | omega) : wpAny (model X.prog X.w) X.A (pyIter (.ref s.heap.objs.size)) (PIE X pins σ tg R) E { s with heap := s.heap.push { cls := .type "range", data := .fields #[.int lo t, .int hi u, .int 1 v] }, toks := tk } := by
  refine wpAny_pyIter_range (IsRange.new ..) (small_one h1 h2 h3 h4) ?_
  have I1 : Inv X pins σ H { s with heap := s.heap.push { cls := .type "range", data := .fields #[.int lo t, .int hi u, .int 1 v] }, toks := tk } := I.kept fun b o e => Heap.get?_push_of_some _ e
  refine ⟨(s.heap.push { cls := .type "range", data := .fields #[.int lo t, .int hi u, .int 1 v] }).objs.size, [(s.heap.push { cls := .type "range", data := .fields #[.int lo t, .int hi u, .int 1 v] }).objs.size], _, _, H, rfl,
    I1.kept (t' := tk) fun b o e => Heap.get?_push_of_some _ e, turn_range _ lo (hi - lo).toNat, ?_, fun b hb => ?_, q⟩
  · have e1 : lo + ((0 : Nat) : Int) * 1 = lo := by simp
    have e2 : (((hi - lo).toNat : Nat) : Int) - ((0 : Nat) : Int) = Builtin.Range.rangeSize lo hi 1 := by rw [rangeSize_one]; split <;> omega
    show IsRangeIter _ _ (lo + ((0 : Nat) : Int) * 1) ((((hi - lo).toNat : Nat) : Int) - ((0 : Nat) : Int)) 1
    rw [e1, e2]
    exact Heap.get?_push_size _ rfl
  · have e : b = (s.heap.push { cls := .type "range", data := .fields #[.int lo t, .int hi u, .int 1 v] }).objs.size := by simpa using hb
    subst e
    exact I1.fpOk (Nat.le_refl _) (I1.hok.fresh (Nat.le_refl _))
def iRng1 (ta : TA) : TI := fun σ H R => ta σ H fun vs H1 => ∃ j : Int, vs = [.int j] ∧ -(2 ^ 62) ≤ j ∧ j < 2 ^ 62 ∧ R (Itr 0 j.toNat) H1
def iRng2 (ta : TA) : TI := fun σ H R => ta σ H fun vs H1 => ∃ i j : Int, vs = [.int i, .int j] ∧ (-(2 ^ 62) ≤ i ∧ i < 2 ^ 62 ∧ -(2 ^ 62) ≤ j ∧ j < 2 ^ 62) ∧ R (Itr i (j - i).toNat) H1
theorem pi_range1 {a : Expr} {ta : TA} {p pos : Pos} (hg : Gl X "range") (hm : X.mg "range" = none) (ha : PA X [a] ta) (hs : starEach [a] X.env = [(false, eval a X.env)] := by rfl) : PI X tg (.Call (.Name "range" p) [a] [] pos) (iRng1 ta) := by
  intro pins s σ H R I h
  refine Call_ (ld_blt I hg hm boot_range (PyProof.Rows.callWith_type1 (thn (ha pos pins s σ H _ I h) fun us s1 ⟨vs, H1, I1, r1, q1⟩ => ?_) hs rfl))
  obtain ⟨j, e, q1, q2, q⟩ := q1
  subst e
  cases r1 with
  | cons r rr =>
    cases rr
    obtain ⟨t, rfl⟩ := r
    exact call_range_1 (range_it I1 (by omega) (by omega) q1 q2 (by simpa using q))
theorem pi_range2 {a b : Expr} {ta : TA} {p pos : Pos} (hg : Gl X "range") (hm : X.mg "range" = none) (ha : PA X [a, b] ta) (hs : starEach [a, b] X.env = [(false, eval a X.env), (false, eval b X.env)] := by rfl) (hs2 : starEach [b] X.env = [(false, eval b X.env)] := by rfl) :
    PI X tg (.Call (.Name "range" p) [a, b] [] pos) (iRng2 ta) := by
  intro pins s σ H R I h
  refine Call_ (ld_blt I hg hm boot_range (PyProof.Rows.callWith_type1 (thn (ha pos pins s σ H _ I h) fun us s1 ⟨vs, H1, I1, r1, q1⟩ => ?_) (by rw [hs, hs2]) (by rw [hs2]; rfl)))
  obtain ⟨i, j, e, ⟨q1, q2, q3, q4⟩, q⟩ := q1
  subst e
  cases r1 with
  | cons r rr =>
    cases rr with
    | cons r' rr =>
      cases rr
      obtain ⟨t, rfl⟩ := r
      obtain ⟨t', rfl⟩ := r'
      exact call_range_2 (range_it I1 q1 q2 q3 q4 q)
def tFor (wi : TI) (g : TG) (tb : TS) : TS := fun D σ H => wi σ H fun J H1 => ∃ W : Nat → Nat → St → Hp → Prop, (∃ m, W 0 m σ H1) ∧ ∀ i m σ H, W i m σ H →
  (J.stop i H ∧ D.nx σ H) ∨ (J.go i H ∧ ∃ N : St → Hp → Prop, (∀ σ' H', N σ' H' → ∃ m', m' < m ∧ W (i + 1) m' σ' H') ∧ ∀ x H', J.yld i H x H' → g x σ H' fun σ2 H2 => tb { D with nx := N, ct := N, bk := D.nx } σ2 H2)
def pinsAt (fp : List Addr) (h : Heap) : List (Addr × Obj) := fp.filterMap fun b => (h.get? b).map fun o => (b, o)
theorem mem_pinsAt {fp : List Addr} {h : Heap} {b : Addr} {o : Obj} (hb : b ∈ fp) (e : h.get? b = some o) : (b, o) ∈ pinsAt fp h := List.mem_filterMap.mpr ⟨b, hb, by rw [e]; rfl⟩
theorem of_pinsAt {fp : List Addr} {h : Heap} {p : Addr × Obj} (hp : p ∈ pinsAt fp h) : p.1 ∈ fp ∧ h.get? p.1 = some p.2 := by
  obtain ⟨b, hb, e⟩ := List.mem_filterMap.mp hp
  cases q : h.get? b with
  | none => rw [q] at e; cases e
  | some o =>
    rw [q] at e
    have e' : (b, o) = p := Option.some.inj e
    subst e'
    exact ⟨hb, q⟩
theorem Inv.pinned {pins : List (Addr × Obj)} {σ : St} {H : Hp} {s : Shared} {fp : List Addr} (I : Inv X pins σ H s) (hf : ∀ b ∈ fp, FpOk X pins H b) (ho : ∀ b ∈ fp, ∃ o, s.heap.get? b = some o ∧ ∀ v, o.data ≠ .cell v) : Inv X (pins ++ pinsAt fp s.heap) σ H s :=
  I.pins_of fun p hp => (List.mem_append.mp hp).elim (fun z => I.pin p (List.mem_append_right _ z)) fun z => by
    obtain ⟨hb, e⟩ := of_pinsAt z
    obtain ⟨f0, f1, f2, _⟩ := hf p.1 hb
    obtain ⟨o, e', d⟩ := ho p.1 hb
    rw [e] at e'; cases e'
    exact ⟨e, f0, f1, f2, d⟩
theorem Inv.unpinned {pins pl : List (Addr × Obj)} {σ : St} {H : Hp} {s : Shared} (I : Inv X (pins ++ pl) σ H s) : Inv X pins σ H s := I.pins_of fun p hp => I.pin p (List.mem_append_right _ (List.mem_append_left _ hp))
theorem ps_for {iter : Expr} {body : List Stmt} {wi : TI} {g : TG} {tb : TS} {pos : Pos} (hp : PassesOwn (model X.prog X.w) X.A X.env X.xe) (hc : X.calm = true) (hi : PI X tg iter wi) (hg : PG X tg g) (hb : PSs X body tb)
    (hs : ∀ x, foldedSetIterable iter X.env x = pure x := by intro _; rfl) : PS X (.For tg iter body [] pos) (tFor wi g tb) := by
  intro pins s σ H D I h
  refine wpAny_For (thn (hi pins s σ H _ I h) fun v s1 h1 => thn h1 fun itv s2 h2 => ?_) hs
  obtain ⟨it, fp, tn, J, H2, e, I2, T, st2, f2, W, ⟨m0, w0⟩, turn⟩ := h2
  subst e
  have stat : ∀ {H' : Hp}, (∀ b ∈ fp, H' b = none) → ∀ b ∈ fp, FpOk X pins H' b := fun hn b hb => ⟨hn b hb, (f2 b hb).2⟩
  refine codeAny_forLoop_any (fun n s' => ∃ i σ' H', Inv X pins σ' H' s' ∧ tn i s'.heap ∧ (∀ b ∈ fp, H' b = none) ∧ W i n σ' H') ?_ m0 ⟨0, σ, H2, I2, st2, fun b hb => (f2 b hb).1, w0⟩
  rintro n s3 ⟨i, σ3, H3, I3, st3, fr3, w3⟩
  rcases turn i n σ3 H3 w3 with ⟨stop, qn⟩ | ⟨go, N, hN, step⟩
  · refine wpAny_passesOwn hp (thn (T.done X rfl rfl rfl hc i pins s3 σ3 H3 X.xe I3 (stat fr3) st3 stop) fun r s4 ⟨hr, I4⟩ => ?_)
    subst hr
    exact wpAny_execs_nil ⟨σ3, H3, I4, qn⟩
  · refine wpAny_passesOwn hp (thn (T.item X rfl rfl rfl hc i pins s3 σ3 H3 X.xe I3 (stat fr3) st3 go) fun r s4 ⟨u, hr, h4⟩ => ?_)
    subst hr
    refine wpAny_passesOwn hp (thn h4 fun _ s5 ⟨x, H5, I5, r5, y5, st5, fr5⟩ => ?_)
    have I5' := I5.pinned (stat fr5) (T.obj _ _ st5)
    refine wpAny_passesOwn hp (thn (hg _ s5 σ3 H5 x u _ I5' r5 (step x H5 y5)) fun _ s6 ⟨σ6, H6, I6, q6⟩ => ?_)
    refine wpAny_passesOwn hp (thn (hb _ s6 σ6 H6 _ I6 q6) fun f s7 q7 => ?_)
    have again : ∀ {σ7 : St} {H7 : Hp}, Inv X (pins ++ pinsAt fp s5.heap) σ7 H7 s7 → N σ7 H7 → ∃ m, m < n ∧ ∃ i σ' H', Inv X pins σ' H' s7 ∧ tn i s7.heap ∧ (∀ b ∈ fp, H' b = none) ∧ W i m σ' H' := fun {σ7 H7} I7 n7 => by
      obtain ⟨m', hm, w7⟩ := hN σ7 H7 n7
      refine ⟨m', hm, i + 1, σ7, H7, I7.unpinned, T.keep _ _ _ st5 fun b hb o e => (I7.pin (b, o) (List.mem_append_right _ (List.mem_append_right _ (mem_pinsAt hb e)))).1, fun b hb => ?_, w7⟩
      obtain ⟨o, e, d⟩ := T.obj _ _ st5 b hb
      exact (I7.pin (b, o) (List.mem_append_right _ (List.mem_append_right _ (mem_pinsAt hb e)))).2.1
    cases f with
    | next => obtain ⟨σ7, H7, I7, n7⟩ := q7; exact again I7 n7
    | cont => obtain ⟨σ7, H7, I7, n7⟩ := q7; exact again I7 n7
    | brk => obtain ⟨σ7, H7, I7, q7⟩ := q7; exact ⟨σ7, H7, I7.unpinned, q7⟩
    | ret v => obtain ⟨x7, σ7, H7, I7, r7, q7⟩ := q7; exact ⟨x7, σ7, H7, I7.unpinned, r7, q7⟩
end
@[reducible] def PAt {α : Type} (P : Nat → α → Hp → Prop) (i : Nat) : α → Hp → Prop := P i
theorem for_list {K : PySem.W.Frag} {a : Addr} {xs : List V} {g : TG} {tb : TS} {D : Ends} {σ : St} {H : Hp} (Pv : Nat → St → Hp → Prop) (h0 : Pv 0 σ H) (hl : ∀ i σ H, i ≤ xs.length → Pv i σ H → SqL K H a xs)
    (hs : ∀ i x σ H, xs[i]? = some x → Pv i σ H → g x σ H fun σ2 H2 => tb { D with nx := PAt Pv (i + 1), ct := PAt Pv (i + 1), bk := D.nx } σ2 H2) (hd : ∀ σ H, Pv xs.length σ H → D.nx σ H) :
    ∃ W : Nat → Nat → St → Hp → Prop, (∃ m, W 0 m σ H) ∧ ∀ i m σ H, W i m σ H →
      ((Itl K a).stop i H ∧ D.nx σ H) ∨ ((Itl K a).go i H ∧ ∃ N : St → Hp → Prop, (∀ σ' H', N σ' H' → ∃ m', m' < m ∧ W (i + 1) m' σ' H') ∧ ∀ x H', (Itl K a).yld i H x H' → g x σ H' fun σ2 H2 => tb { D with nx := N, ct := N, bk := D.nx } σ2 H2) := by
  refine ⟨fun i m σ H => m = xs.length - i ∧ i ≤ xs.length ∧ Pv i σ H, ⟨xs.length, by simp, Nat.zero_le _, h0⟩, ?_⟩
  rintro i m σ H ⟨rfl, hi, p⟩
  have q := hl i σ H hi p
  by_cases hlt : i < xs.length
  · refine .inr ⟨⟨xs, xs[i], q, by simp [hlt]⟩, Pv (i + 1), fun σ' H' p' => ⟨xs.length - (i + 1), by omega, rfl, hlt, p'⟩, fun x H' y => ?_⟩
    obtain ⟨e, y⟩ := y
    subst e
    exact hs i x σ _ (y xs q) p
  · have e : i = xs.length := by omega
    subst e
    exact .inl ⟨⟨xs, q, Nat.le_refl _⟩, hd σ H p⟩
theorem for_tup {K : PySem.W.Frag} {a : Addr} {xs : List V} {g : TG} {tb : TS} {D : Ends} {σ : St} {H : Hp} (Pv : Nat → St → Hp → Prop) (h0 : Pv 0 σ H) (hl : ∀ i σ H, i ≤ xs.length → Pv i σ H → SqT K H a xs)
    (hs : ∀ i x σ H, xs[i]? = some x → Pv i σ H → g x σ H fun σ2 H2 => tb { D with nx := PAt Pv (i + 1), ct := PAt Pv (i + 1), bk := D.nx } σ2 H2) (hd : ∀ σ H, Pv xs.length σ H → D.nx σ H) :
    ∃ W : Nat → Nat → St → Hp → Prop, (∃ m, W 0 m σ H) ∧ ∀ i m σ H, W i m σ H →
      ((Itt K a).stop i H ∧ D.nx σ H) ∨ ((Itt K a).go i H ∧ ∃ N : St → Hp → Prop, (∀ σ' H', N σ' H' → ∃ m', m' < m ∧ W (i + 1) m' σ' H') ∧ ∀ x H', (Itt K a).yld i H x H' → g x σ H' fun σ2 H2 => tb { D with nx := N, ct := N, bk := D.nx } σ2 H2) := by
  refine ⟨fun i m σ H => m = xs.length - i ∧ i ≤ xs.length ∧ Pv i σ H, ⟨xs.length, by simp, Nat.zero_le _, h0⟩, ?_⟩
  rintro i m σ H ⟨rfl, hi, p⟩
  have q := hl i σ H hi p
  by_cases hlt : i < xs.length
  · refine .inr ⟨⟨xs, xs[i], q, by simp [hlt]⟩, Pv (i + 1), fun σ' H' p' => ⟨xs.length - (i + 1), by omega, rfl, hlt, p'⟩, fun x H' y => ?_⟩
    obtain ⟨e, y⟩ := y
    subst e
    exact hs i x σ _ (y xs q) p
  · have e : i = xs.length := by omega
    subst e
    exact .inl ⟨⟨xs, q, Nat.le_refl _⟩, hd σ H p⟩
theorem for_range {lo : Int} {n : Nat} {g : TG} {tb : TS} {D : Ends} {σ : St} {H : Hp} (Pv : Nat → St → Hp → Prop) (h0 : Pv 0 σ H)
    (hs : ∀ i σ H, i < n → Pv i σ H → g (.int (lo + i)) σ H fun σ2 H2 => tb { D with nx := PAt Pv (i + 1), ct := PAt Pv (i + 1), bk := D.nx } σ2 H2) (hd : ∀ σ H, Pv n σ H → D.nx σ H) :
    ∃ W : Nat → Nat → St → Hp → Prop, (∃ m, W 0 m σ H) ∧ ∀ i m σ H, W i m σ H →
      ((Itr lo n).stop i H ∧ D.nx σ H) ∨ ((Itr lo n).go i H ∧ ∃ N : St → Hp → Prop, (∀ σ' H', N σ' H' → ∃ m', m' < m ∧ W (i + 1) m' σ' H') ∧ ∀ x H', (Itr lo n).yld i H x H' → g x σ H' fun σ2 H2 => tb { D with nx := N, ct := N, bk := D.nx } σ2 H2) := by
  refine ⟨fun i m σ H => m = n - i ∧ i ≤ n ∧ Pv i σ H, ⟨n, by simp, Nat.zero_le _, h0⟩, ?_⟩
  rintro i m σ H ⟨rfl, hi, p⟩
  by_cases hlt : i < n
  · refine .inr ⟨hlt, Pv (i + 1), fun σ' H' p' => ⟨n - (i + 1), by omega, rfl, hlt, p'⟩, fun x H' y => ?_⟩
    obtain ⟨e, y⟩ := y
    subst e y
    exact hs i σ _ hlt p
  · have e : i = n := by omega
    subst e
    exact .inl ⟨Nat.le_refl _, hd σ H p⟩
end L2
namespace L2
open PySem PySem.Spec PyProof.Rows
abbrev R2 := V → V → Hp → VK → Prop
def OpR (X : Cx) (f : Value → Value → Sem Value) (r : R2) : Prop :=
  ∀ (pins : List (Addr × Obj)) (s : Shared) (σ : St) (H : Hp) (x y : V) (v u : Value) (Q : VK), Inv X pins σ H s → RelV x v → RelV y u → r x y H Q →
    wpAny (model X.prog X.w) X.A (f v u) (EP X pins σ Q) X.xe s
def UnR (X : Cx) (f : Value → Sem Value) (r : V → Hp → VK → Prop) : Prop :=
  ∀ (pins : List (Addr × Obj)) (s : Shared) (σ : St) (H : Hp) (x : V) (v : Value) (Q : VK), Inv X pins σ H s → RelV x v → r x H Q →
    wpAny (model X.prog X.w) X.A (f v) (EP X pins σ Q) X.xe s
def CallR (X : Cx) (f : Value) (r : List V → Hp → VK → Prop) : Prop :=
  ∀ (pins : List (Addr × Obj)) (s : Shared) (σ : St) (H : Hp) (xs : List V) (us : List Value) (Q : VK), Inv X pins σ H s → Vals xs us → r xs H Q →
    wpAny (model X.prog X.w) X.A (call f us) (EP X pins σ Q) X.xe s
def tOp (r : R2) (ta tb : TE) : TE := fun σ H Q => ta σ H fun x H1 => tb σ H1 fun y H2 => r x y H2 Q
def tUn (r : V → Hp → VK → Prop) (ta : TE) : TE := fun σ H Q => ta σ H fun x H1 => r x H1 Q
def rI (C : Int → Int → Prop) (g : Int → Int → V) : R2 := fun x y H Q => ∃ i j, x = .int i ∧ y = .int j ∧ C i j ∧ Q (g i j) H
def rI0 (g : Int → Int → V) : R2 := fun x y H Q => ∃ i j, x = .int i ∧ y = .int j ∧ Q (g i j) H
def rU (g : Int → V) : V → Hp → VK → Prop := fun x H Q => ∃ i, x = .int i ∧ Q (g i) H
section
variable {X : Cx} {a b c : Expr} {ta tb tc : TE} {pos : Pos}
theorem binT (ha : PE X a ta) (hb : PE X b tb) {pins : List (Addr × Obj)} {s : Shared} {σ : St} {H : Hp} {R : V → V → Hp → Prop} (I : Inv X pins σ H s)
    (h : ta σ H fun x H1 => tb σ H1 fun y H2 => R x y H2) {Q : Value → Shared → Prop} {f : Value → Value → Sem Value}
    (hf : ∀ v u s2 x y H2, Inv X pins σ H2 s2 → RelV x v → RelV y u → R x y H2 → wpAny (model X.prog X.w) X.A (f v u) Q X.xe s2) :
    wpAny (model X.prog X.w) X.A (eval a X.env) (fun v s₁ => wpAny (model X.prog X.w) X.A (eval b X.env) (fun u s₂ => wpAny (model X.prog X.w) X.A (f v u) Q X.xe s₂) X.xe s₁) X.xe s := by
  refine thn (ha pins s σ H _ I h) fun v s1 ⟨x, H1, I1, r1, q1⟩ => ?_
  refine thn (hb pins s1 σ H1 _ I1 q1) fun u s2 ⟨y, H2, I2, r2, q2⟩ => ?_
  exact hf v u s2 x y H2 I2 r1 r2 q2
theorem pe_op {op : Operator} {r : R2} (ho : OpR X (binaryOp op) r) (ha : PE X a ta) (hb : PE X b tb) : PE X (.BinOp a op b pos) (tOp r ta tb) := by
  intro pins s σ H Q I h
  exact wpAny_BinOp (binT ha hb I h fun v u s2 x y H2 I2 rx ry q => ho pins s2 σ H2 x y v u Q I2 rx ry q)
theorem pe_un {op : UnaryOp} {r : V → Hp → VK → Prop} (ho : UnR X (unaryOp op) r) (ha : PE X a ta) : PE X (.UnaryOp op a pos) (tUn r ta) := by
  intro pins s σ H Q I h
  exact UnaryOp_ (thn (ha pins s σ H _ I h) fun v s1 ⟨x, H1, I1, r1, q1⟩ => ho pins s1 σ H1 x v Q I1 r1 q1)
theorem opI {f : Value → Value → Sem Value} {C : Int → Int → Prop} {g : Int → Int → Int}
    (rule : ∀ (i j : Int) (t u : Tok) (s : Shared) (Q : Value → Shared → Prop) (E : Value → Shared → Prop), C i j → Q (.int (g i j) s.toks) { s with toks := s.toks + 1 } → wpAny (model X.prog X.w) X.A (f (.int i t) (.int j u)) Q E s) :
    OpR X f (rI C fun i j => .int (g i j)) := by
  intro pins s σ H x y v u Q I rx ry h
  obtain ⟨i, j, rfl, rfl, hc, q⟩ := h
  obtain ⟨t, rfl⟩ := rx
  obtain ⟨t', rfl⟩ := ry
  exact rule i j t t' s _ _ hc ⟨.int (g i j), H, I.tok _, ⟨_, rfl⟩, q⟩
theorem opI0 {f : Value → Value → Sem Value} {g : Int → Int → Int}
    (rule : ∀ (i j : Int) (t u : Tok) (s : Shared) (Q : Value → Shared → Prop) (E : Value → Shared → Prop), Q (.int (g i j) s.toks) { s with toks := s.toks + 1 } → wpAny (model X.prog X.w) X.A (f (.int i t) (.int j u)) Q E s) :
    OpR X f (rI0 fun i j => .int (g i j)) := by
  intro pins s σ H x y v u Q I rx ry h
  obtain ⟨i, j, rfl, rfl, q⟩ := h
  obtain ⟨t, rfl⟩ := rx
  obtain ⟨t', rfl⟩ := ry
  exact rule i j t t' s _ _ ⟨.int (g i j), H, I.tok _, ⟨_, rfl⟩, q⟩
theorem opB0 {f : Value → Value → Sem Value} {g : Int → Int → Bool}
    (rule : ∀ (i j : Int) (t u : Tok) (s : Shared) (Q : Value → Shared → Prop) (E : Value → Shared → Prop), Q (.bool (g i j)) s → wpAny (model X.prog X.w) X.A (f (.int i t) (.int j u)) Q E s) :
    OpR X f (rI0 fun i j => .bl (g i j)) := by
  intro pins s σ H x y v u Q I rx ry h
  obtain ⟨i, j, rfl, rfl, q⟩ := h
  obtain ⟨t, rfl⟩ := rx
  obtain ⟨t', rfl⟩ := ry
  exact rule i j t t' s _ _ ⟨.bl (g i j), H, I, rfl, q⟩
def CDiv (i j : Int) : Prop := 0 < j ∧ j < 1073741824
def CPow (i j : Int) : Prop := 0 ≤ j ∧ j ≤ 1000000 ∧ i.natAbs < 2 ^ 64
def CMul (i j : Int) : Prop := (-(2 ^ 64) < i ∧ i < 2 ^ 64) ∨ (-(2 ^ 64) < j ∧ j < 2 ^ 64)
theorem CMul.ok {i j : Int} (h : CMul i j) : IntMulOk i j := by
  rcases h with ⟨h1, h2⟩ | ⟨h1, h2⟩
  · exact .of_left (intBits_le_64 h1 h2)
  · exact .of_right (intBits_le_64 h1 h2)
theorem op_add : OpR X (binaryOp .Add) (rI0 fun i j => .int (i + j)) := opI0 fun _ _ _ _ _ _ _ q => add_int q
theorem op_sub : OpR X (binaryOp .Sub) (rI0 fun i j => .int (i - j)) := opI0 fun _ _ _ _ _ _ _ q => sub_int q
theorem op_mul : OpR X (binaryOp .Mult) (rI CMul fun i j => .int (i * j)) := opI fun _ _ _ _ _ _ _ hc q => mul_int q hc.ok
theorem op_fdiv : OpR X (binaryOp .FloorDiv) (rI CDiv fun i j => .int (i / j)) := opI fun i j _ _ _ _ _ hc q => by
  have h1 : (0 : Int) < j := hc.1
  have h2 : j < 1073741824 := hc.2
  exact floordiv_int (by omega) (by rw [Int.fdiv_eq_ediv_of_nonneg i (by omega)]; exact q) (.inl (PyProof.noPylong_small (by omega)))
theorem op_mod : OpR X (binaryOp .Mod) (rI (fun _ j => 0 < j) fun i j => .int (i % j)) := opI fun i j _ _ _ _ _ hc q => by
  have h1 : (0 : Int) < j := hc
  exact mod_int' (by omega) (by rw [Int.fmod_eq_emod_of_nonneg i (by omega)]; exact q)
theorem op_pow : OpR X (binaryOp .Pow) (rI CPow fun i j => .int (i ^ j.toNat)) := opI fun _ _ _ _ _ _ _ hc q => pow_int_small hc.1 hc.2.1 hc.2.2 q
theorem unI {f : Value → Sem Value} {g : Int → Int}
    (rule : ∀ (i : Int) (t : Tok) (s : Shared) (Q : Value → Shared → Prop) (E : Value → Shared → Prop), Q (.int (g i) s.toks) { s with toks := s.toks + 1 } → wpAny (model X.prog X.w) X.A (f (.int i t)) Q E s) :
    UnR X f (rU fun i => .int (g i)) := by
  intro pins s σ H x v Q I rx h
  obtain ⟨i, rfl, q⟩ := h
  obtain ⟨t, rfl⟩ := rx
  exact rule i t s _ _ ⟨.int (g i), H, I.tok _, ⟨_, rfl⟩, q⟩
theorem un_neg : UnR X (unaryOp .USub) (rU fun i => .int (-i)) := unI fun _ _ _ _ _ q => neg_int q
end
def scal : V → V → Bool
  | .non, .non => true | .non, .int _ => true | .int _, .non => true | .non, .bl _ => true | .bl _, .non => true | .non, .str _ => true | .str _, .non => true
  | .int _, .int _ => true | .bl _, .bl _ => true | .str _, .str _ => true | .byt _, .byt _ => true
  | .int _, .str _ => true | .str _, .int _ => true | .bl _, .str _ => true | .str _, .bl _ => true
  | _, _ => false
def rEq : R2 := fun x y H Q => scal x y = true ∧ Q (.bl (decide (x = y))) H
def rNe : R2 := fun x y H Q => scal x y = true ∧ Q (.bl (!decide (x = y))) H
theorem dec_int {i j : Int} : decide (V.int i = V.int j) = (i == j) := by
  rw [Bool.eq_iff_iff]
  simp
theorem dec_bl {i j : Bool} : decide (V.bl i = V.bl j) = (i == j) := by
  rw [Bool.eq_iff_iff]
  simp
theorem dec_str {i j : Str} : decide (V.str i = V.str j) = (i == j) := by
  rw [Bool.eq_iff_iff]
  simp
theorem dec_byt {i j : Array UInt8} : decide (V.byt i = V.byt j) = (i.toList == j.toList) := by
  rw [Bool.eq_iff_iff]
  cases i
  cases j
  simp
section
variable {X : Cx} {a b c : Expr} {ta tb tc : TE} {pos : Pos}
theorem fin_bl {pins : List (Addr × Obj)} {σ : St} {H : Hp} {s : Shared} {Q : VK} {k k' : Bool} (I : Inv X pins σ H s) (q : Q (.bl k) H) (e : k = k') : EP X pins σ Q (.bool k') s := by
  subst e
  exact ⟨.bl k, H, I, rfl, q⟩
theorem op_eq : OpR X (compareOp .Eq) rEq := by
  intro pins s σ H x y v u Q I rx ry h
  obtain ⟨hs, q⟩ := h
  cases x with
  | non =>
    cases rx
    cases y with
    | non => cases ry; exact PySem.EqNone.eq_none_none (fin_bl I q (by simp))
    | bl j => cases ry; exact PySem.EqNone.eq_none_bool (fin_bl I q (by simp))
    | int j => obtain ⟨t', rfl⟩ := ry; exact PySem.EqNone.eq_none_int (fin_bl I q (by simp))
    | str j => obtain ⟨t', rfl⟩ := ry; exact PySem.EqNone.eq_none_str (fin_bl I q (by simp))
    | _ => exact absurd (show false = true from hs) Bool.false_ne_true
  | bl i =>
    cases rx
    cases y with
    | non => cases ry; exact PySem.EqNone.eq_bool_none (fin_bl I q (by simp))
    | bl j => cases ry; exact eq_bool (fin_bl I q dec_bl)
    | str j => obtain ⟨t', rfl⟩ := ry; exact PySem.EqMixed.eq_bool_str (fin_bl I q (by simp))
    | _ => exact absurd (show false = true from hs) Bool.false_ne_true
  | int i =>
    obtain ⟨t, rfl⟩ := rx
    cases y with
    | non => cases ry; exact PySem.EqNone.eq_int_none (fin_bl I q (by simp))
    | int j => obtain ⟨t', rfl⟩ := ry; exact eq_int (fin_bl I q dec_int)
    | str j => obtain ⟨t', rfl⟩ := ry; exact PySem.EqMixed.eq_int_str (fin_bl I q (by simp))
    | _ => exact absurd (show false = true from hs) Bool.false_ne_true
  | str i =>
    obtain ⟨t, rfl⟩ := rx
    cases y with
    | non => cases ry; exact PySem.EqNone.eq_str_none (fin_bl I q (by simp))
    | bl j => cases ry; exact PySem.EqMixed.eq_str_bool (fin_bl I q (by simp))
    | int j => obtain ⟨t', rfl⟩ := ry; exact PySem.EqMixed.eq_str_int (fin_bl I q (by simp))
    | str j => obtain ⟨t', rfl⟩ := ry; exact eq_str (fin_bl I q dec_str)
    | _ => exact absurd (show false = true from hs) Bool.false_ne_true
  | byt i =>
    obtain ⟨t, rfl⟩ := rx
    cases y with
    | byt j => obtain ⟨t', rfl⟩ := ry; exact PySem.W.eq_bytes (fin_bl I q dec_byt)
    | _ => exact absurd (show false = true from hs) Bool.false_ne_true
  | _ => cases y <;> exact absurd (show false = true from hs) Bool.false_ne_true
theorem op_ne : OpR X (compareOp .NotEq) rNe := by
  intro pins s σ H x y v u Q I rx ry h
  obtain ⟨hs, q⟩ := h
  cases x with
  | non =>
    cases rx
    cases y with
    | non => cases ry; exact PySem.EqNone.ne_none_none (fin_bl I q (by simp))
    | bl j => cases ry; exact PySem.EqNone.ne_none_bool (fin_bl I q (by simp))
    | int j => obtain ⟨t', rfl⟩ := ry; exact PySem.EqNone.ne_none_int (fin_bl I q (by simp))
    | str j => obtain ⟨t', rfl⟩ := ry; exact PySem.EqNone.ne_none_str (fin_bl I q (by simp))
    | _ => exact absurd (show false = true from hs) Bool.false_ne_true
  | bl i =>
    cases rx
    cases y with
    | non => cases ry; exact PySem.EqNone.ne_bool_none (fin_bl I q (by simp))
    | bl j => cases ry; exact ne_bool (fin_bl I q (congrArg not dec_bl))
    | str j => obtain ⟨t', rfl⟩ := ry; exact PySem.EqMixed.ne_bool_str (fin_bl I q (by simp))
    | _ => exact absurd (show false = true from hs) Bool.false_ne_true
  | int i =>
    obtain ⟨t, rfl⟩ := rx
    cases y with
    | non => cases ry; exact PySem.EqNone.ne_int_none (fin_bl I q (by simp))
    | int j => obtain ⟨t', rfl⟩ := ry; exact ne_int (fin_bl I q (congrArg not dec_int))
    | str j => obtain ⟨t', rfl⟩ := ry; exact PySem.EqMixed.ne_int_str (fin_bl I q (by simp))
    | _ => exact absurd (show false = true from hs) Bool.false_ne_true
  | str i =>
    obtain ⟨t, rfl⟩ := rx
    cases y with
    | non => cases ry; exact PySem.EqNone.ne_str_none (fin_bl I q (by simp))
    | bl j => cases ry; exact PySem.EqMixed.ne_str_bool (fin_bl I q (by simp))
    | int j => obtain ⟨t', rfl⟩ := ry; exact PySem.EqMixed.ne_str_int (fin_bl I q (by simp))
    | str j => obtain ⟨t', rfl⟩ := ry; exact ne_str (fin_bl I q (congrArg not dec_str))
    | _ => exact absurd (show false = true from hs) Bool.false_ne_true
  | byt i =>
    obtain ⟨t, rfl⟩ := rx
    cases y with
    | byt j => obtain ⟨t', rfl⟩ := ry; exact PySem.W.ne_bytes (fin_bl I q (congrArg not dec_byt))
    | _ => exact absurd (show false = true from hs) Bool.false_ne_true
  | _ => cases y <;> exact absurd (show false = true from hs) Bool.false_ne_true
theorem op_lt : OpR X (compareOp .Lt) (rI0 fun i j => .bl (decide (i < j))) := opB0 fun _ _ _ _ _ _ _ q => lt_int q
theorem op_le : OpR X (compareOp .LtE) (rI0 fun i j => .bl (decide (i ≤ j))) := opB0 fun _ _ _ _ _ _ _ q => le_int q
theorem op_gt : OpR X (compareOp .Gt) (rI0 fun i j => .bl (decide (j < i))) := opB0 fun _ _ _ _ _ _ _ q => gt_int q
theorem op_lt_str : OpR X (compareOp .Lt) (fun x y H Q => ∃ i j, x = .str i ∧ y = .str j ∧ Q (.bl (decide (i.cps.toList < j.cps.toList))) H) := by
  intro pins s σ H x y v u Q I rx ry h
  obtain ⟨i, j, rfl, rfl, q⟩ := h
  obtain ⟨t, rfl⟩ := rx
  obtain ⟨t', rfl⟩ := ry
  exact lt_str (fin_bl I q rfl)
theorem op_in_str : OpR X (compareOp .In) (fun x y H Q => ∃ i j, x = .str i ∧ y = .str j ∧ Q (.bl (!(Builtin.Str.occurrences j i 0 j.length 1).isEmpty)) H) := by
  intro pins s σ H x y v u Q I rx ry h
  obtain ⟨i, j, rfl, rfl, q⟩ := h
  obtain ⟨t, rfl⟩ := rx
  obtain ⟨t', rfl⟩ := ry
  exact in_str (fin_bl I q rfl)
theorem OpR.or {f : Value → Value → Sem Value} {r r' : R2} (h : OpR X f r) (h' : OpR X f r') : OpR X f (fun x y H Q => r x y H Q ∨ r' x y H Q) := by
  intro pins s σ H x y v u Q I rx ry q
  rcases q with q | q
  · exact h pins s σ H x y v u Q I rx ry q
  · exact h' pins s σ H x y v u Q I rx ry q
theorem nomark (b : Expr) {op : CmpOp} (h : op ≠ .In := by decide) (h2 : op ≠ .NotIn := by decide) : behindInMarks op b = false := by
  have e1 : (op == CmpOp.In) = false := by cases op <;> first | rfl | exact absurd rfl h
  have e2 : (op == CmpOp.NotIn) = false := by cases op <;> first | rfl | exact absurd rfl h2
  cases b <;> simp [behindInMarks, e1, e2]
theorem pe_cmpR {op : CmpOp} {r : R2} (ho : OpR X (compareOp op) r) (ha : PE X a ta) (hb : PE X b tb) (hm : behindInMarks op b = false) : PE X (.Compare a [op] [b] pos) (tOp r ta tb) := by
  intro pins s σ H Q I h
  exact wpAny_Compare1 (binT ha hb I h fun v u s2 x y H2 I2 rx ry q => ho pins s2 σ H2 x y v u Q I2 rx ry q) hm
def tTest (t : TE) : TT := fun σ H Q => t σ H fun x H' => ∃ k, x = .bl k ∧ Q k H'
theorem pt_cmpR {op : CmpOp} {r : R2} (ho : OpR X (compareOp op) r) (ha : PE X a ta) (hb : PE X b tb) (hm : behindInMarks op b = false) : PT X (.Compare a [op] [b] pos) (tTest (tOp r ta tb)) := by
  intro pins s σ H Q I h
  refine wpAny_isTrue_Compare1 (thn (ha pins s σ H _ I h) fun v s1 ⟨x, H1, I1, r1, q1⟩ => thn (hb pins s1 σ H1 _ I1 q1) fun u s2 ⟨y, H2, I2, r2, q2⟩ =>
    thn (ho pins s2 σ H2 x y v u _ I2 r1 r2 q2) fun c s3 ⟨z, H3, I3, r3, k, e, q3⟩ => ?_) hm
  subst e
  cases r3
  exact wpAny_truthy_bool ⟨H3, I3, q3⟩
def tChain (r r' : R2) (ta tb tc : TE) : TE := fun σ H Q => ta σ H fun x H1 => tb σ H1 fun y H2 => r x y H2 fun z H3 => ∃ k, z = .bl k ∧
  (if k = true then tc σ H3 fun w' H4 => r' y w' H4 Q else Q (.bl false) H3)
theorem pt_chain {op op' : CmpOp} {r r' : R2} (ho : OpR X (compareOp op) r) (ho' : OpR X (compareOp op') r') (ha : PE X a ta) (hb : PE X b tb) (hc : PE X c tc)
    (hm : lastMarks [op, op'] [b, c] = false := by with_unfolding_all rfl) : PT X (.Compare a [op, op'] [b, c] pos) (tTest (tChain r r' ta tb tc)) := by
  intro pins s σ H Q I h
  refine isTrue_chain (thn (ha pins s σ H _ I h) fun v s1 ⟨x, H1, I1, r1, q1⟩ => test_link (thn (hb pins s1 σ H1 _ I1 q1) fun u s2 ⟨y, H2, I2, r2, q2⟩ =>
    thn (ho pins s2 σ H2 x y v u _ I2 r1 r2 q2) fun d s3 ⟨z, H3, I3, r3, k, e, q3⟩ => ?_)) hm
  subst e
  cases r3
  refine wpAny_truthy_bool ?_
  cases k with
  | false =>
    obtain ⟨k', e', q'⟩ := q3
    cases e'
    exact ite_ff ⟨H3, I3, q'⟩
  | true =>
    refine ite_tt (test_last (thn (hc pins s3 σ H3 _ I3 q3) fun w' s4 ⟨z', H4, I4, r4, q4⟩ => thn (ho' pins s4 σ H4 y z' u w' _ I4 r2 r4 q4) fun d' s5 ⟨z2, H5, I5, r5, k2, e2, q5⟩ => ?_))
    subst e2
    cases r5
    exact wpAny_truthy_bool ⟨H5, I5, q5⟩
theorem line63 : (sizeLine : Nat) < 2 ^ 63 := by rw [sizeLine_eq]; decide
theorem op_add_str : OpR X (binaryOp .Add) (fun x y H Q => ∃ i j, x = .str i ∧ y = .str j ∧ i.length + j.length ≤ sizeLine ∧ Q (.str (i ++ j)) H) := by
  intro pins s σ H x y v u Q I rx ry h
  obtain ⟨i, j, rfl, rfl, hz, q⟩ := h
  obtain ⟨t, rfl⟩ := rx
  obtain ⟨t', rfl⟩ := ry
  exact wpAny_with_toks (n := 1) I.tk (add_str (fun t' tk ht => ⟨.str (i ++ j), H, I.tok _ ht, ⟨_, rfl⟩, q⟩) hz)
theorem vals1 {x : V} {us : List Value} (r : Vals [x] us) : ∃ u, us = [u] ∧ RelV x u := by
  cases r with
  | cons r1 r2 => cases r2; exact ⟨_, rfl, r1⟩
theorem vals2 {x y : V} {us : List Value} (r : Vals [x, y] us) : ∃ u w', us = [u, w'] ∧ RelV x u ∧ RelV y w' := by
  cases r with
  | cons r1 r2 =>
    cases r2 with
    | cons r3 r4 => cases r4; exact ⟨_, _, rfl, r1, r3⟩
theorem call_int1 : CallR X (.type "int") (fun xs H Q => (∃ i, xs = [.int i] ∧ Q (.int i) H) ∨ ∃ k, xs = [.bl k] ∧ Q (.int (if k then 1 else 0)) H) := by
  intro pins s σ H xs us Q I r h
  rcases h with ⟨i, rfl, q⟩ | ⟨k, rfl, q⟩
  · obtain ⟨u, rfl, t, rfl⟩ := vals1 r
    exact call_int_int ⟨.int i, H, I, ⟨_, rfl⟩, q⟩
  · obtain ⟨u, rfl, r1⟩ := vals1 r
    cases r1
    exact call_int_bool ⟨.int (if k then 1 else 0), H, I.tok _, ⟨_, rfl⟩, q⟩
end
end L2
namespace L2
open PySem PySem.Spec PyProof.Rows
structure ObjM (h : Heap) (x dx C : Addr) (mA : Str → Option Value) : Prop where
  obj : h.get? x = some (PySem.W.instObj C dx)
  ns : h.Ns1 dx mA
  ne : dx ≠ x
theorem lookIn_ns {h : Heap} {dx : Addr} {mA : Str → Option Value} (n : h.Ns1 dx mA) : ∃ od, h.get? dx = some od ∧ ∀ name, PySem.W.lookIn name od = some (mA name) := by
  obtain ⟨o, es, ep, ho, hd, hk, _, hm⟩ := n
  refine ⟨o, ho, fun name => ?_⟩
  have e := hm name
  unfold nsFind findBy at e
  rw [← Array.find?_toList] at e
  unfold PySem.W.lookIn
  rw [hd]
  dsimp only
  split
  · rename_i y q
    rw [q] at e
    exact congrArg some e
  · rename_i q
    rw [q] at e
    have a : es.toList.any (·.refKey) = false := by
      rw [List.any_eq_false]
      intro y hy
      obtain ⟨z, t, hkey⟩ := hk y (Array.mem_toList_iff.mp hy)
      simp [DictEntry.refKey, hkey]
    have a' : ¬ es.toList.any (·.refKey) = true := by rw [a]; exact Bool.false_ne_true
    rw [if_neg a']
    exact congrArg some e
theorem ObjM.look {h : Heap} {x dx C : Addr} {mA : Str → Option Value} (I : ObjM h x dx C mA) : ∃ od, PySem.W.InstAt h x (PySem.W.instObj C dx) C (some od) ∧ ∀ name, PySem.W.lookIn name od = some (mA name) :=
  let ⟨od, ho, hl⟩ := lookIn_ns I.ns
  ⟨od, ⟨I.obj, rfl, rfl, ho⟩, hl⟩
section
variable {prog : Program} {w : World} {A : Around} {E : Value → Shared → Prop} {s : Shared} {K : PySem.W.Frag} {x dx C f : Addr} {mA : Str → Option Value} {name : Str} {v : Value}
end
theorem RelO.some_of {v : V} {o : Option Value} (r : RelO (some v) o) : ∃ u, o = some u ∧ RelV v u := by
  cases o with
  | none => exact (show False from r).elim
  | some u => exact ⟨u, rfl, r⟩
section
variable {P : Program} {w : World} {H H' : Hp} {h h' : Heap} {a C dx : Addr} {fs fs' : List (Str × V)}
theorem ins_get (hok : HOk P w H h) (e : H a = some (.ins C dx fs)) : ∃ mA, ObjM h a dx C mA ∧ (∀ f, RelO (fs.lookup f) (mA f)) ∧ PySem.Within mA (fs.map (·.1)) ∧ fs.length ≤ 1000 ∧ H dx = some (.own a) := by
  obtain ⟨d, z, ne, ob, mA, n, r, q⟩ := (show ObjOk P w H h a (.ins C dx fs) from hok a _ e)
  exact ⟨mA, ⟨ob, n, ne⟩, r, q, z, d⟩
end
structure Cls (K : PySem.W.Frag) (C : Addr) : Prop where
  pg : PySem.W.plainGet K C Str.empty = true
  hd : PySem.W.hasDictIn K C = true
  po : PySem.W.plainOver K C = true
  sa : PySem.W.findIn K (.ref C) "__setattr__" = some (some (.builtin "object.__setattr__"))
theorem Cls.get {K : PySem.W.Frag} {C : Addr} (c : Cls K C) (f : Str) : PySem.W.plainGet K C f = true := c.pg
section
variable {X : Cx} {pins : List (Addr × Obj)} {σ : St} {H : Hp} {s : Shared} {a C dx : Addr} {fs : List (Str × V)} {f : Str} {v : V} {A : Around} {E : Value → Shared → Prop}
end
section
variable {X : Cx} {o e value : Expr} {f : Str} {pos pos' tpos : Pos} {ta tv : TE}
end
section
variable {X : Cx} {pins : List (Addr × Obj)} {σ : St} {H : Hp} {s : Shared} {A : Around} {E : Value → Shared → Prop} {Q : Value → Shared → Prop} {c : Value} {b : Bool}
inductive TyOf (K : PySem.W.Frag) (H : Hp) : V → Value → Prop where
  | non : TyOf K H .non (.type "NoneType")
  | bl (x : Bool) : TyOf K H (.bl x) (.type "bool")
  | int (i : Int) : TyOf K H (.int i) (.type "int")
  | str (x : Str) : TyOf K H (.str x) (.type "str")
  | flt (x : UInt64) : TyOf K H (.flt x) (.type "float")
  | lst {a : Addr} {xs : List V} (e : H a = some (.lst xs)) : TyOf K H (.ref a) (.type "list")
  | frz {a : Addr} {o : Obj} {xs : List V} (e : H a = some (.frz o (.lst xs))) : TyOf K H (.ref a) (.type "list")
  | tup {a : Addr} {xs : List V} (e : H a = some (.tup xs)) : TyOf K H (.ref a) (.type "tuple")
  | dK {a : Addr} {kvs : List (Key × V)} (e : H a = some (.dK kvs)) : TyOf K H (.ref a) (.type "dict")
  | dT {a : Addr} {kvs : List (List Key × V)} (e : H a = some (.dT kvs)) : TyOf K H (.ref a) (.type "dict")
  | ins {a C dx : Addr} {fs : List (Str × V)} (e : H a = some (.ins C dx fs)) (cl : Cls K C) (ha : PySem.W.findIn K (.ref C) "__class__" = some (some (.builtin "object.__class__")))
      (hn : PySem.W.specialIn K (.builtin "object.__class__") "__get__" = some (some (.builtin "getset_descriptor.__get__"))) (htk : PySem.W.takesIn K (.builtin "object.__class__") = some true)
      (hm : PySem.W.mroIn K C (.type "object") = some true) : TyOf K H (.ref a) (.ref C)
theorem isinst_ok {x : V} {u t : Value} (I : Inv X pins σ H s) (rx : RelV x u) (ty : TyOf X.K H x t) (e : PySem.W.kitOne X.K t c = some b) (h : ∀ tk, Q (.bool b) { s with toks := tk }) :
    wpAny (model X.prog X.w) A (call (.builtin "isinstance") [u, c]) Q E s := by
  cases ty with
  | non => cases (show u = Value.none from rx); exact PySem.W.kia_one PySem.W.kitx_none I.kIn True.intro e (fun z => nomatch z) h
  | bl y => cases (show u = Value.bool y from rx); exact PySem.W.kia_one PySem.W.kitx_bool I.kIn True.intro e (fun z => nomatch z) h
  | int i => obtain ⟨t, q⟩ := (show ∃ t, u = Value.int i t from rx); cases q; exact PySem.W.kia_one PySem.W.kitx_int I.kIn True.intro e (fun z => nomatch z) h
  | str y => obtain ⟨t, q⟩ := (show ∃ t, u = Value.str y t from rx); cases q; exact PySem.W.kia_one PySem.W.kitx_str I.kIn True.intro e (fun z => nomatch z) h
  | flt y => obtain ⟨t, q⟩ := (show ∃ t, u = Value.float y t from rx); cases q; exact PySem.W.kia_one PySem.W.kitx_float I.kIn True.intro e (fun z => nomatch z) h
  | @lst a xs ea =>
    cases (show u = Value.ref a from rx)
    obtain ⟨_, _, n, _, h1⟩ := (show ObjOk X.prog X.w H s.heap a (.lst xs) from I.hok a _ ea)
    exact PySem.W.kia_one PySem.W.kitx_list I.kIn ⟨_, h1, rfl⟩ e (fun z => nomatch z) h
  | @frz a ob xs ea =>
    cases (show u = Value.ref a from rx)
    obtain ⟨_, _, _, n, _, h1⟩ := (show ObjOk X.prog X.w H s.heap a (.frz ob (.lst xs)) from I.hok a _ ea)
    exact PySem.W.kia_one PySem.W.kitx_list I.kIn ⟨_, h1, rfl⟩ e (fun z => nomatch z) h
  | @tup a xs ea =>
    cases (show u = Value.ref a from rx)
    obtain ⟨_, _, _, p⟩ := (show ObjOk X.prog X.w H s.heap a (.tup xs) from I.hok a _ ea)
    obtain ⟨o, h1, h2, _⟩ := p
    exact PySem.W.kia_one PySem.W.kitx_tuple I.kIn ⟨o, h1, h2⟩ e (fun z => nomatch z) h
  | @dK a kvs ea =>
    cases (show u = Value.ref a from rx)
    obtain ⟨_, _, vs, _, p⟩ := (show ObjOk X.prog X.w H s.heap a (.dK kvs) from I.hok a _ ea)
    obtain ⟨o, es, ep, h1, h2, _⟩ := p
    exact PySem.W.kia_one PySem.W.kitx_dict I.kIn ⟨o, h1, h2.1⟩ e (fun z => nomatch z) h
  | @dT a kvs ea =>
    cases (show u = Value.ref a from rx)
    obtain ⟨_, _, xs, _, o, es, ep, h1, h2, _⟩ := (show ObjOk X.prog X.w H s.heap a (.dT kvs) from I.hok a _ ea)
    exact PySem.W.kia_one PySem.W.kitx_dict I.kIn ⟨o, h1, h2.1⟩ e (fun z => nomatch z) h
  | @ins a C dx fs ea cl ha hn htk hm =>
    cases (show u = Value.ref a from rx)
    obtain ⟨mA, O, _⟩ := ins_get I.hok ea
    obtain ⟨od, J, _⟩ := O.look
    exact PySem.W.kia_one (PySem.W.kitx_own (cl.get _) cl.hd ha hn htk hm) I.kIn J e (fun z => nomatch z) h
end
end L2
namespace L2
open PySem PySem.Spec PyProof.Rows
structure Room (k : Nat) (A : Around) : Prop where
  hd : A.handled = none
  dp : A.depth + 3 * k + 5 < recursionLimit
  un : A.units + 16 * k + 200 < cLine
theorem Room.mono {j k : Nat} {A : Around} (r : Room k A) (h : j ≤ k) : Room j A := ⟨r.hd, by have := r.dp; omega, by have := r.un; omega⟩
theorem Room.deeper {k : Nat} {A : Around} (r : Room (k + 1) A) (env : Env) : Room k (A.deeper env) :=
  ⟨r.hd, by have := r.dp; show A.depth + 1 + 3 * k + 5 < _; omega, by have := r.un; show A.units + 3 + 16 * k + 200 < _; omega⟩
theorem Room.depth {k : Nat} {A : Around} (r : Room k A) : A.depth < recursionLimit := by have := r.dp; omega
theorem Room.units {k : Nat} {A : Around} (r : Room k A) : A.units + 64 < cLine := by have := r.un; omega
def tNil : TA := fun _ H Q => Q [] H
def tCons (ta : TE) (tr : TA) : TA := fun σ H Q => ta σ H fun x H1 => tr σ H1 fun xs H2 => Q (x :: xs) H2
section
variable {X : Cx} {e : Expr} {es : List Expr} {te : TE} {t : TA} {pos : Pos}
theorem pa_nil : PA X [] tNil := fun _ _ _ _ H Q I h => Calls.spliced_nil ⟨[], H, I, .nil, h⟩
theorem pa_cons (ha : PE X e te) (hr : PA X es t) (hs : starEach (e :: es) X.env = (false, eval e X.env) :: starEach es X.env := by rfl) : PA X (e :: es) (tCons te t) := by
  intro pos pins s σ H Q I h
  rw [hs]
  show wpAny _ _ (spliced ((false, eval e X.env) :: backTo pos (starEach es X.env))) _ _ s
  refine Calls.spliced_cons (thn (ha pins s σ H _ I h) fun u s1 ⟨x, H1, I1, r1, q1⟩ => ?_)
  exact thn (hr pos pins s1 σ H1 _ I1 q1) fun us s2 ⟨xs, H2, I2, r2, q2⟩ => ⟨x :: xs, H2, I2, .cons r1 r2, q2⟩
def tTup (t : TA) : TE := fun σ H Q => t σ H fun xs H1 => xs.length ≤ sizeLine ∧ ∀ p, H1 p = none → Q (.ref p) (upd H1 p (.tup xs))
def tLst (t : TA) : TE := fun σ H Q => t σ H fun xs H1 => xs.length ≤ sizeLine ∧ ∀ p, H1 p = none → Q (.ref p) (upd H1 p (.lst xs))
theorem pe_tup {x1} (h : PA X es t) : PE X (.Tuple es x1 pos) (tTup t) := by
  intro pins s σ H Q I hq
  refine wpAny_Tuple_spliced (thn (h pos pins s σ H _ I hq) fun us s1 ⟨xs, H1, I1, r, z, q⟩ => ⟨by rw [← r.length]; exact z, ?_⟩)
  have hf : H1 s1.heap.objs.size = none := I1.hok.fresh (Nat.le_refl _)
  refine ⟨.ref s1.heap.objs.size, upd H1 s1.heap.objs.size (.tup xs), I1.laid (t' := s1.toks) (fun b u e => Heap.get?_push_of_some _ e) (Nat.le_refl _) ?_, rfl, q _ hf⟩
  exact ⟨z, us, r, ⟨_, Heap.get?_push_size _ rfl, rfl, _, rfl⟩⟩
theorem pe_lst (h : PA X es t) : PE X (.List es pos) (tLst t) := by
  intro pins s σ H Q I hq
  refine wpAny_List_spliced (thn (h pos pins s σ H _ I hq) fun us s1 ⟨xs, H1, I1, r, z, q⟩ => ⟨by rw [← r.length]; exact z, ?_⟩)
  have hf : H1 s1.heap.objs.size = none := I1.hok.fresh (Nat.le_refl _)
  refine ⟨.ref s1.heap.objs.size, upd H1 s1.heap.objs.size (.lst xs), I1.laid (t' := s1.toks) (fun b u e => Heap.get?_push_of_some _ e) (Nat.le_refl _) ?_, rfl, q _ hf⟩
  exact ⟨z, us, 0, r, Heap.get?_push_size _ rfl⟩
end
abbrev Sp := List V → Hp → VK → XK → Prop
abbrev CXT := List Env → Hp → Shared → XK → Value → Shared → Prop
structure Env0 (P : Program) (w : World) (K : PySem.W.Frag) (mg : Str → Option Value) (base : Heap) (A : Around) (outer : List Env) (s : Shared) (H : Hp) : Prop where
  frames : A.frames = some outer
  mod : Mod K mg base
  bs : ∀ b o, base.get? b = some o → s.heap.get? b = some o ∧ H b = none
  bsz : base.objs.size ≤ s.heap.objs.size
  funs : s.heap.FunFrames base outer
  frf : ∀ b ∈ frs outer, H b = none
  hok : HOk P w H s.heap
  bare : AllBare s.gens
  tk : 0 < s.toks
def CE (outer : List Env) (P : Program) (w : World) (H : Hp) (s : Shared) (Q : VK) (u : Value) (s' : Shared) : Prop :=
  ∃ v H', 0 < s'.toks ∧ s'.os = s.os ∧ AllBare s'.gens ∧ Un (frs outer) [] H H' s.heap s'.heap ∧ HOk P w H' s'.heap ∧ RelV v u ∧ Q v H'
def CR (CX : CXT) (outer : List Env) (P : Program) (w : World) (H : Hp) (s : Shared) (Q : VK) (E : XK) (r : Result) (s' : Shared) : Prop :=
  match r with
  | .ok (.ret u) => CE outer P w H s Q u s'
  | .ok _ => False
  | .error e => CX outer H s E e s'
structure FnOk (P : Program) (w : World) (K : PySem.W.Frag) (mg : Str → Option Value) (base : Heap) (CX : CXT) (k : Nat) (f : Addr) (fd : FuncData) (ps : List Str) (sp : Sp) : Prop where
  len : ∀ vs H Q E, sp vs H Q E → vs.length = ps.length
  run : ∀ (A : Around) (outer : List Env) (s : Shared) (H : Hp) (args : Args) (us : List Value) (vs : List V) (Q : VK) (E : XK), Room k A → Env0 P w K mg base A outer s H → BindsTo s fd args (ps.zip us) → Vals vs us → sp vs H Q E →
    codeAny (model P w) A (.call (.ref f) args) (CR CX outer P w H s Q E) s
section
variable {X : Cx} {pins : List (Addr × Obj)} {σ : St} {H : Hp} {s s' : Shared}
theorem Inv.env0 (I : Inv X pins σ H s) : Env0 X.prog X.w X.K X.mg X.base X.A X.stack s H :=
  ⟨I.ok.frames, I.ok.mod, I.bs, Nat.le_trans I.ok.bsz I.sz, I.stack, I.stkFree, I.hok, I.bare, I.tk⟩
theorem Inv.after {Q : VK} {u : Value} (I : Inv X pins σ H s) (h : CE X.stack X.prog X.w H s Q u s') : EP X pins σ Q u s' := by
  obtain ⟨v, H', ht, os, bare, un, hok, r, q⟩ := h
  obtain ⟨hh, g, d, t, os'⟩ := s'
  obtain rfl : os' = s.os := os
  exact ⟨v, H', I.call (h' := hh) (g' := g) (d' := d) (t' := t) (ch := []) un hok bare (fun b z => absurd z (by simp)) ht, r, q⟩
end
def tCall (sp : Sp) (dvs : List V) (E : XK) (t : TA) : TE := fun σ H Q => t σ H fun vs H1 => sp (vs ++ dvs) H1 Q E
def Binds (K : PySem.W.Frag) (fd : FuncData) (ps : List Str) (ds : List Value) : Prop :=
  ∀ (s : Shared) (us : List Value), K.In s.heap → (us ++ ds).length = ps.length → BindsTo s fd ⟨us, []⟩ (ps.zip (us ++ ds))
theorem Binds.all {K : PySem.W.Frag} {fd : FuncData} {ps : List Str} (h : ∀ us : List Value, us.length = ps.length → bindArgs fd ⟨us, []⟩ = pure (ps.zip us)) : Binds K fd ps [] := fun s us _ hl => by
  rw [List.append_nil] at hl ⊢
  exact .of_eq (h us hl)
def Passes (CX : CXT) (X : Cx) (E : XK) : Prop := ∀ (pins : List (Addr × Obj)) (σ : St) (H : Hp) (s : Shared) (e : Value) (s' : Shared), Inv X pins σ H s → CX X.stack H s E e s' → X.xe e s'
section
variable {X : Cx} {CX : CXT} {k : Nat} {f C : Addr} {fd : FuncData} {ps : List Str} {sp : Sp} {dvs : List V} {ds : List Value} {E : XK} {x m : Str} {p pos apos : Pos} {e o : Expr} {es : List Expr} {ta : TE} {t : TA}
theorem run_fn {pins : List (Addr × Obj)} {σ : St} {H : Hp} {s : Shared} {Q : VK} {us : List Value} {vs : List V} (F : FnOk X.prog X.w X.K X.mg X.base CX k f fd ps sp) (hr : Room k X.A) (hb : Binds X.K fd ps ds) (hd : Vals dvs ds) (hx : Passes CX X E)
    (I : Inv X pins σ H s) (r : Vals vs us) (h : sp (vs ++ dvs) H Q E) : wpAny (model X.prog X.w) X.A (call (.ref f) us) (EP X pins σ Q) X.xe s := by
  have r2 : Vals (vs ++ dvs) (us ++ ds) := r.append hd
  have hl : (us ++ ds).length = ps.length := by rw [← r2.length]; exact F.len _ _ _ _ h
  refine wpAny_call (codeAny_mono (F.run X.A X.stack s H ⟨us, []⟩ (us ++ ds) (vs ++ dvs) Q E hr I.env0 (hb s us I.kIn hl) r2 h) fun r s' hq => ?_)
  cases r with
  | error e => exact hx pins σ H s e s' I hq
  | ok fl =>
    cases fl with
    | ret u => exact I.after hq
    | next => exact False.elim hq
    | brk => exact False.elim hq
    | cont => exact False.elim hq
theorem pe_call (F : FnOk X.prog X.w X.K X.mg X.base CX k f fd ps sp) (hr : Room k X.A) (hg : Gl X x) (hm : X.mg x = some (.ref f)) (hk : PySem.W.keepIn X.K (.ref f) = true) (hb : Binds X.K fd ps ds) (hd : Vals dvs ds) (hx : Passes CX X E)
    (ha : PA X (e :: es) t) (hdb : (x == ("__debug__" : Str)) = false := by decide) (he : starEach (e :: es) X.env = (false, eval e X.env) :: starEach es X.env := by rfl) (hpl : (backTo pos (starEach es X.env)).any (·.1) = false := by rfl) :
    PE X (.Call (.Name x p) (e :: es) [] pos) (tCall sp dvs E t) := by
  intro pins s σ H Q I h
  refine wpAny_Call_Name_kw (ld_glob I hg hm ?_ hdb)
  refine PySem.W.callWith_K (h₀ := X.base) I.ok.mod.kin hk (thn (ha pos pins s σ H _ I h) fun us s1 ⟨vs, H1, I1, r, q⟩ => ⟨I1.kIn, ?_⟩) he hpl
  exact run_fn F hr hb hd hx I1 r q
end
section
variable {X : Cx} {CX : CXT} {k : Nat} {f C : Addr} {fd : FuncData} {ps ks : List Str} {sp : Sp} {E : XK} {x m : Str} {p pos apos kpos : Pos} {e o : Expr} {es : List Expr} {kws : List Keyword} {te ta : TE} {t tk : TA} {nm : Option Str}
variable {g : List Value → List Value → List Value} {gV : List V → List V → List V}
end
structure FnScope (N P : List Str) (sc : Scope) : Prop where
  kind : sc.kind = .function
  co : sc.isCoroutine = false
  gen : sc.isGenerator = false
  nd : N.Nodup
  pre : N.take P.length = P
  par : ∀ x ∈ P, sc.names.lookup x = some .local ∨ sc.names.lookup x = some .cell
  nofree : ∀ y ∈ sc.names, y.2 ≠ .free
theorem bindL_out {kindOf : Str → Option NameKind} {x : Str} : ∀ {binds : List (Str × Value)} {m : Str → Option Value}, (∀ v, (x, v) ∉ binds) → bindL kindOf binds m x = m x
  | [], _, _ => rfl
  | (n, v) :: r, m, h => by
    unfold bindL
    rw [bindL_out fun w hw => h w (List.mem_cons_of_mem _ hw)]
    split
    · have : x ≠ n := by rintro rfl; exact h v List.mem_cons_self
      simp [this]
    · rfl
theorem bindC_out {kindOf : Str → Option NameKind} {x : Str} : ∀ {binds : List (Str × Value)} {m : Str → Option Value}, (∀ v, (x, v) ∉ binds) → bindC kindOf binds m x = m x
  | [], _, _ => rfl
  | (n, v) :: r, m, h => by
    unfold bindC
    rw [bindC_out fun w hw => h w (List.mem_cons_of_mem _ hw)]
    split
    · rfl
    · have : x ≠ n := by rintro rfl; exact h v List.mem_cons_self
      simp [this]
theorem bindL_get {kindOf : Str → Option NameKind} {x : Str} {v : Value} : ∀ {P : List Str} {vs : List Value} {i : Nat} {m : Str → Option Value}, P.Nodup → P[i]? = some x → vs[i]? = some v → kindOf x = some .local →
    bindL kindOf (P.zip vs) m x = some v
  | [], _, _, _, _, h, _, _ => by simp at h
  | _ :: _, [], _, _, _, _, h, _ => by simp at h
  | p :: P, w :: vs, 0, m, nd, h1, h2, hk => by
    simp at h1 h2; subst h1; subst h2
    show bindL kindOf ((p, w) :: P.zip vs) m p = _
    unfold bindL
    rw [bindL_out fun v hv => (List.nodup_cons.mp nd).1 (List.of_mem_zip hv).1, if_pos hk]
    simp
  | p :: P, w :: vs, i + 1, m, nd, h1, h2, hk => by
    show bindL kindOf ((p, w) :: P.zip vs) m x = _
    unfold bindL
    exact bindL_get (i := i) (List.nodup_cons.mp nd).2 (by simpa using h1) (by simpa using h2) hk
theorem bindC_get {kindOf : Str → Option NameKind} {x : Str} {v : Value} : ∀ {P : List Str} {vs : List Value} {i : Nat} {m : Str → Option Value}, P.Nodup → P[i]? = some x → vs[i]? = some v → kindOf x ≠ some .local →
    bindC kindOf (P.zip vs) m x = some v
  | [], _, _, _, _, h, _, _ => by simp at h
  | _ :: _, [], _, _, _, _, h, _ => by simp at h
  | p :: P, w :: vs, 0, m, nd, h1, h2, hk => by
    simp at h1 h2; subst h1; subst h2
    show bindC kindOf ((p, w) :: P.zip vs) m p = _
    unfold bindC
    rw [bindC_out fun v hv => (List.nodup_cons.mp nd).1 (List.of_mem_zip hv).1, if_neg hk]
    simp
  | p :: P, w :: vs, i + 1, m, nd, h1, h2, hk => by
    show bindC kindOf ((p, w) :: P.zip vs) m x = _
    unfold bindC
    exact bindC_get (i := i) (List.nodup_cons.mp nd).2 (by simpa using h1) (by simpa using h2) hk
def start (N : List Str) (vs : List V) : St := vs.map some ++ List.replicate (N.length - vs.length) none
def cxOf (CX : CXT) (P : Program) (w : World) (K : PySem.W.Frag) (mg : Str → Option Value) (base : Heap) (N : List Str) (qual : Str) (scope : Scope) (f : Addr) (cd : Value) (A : Around) (outer : List Env) (s : Shared) (H : Hp) (E : XK) : Cx where
  prog := P
  w := w
  K := K
  mg := mg
  base := base
  A := A.deeper (envOfC qual scope s.heap.objs.size f cd)
  N := N
  s₀ := s
  H₀ := H
  env := envOfC qual scope s.heap.objs.size f cd
  outer := outer
  stack := envOfC qual scope s.heap.objs.size f cd :: outer
  ex := []
  calm := true
  fn := fun _ => true
  pn := []
  xe := fun e s' => wpAny (model P w) (A.deeper (envOfC qual scope s.heap.objs.size f cd)) (leaving (envOfC qual scope s.heap.objs.size f cd) e) (fun _ s'' => CX outer H s E e s'') (fun e' s'' => CX outer H s E e' s'') s'
theorem cell_has {sc : Scope} {n : Nat} {x : Str} (h : sc.names.lookup x = some .cell) : ∃ c, (cellsFrom n sc.names []).lookup x = some c := by
  have q := PySem.W.cellsFrom_some sc.names n [] (.inl h)
  exact Option.isSome_iff_exists.mp q
theorem inv_start {CX : CXT} {P : Program} {w : World} {K : PySem.W.Frag} {mg : Str → Option Value} {base : Heap} {N ps : List Str} {qual : Str} {scope : Scope} {f : Addr} {cd : Value} {A : Around} {outer : List Env} {s s1 : Shared} {H : Hp} {E : XK} {us : List Value} {vs : List V}
    (S : FnScope N ps scope) (hd : A.handled = none) (e0 : Env0 P w K mg base A outer s H) (hl : vs.length = ps.length) (r : Vals vs us)
    (x : InCallC s s.heap.objs.size (bindL (envOfC qual scope s.heap.objs.size f cd).kindOf (ps.zip us) fun _ => none) (cellsFrom (s.heap.objs.size + 1) scope.names []) (bindC (envOfC qual scope s.heap.objs.size f cd).kindOf (ps.zip us) fun _ => none) s1) (ht : 0 < s1.toks) :
    Inv (cxOf CX P w K mg base N qual scope f cd A outer s H E) [] (start N vs) H s1 := by
  have hpl : ps.length ≤ N.length := by have := congrArg List.length S.pre; rw [List.length_take] at this; omega
  obtain ⟨h1, tk, rfl, hk⟩ := x.done
  have noA : ∀ b : Addr, b ∉ (cxOf CX P w K mg base N qual scope f cd A outer s H E).ex := fun b z => absurd (show b ∈ ([] : List Addr) from z) (by simp)
  refine ⟨⟨e0.mod, S.kind, rfl, rfl, Nat.le_refl _, fun y z c h1 h2 => ?_, fun y hy => ?_, fun y c _ h => ?_, fun _ => hd, Around.frames_deeper e0.frames, .inr ⟨rfl, rfl⟩, fun b z => absurd z (noA b), e0.bs, e0.bsz, fun b _ _ => noA b, fun b z => absurd z (noA b), e0.funs, e0.frf⟩,
    rfl, e0.bare, Un.kept hk, ⟨_, x.toInCall.ns, fun i y v h1 h2 h3 => ?_⟩, fun y c h => ⟨_, x.cell y c h⟩, e0.hok.fresh (Nat.le_refl _), fun y c h => ?_, fun p hp => absurd (show p ∈ ([] : List (Addr × Obj)) from hp) (by simp), e0.hok.kept hk, ?_, ht⟩
  · exact name_of_addr x.apart (PySem.mem_of_lookup h1) (PySem.mem_of_lookup h2)
  · have hy : scope.names.lookup y = some .cell ∨ scope.names.lookup y = some .free := hy
    rcases hy with hy | hy
    · exact cell_has hy
    · exact absurd rfl (S.nofree _ (PySem.mem_of_lookup hy))
  · exact Nat.le_of_lt (x.above y c (PySem.mem_of_lookup h))
  · have hi : i < vs.length := by
      unfold start at h2
      by_cases hi : i < vs.length
      · exact hi
      · rw [List.getElem?_append_right (by simpa using hi)] at h2
        rw [List.getElem?_replicate] at h2
        split at h2 <;> cases h2
    have ha : vs[i]? = some v := by
      unfold start at h2
      rw [List.getElem?_append_left (by simpa using hi), List.getElem?_map] at h2
      cases e : vs[i]? with
      | none => rw [e] at h2; cases h2
      | some a => rw [e] at h2; cases h2; rfl
    obtain ⟨u, hu, rv⟩ := r.get ha
    have hp : ps[i]? = some y := by
      rw [← S.pre, List.getElem?_take_of_lt (by omega)]; exact h1
    have ndP : ps.Nodup := by rw [← S.pre]; exact S.nd.sublist (List.take_sublist _ _)
    refine ⟨u, rv, ?_⟩
    rcases S.par y (List.mem_of_getElem? hp) with k | k
    · exact .inl ⟨k, bindL_get ndP hp hu k⟩
    · obtain ⟨c, e⟩ := cell_has (n := s.heap.objs.size + 1) k
      refine .inr ⟨.inl k, c, e, ?_⟩
      have q := x.cell y c e
      rw [bindC_get ndP hp hu (by show scope.names.lookup y ≠ _; rw [k]; decide)] at q
      exact q
  · exact e0.hok.fresh (Nat.le_of_lt (x.above y c (PySem.mem_of_lookup h)))
  · unfold start
    show _ = N.length
    rw [List.length_append, List.length_map, List.length_replicate]
    omega
theorem fn_of {CX : CXT} {P : Program} {w : World} {K : PySem.W.Frag} {mg : Str → Option Value} {base : Heap} {k : Nat} {f : Addr} {name qual : Str} {params : Arguments} {body : List Stmt} {scope : Scope} {dV kV doc pm cdv ct oc : Value} {an od : Option Addr}
    {osl : Array (Option Value)} {N ps : List Str} {sp : Sp} (lk : K.lookup f = some ⟨oc, od, .func (PySem.W.fnOf name qual params body scope dV kV doc pm an cdv ct), osl⟩) (hcd : PySem.W.codeIn K cdv qual = true) (S : FnScope N ps scope)
    (len : ∀ vs H Q E, sp vs H Q E → vs.length = ps.length)
    (hbody : ∀ (A : Around) (outer : List Env) (s : Shared) (H : Hp) (vs : List V) (Q : VK) (E : XK), Room k (A.deeper (envOfC qual scope s.heap.objs.size f cdv)) → sp vs H Q E →
      ∃ t, PSs (cxOf CX P w K mg base N qual scope f cdv A outer s H E) body t ∧ t { nx := fun _ H' => Q .non H', rt := Q } (start N vs) H) :
    FnOk P w K mg base CX (k + 1) f (PySem.W.fnOf name qual params body scope dV kV doc pm an cdv ct) ps sp := by
  refine ⟨len, fun A outer s H args us vs Q E hr e0 hb r hsp => ?_⟩
  have hl := len _ _ _ _ hsp
  have KX : K.In s.heap := e0.mod.kin.keeps fun b o e => (e0.bs b o e).1
  have lim : s.heap.NoLimit := e0.mod.nolimit.keeps fun b o e => (e0.bs b o e).1
  have hkind : ∀ y ∈ ps.zip us, scope.names.lookup y.1 = some .local ∨ (scope.names.lookup y.1 = some .cell ∧ ((cellsFrom (s.heap.objs.size + 1) scope.names []).lookup y.1).isSome = true) := fun ⟨n, v⟩ hy => by
    rcases S.par n (List.of_mem_zip hy).1 with q | q
    · exact .inl q
    · exact .inr ⟨q, PySem.W.cellsFrom_some _ _ _ (.inl q)⟩
  refine codeAny_call_function hr.depth (KX _ _ lk) rfl S.co S.gen rfl (PySem.W.codeRec_of KX hcd) (hb _ _ _ _ ?_)
  refine wpAny_with_toks (n := 1) e0.tk (wpAny_newFunctionEnv_cells S.kind hkind fun env he s1 x htk => ?_)
  subst he
  refine ⟨lim.keeps x.toInCall.keep, codeAny_func ?_⟩
  obtain ⟨t, ht, hq⟩ := hbody A outer s H vs Q E (hr.deeper _) hsp
  have I : Inv (cxOf CX P w K mg base N qual scope f cdv A outer s H E) [] (start N vs) H s1 := inv_start S hr.hd e0 hl r x htk
  refine wpAny_mono (ht [] s1 (start N vs) H _ I hq) (fun fl s' hs => ?_) fun e s' hs => hs
  have fin : ∀ {σ' : St} {H' : Hp} {v : V} {u : Value}, Inv (cxOf CX P w K mg base N qual scope f cdv A outer s H E) [] σ' H' s' → RelV v u → Q v H' → CE outer P w H s Q u s' :=
    fun {σ' H' v u} J rv q => ⟨v, H', J.tk, J.os, J.bare, J.base, J.hok, rv, q⟩
  cases fl with
  | ret u =>
    obtain ⟨v, σ', H', J, rv, q⟩ := hs
    exact fin J rv q
  | next =>
    obtain ⟨σ', H', J, q⟩ := hs
    exact fin (v := V.non) (u := Value.none) J rfl q
  | brk =>
    obtain ⟨_, _, _, q⟩ := hs
    exact False.elim q
  | cont =>
    obtain ⟨_, _, _, q⟩ := hs
    exact False.elim q
end L2
namespace L2
open PySem PySem.Spec PyProof.Rows
section
variable {X : Cx} {x : Str} {p pos : Pos} {e : Expr} {es : List Expr} {t : TA} {id T : String} {r : List V → Hp → VK → Prop}
def tCB (r : List V → Hp → VK → Prop) (t : TA) : TE := fun σ H Q => t σ H fun vs H1 => r vs H1 Q
theorem pe_callB (hc : CallR X (.builtin id) r) (hg : Gl X x) (hm : X.mg x = none) (hv : bootBuiltins x = some (.builtin id)) (ha : PA X (e :: es) t) (hn : x ≠ "__name__" := by decide) (hdb : (x == ("__debug__" : Str)) = false := by decide)
    (he : starEach (e :: es) X.env = (false, eval e X.env) :: starEach es X.env := by rfl) (hpl : (backTo pos (starEach es X.env)).any (·.1) = false := by rfl) : PE X (.Call (.Name x p) (e :: es) [] pos) (tCB r t) := by
  intro pins s σ H Q I h
  refine wpAny_Call_Name_kw (ld_blt I hg hm hv ?_ hn hdb)
  exact PyProof.Rows.callWith_builtin1 (thn (ha pos pins s σ H _ I h) fun us s1 ⟨vs, H1, I1, r1, q1⟩ => hc pins s1 σ H1 vs us Q I1 r1 q1) he hpl
theorem pe_callTy (hc : CallR X (.type T) r) (hg : Gl X x) (hm : X.mg x = none) (hv : bootBuiltins x = some (.type T)) (ha : PA X (e :: es) t) (hn : x ≠ "__name__" := by decide) (hdb : (x == ("__debug__" : Str)) = false := by decide)
    (he : starEach (e :: es) X.env = (false, eval e X.env) :: starEach es X.env := by rfl) (hpl : (backTo pos (starEach es X.env)).any (·.1) = false := by rfl) : PE X (.Call (.Name x p) (e :: es) [] pos) (tCB r t) := by
  intro pins s σ H Q I h
  refine wpAny_Call_Name_kw (ld_blt I hg hm hv ?_ hn hdb)
  exact PyProof.Rows.callWith_type1 (thn (ha pos pins s σ H _ I h) fun us s1 ⟨vs, H1, I1, r1, q1⟩ => hc pins s1 σ H1 vs us Q I1 r1 q1) he hpl
end
end L2
namespace HT
open PySem PyProof.Rows
section
open PySem.SeqAt
open PySem.AutoSeq1 (wpAny_loadPart')
open PySem.MeetsSeq PySem.MeetsSeq2 PySem.MeetsSeq3
end
section
variable {prog : Program} {w : World} {A : Around} {E : Value → Shared → Prop} {s : Shared}
theorem cat_tup {t b : Addr} {vs ws : List Value} {Q : Value → Shared → Prop} (ht : IsTup s.heap t vs.toArray) (hb : IsTup s.heap b ws.toArray) (hv : vs ≠ [])
    (h1 : ws = [] → Q (.ref t) s) (h2 : ws ≠ [] → Q (.ref s.heap.objs.size) { s with heap := s.heap.push { cls := .type "tuple", data := .seq (vs ++ ws).toArray } })
    (hsz : vs.length + ws.length ≤ sizeLine) : wpAny (model prog w) A (binaryOp .Add (.ref t) (.ref b)) Q E s := by
  obtain ⟨⟨cls, dd, data, sl⟩, ho, hc, n, hd⟩ := id ht
  obtain ⟨⟨cls2, dd2, data2, sl2⟩, ho2, hc2, n2, hd2⟩ := id hb
  simp only at hc hd hc2 hd2
  subst hc hd hc2 hd2
  have e : vs.toArray ++ ws.toArray = (vs ++ ws).toArray := by simp
  by_cases hw : ws = []
  · exact concat_meets ⟨_, ho, rfl⟩ ⟨_, ho2, rfl⟩ noFill_tuple_add seq_tuple_add PySem.F.slot_tuple_add PySem.F.entry_tuple_add (PySem.F.args_tuple_add_2 _ _)
      (tuple_addW1 t b vs.toArray ws.toArray n n2 dd dd2 sl sl2 (by simpa using hv) (by simp [hw])) ⟨ho, ho2, h1 hw⟩
  · refine concat_meets ⟨_, ho, rfl⟩ ⟨_, ho2, rfl⟩ noFill_tuple_add seq_tuple_add PySem.F.slot_tuple_add PySem.F.entry_tuple_add (PySem.F.args_tuple_add_2 _ _)
      (tuple_addW2 t b vs.toArray ws.toArray n n2 dd dd2 sl sl2 (by simpa using hv) (by simpa using hw) (by rw [List.size_toArray, List.size_toArray]; exact hsz)) ⟨ho, ho2, ?_⟩
    rw [e]
    exact h2 hw
def sIx (n d : Nat) : Option Int → Nat
  | none => d
  | some v => if v < 0 then (v + (n : Int)).toNat else min v.toNat n
theorem sIx_le (n d : Nat) (hd : d ≤ n) (o : Option Int) : sIx n d o ≤ n := by
  cases o with
  | none => exact hd
  | some v =>
    show (if v < 0 then (v + (n : Int)).toNat else min v.toNat n) ≤ n
    by_cases hv : v < 0
    · rw [if_pos hv]; omega
    · rw [if_neg hv]; exact Nat.min_le_right _ _
theorem clip_eq (v : Int) (n d : Nat) : (if v < 0 then max (v + (n : Int)) 0 else min v (n : Int)) = ((sIx n d (some v) : Nat) : Int) := by
  show (if v < 0 then max (v + (n : Int)) 0 else min v (n : Int)) = (((if v < 0 then (v + (n : Int)).toNat else min v.toNat n) : Nat) : Int)
  by_cases hv : v < 0
  · simp only [if_pos hv]; omega
  · simp only [if_neg hv]; omega
theorem adjust_gen (lo hi : Option Int) (n : Nat) : Builtin.Slice.sliceAdjust lo hi 1 (n : Int) = (((sIx n 0 lo : Nat) : Int), ((sIx n n hi : Nat) : Int)) := by
  have h1 : ¬ ((1 : Int) < 0) := by omega
  unfold Builtin.Slice.sliceAdjust
  simp only [h1, if_false]
  refine Prod.ext ?_ ?_
  · cases lo with
    | none => rfl
    | some v => exact clip_eq v n 0
  · cases hi with
    | none => rfl
    | some v => exact clip_eq v n n
theorem places_gen (i j : Nat) : Builtin.Slice.slicePlaces (i : Int) (j : Int) 1 = j - i := by
  unfold Builtin.Slice.slicePlaces
  have h1 : (1 : Int) > 0 := by omega
  simp only [h1, if_true, Int.ediv_one]
  split <;> omega
theorem slicePart_ {v : Value} {o : Option Int} {Q : Option Int → Shared → Prop} (p : IsPart v o) (h : Q o s) : wpAny (model prog w) A (Builtin.Slice.slicePartIndex v) Q E s := by
  cases p with
  | none => exact slicePart_none h
  | int i t => exact slicePart_int h
theorem sliceApplied_gen {sl : Addr} {vl vu : Value} {lo hi : Option Int} {n : Nat} {Q : Int × Int × Nat → Shared → Prop} (hs : s.heap.IsSliceOf sl vl vu .none) (pl : IsPart vl lo) (pu : IsPart vu hi)
    (h : Q (((sIx n 0 lo : Nat) : Int), 1, sIx n n hi - sIx n 0 lo) s) : wpAny (model prog w) A (Builtin.Slice.sliceApplied (.ref sl) (pure (n : Int))) Q E s := by
  obtain ⟨os, hos, hcs, hds⟩ := id hs
  unfold Builtin.Slice.sliceApplied Builtin.Slice.sliceFields
  refine wpAny_bind (wpAny_bind (wpAny_field hos hds (x := vl) rfl (wpAny_bind (wpAny_field hos hds (x := vu) rfl (wpAny_bind (wpAny_field hos hds (x := .none) rfl (wpAny_pure ?_)))))))
  refine wpAny_bind (slicePart_none ?_)
  show wpAny _ _ (if ((1 : Int) == 0) = true then _ else _) _ _ s
  rw [if_neg (by decide)]
  refine wpAny_bind (slicePart_ pl (wpAny_bind (slicePart_ pu (wpAny_bind (wpAny_pure ?_)))))
  show wpAny _ _ (match Builtin.Slice.sliceAdjust lo hi 1 (n : Int) with | (lo, hi) => pure (lo, (1 : Int), Builtin.Slice.slicePlaces lo hi 1)) _ _ s
  rw [adjust_gen lo hi n]
  show wpAny _ _ (pure (((sIx n 0 lo : Nat) : Int), (1 : Int), Builtin.Slice.slicePlaces ((sIx n 0 lo : Nat) : Int) ((sIx n n hi : Nat) : Int) 1)) _ _ s
  rw [places_gen]
  exact wpAny_pure h
theorem pick_gen (xs : Array Value) (i k : Nat) : ((List.range k).filterMap fun (m : Nat) => xs[((i : Int) + (m : Int) * 1).toNat]?).toArray = ((xs.toList.drop i).take k).toArray := by
  have e : (fun (m : Nat) => xs[((i : Int) + (m : Int) * 1).toNat]?) = fun m => xs[i + m]? := by
    funext m
    have : ((i : Int) + (m : Int) * 1).toNat = i + m := by omega
    rw [this]
  rw [e]
  have := pick_run xs i k
  rw [List.filterMap_map] at this
  have e2 : ((fun x => xs[x]?) ∘ fun x => i + x) = fun m => xs[i + m]? := rfl
  rw [e2] at this
  rw [this]
theorem getItem_tuple_cut {t sl : Addr} {items : Array Value} {vl vu : Value} {lo hi : Option Int} {Q : Value → Shared → Prop} (ht : IsTup s.heap t items) (hs : s.heap.IsSliceOf sl vl vu .none) (pl : IsPart vl lo) (pu : IsPart vu hi)
    (hw : ¬ (sIx items.size 0 lo = 0 ∧ sIx items.size items.size hi = items.size))
    (h : Q (.ref s.heap.objs.size) { s with heap := s.heap.push { cls := .type "tuple", data := .seq ((items.toList.drop (sIx items.size 0 lo)).take (sIx items.size items.size hi - sIx items.size 0 lo)).toArray } })
    (hsz : items.size ≤ sizeLine) : wpAny (model prog w) A (getItem (.ref t) (.ref sl)) Q E s := by
  have htake : sizeOk (.seq ((items.toList.drop (sIx items.size 0 lo)).take (sIx items.size items.size hi - sIx items.size 0 lo)).toArray) := by
    show ((items.toList.drop (sIx items.size 0 lo)).take (sIx items.size items.size hi - sIx items.size 0 lo)).toArray.size ≤ sizeLine
    rw [List.size_toArray, List.length_take, List.length_drop, Array.length_toList]
    omega
  have hj : sIx items.size items.size hi ≤ items.size := sIx_le _ _ (Nat.le_refl _) hi
  obtain ⟨os, hos, hcs, hds⟩ := id hs
  have hTs : s.TypeIs (.ref sl) "slice" := ⟨os, hos, hcs⟩
  unfold getItem
  try with_reducible refine wpAny_holding ?_
  first | refine wpAny_bind (wpAny_pure ?_) | skip
  refine wpAny_bind (wpAny_sequenceKey ht.typeIs (by decide) ?_)
  refine wpAny_bind (wpAny_callSpecial?_slot (name := Str.ofString "__getitem__") ht.typeIs PyProof.Rows.slot_tuple_getitem
    (wpAny_call_entry PyProof.Rows.slot_tuple_getitem ht.typeIs entry_tuple_getitem ?_ (args_tuple_getitem _ _)))
  show wpAny _ _ (Builtin.Tuple.tupleItemsOf (.ref t) >>= _) _ _ s
  refine wpAny_bind (tupleItemsOf_ ht ?_)
  refine wpAny_bind (wpAny_typeOf hTs ?_)
  rw [if_pos (by decide)]
  refine wpAny_bind (sliceApplied_gen hs pl pu ?_)
  have hno : ¬ ((((sIx items.size 0 lo : Nat) : Int) == 0 && (1 : Int) == 1 && (sIx items.size items.size hi - sIx items.size 0 lo) == items.size) = true) := by
    intro q
    rw [Bool.and_eq_true, Bool.and_eq_true] at q
    have q1 : ((sIx items.size 0 lo : Nat) : Int) = 0 := eq_of_beq q.1.1
    have q2 : sIx items.size items.size hi - sIx items.size 0 lo = items.size := eq_of_beq q.2
    exact hw ⟨by omega, by omega⟩
  show wpAny _ _ (if (((sIx items.size 0 lo : Nat) : Int) == 0 && (1 : Int) == 1 && (sIx items.size items.size hi - sIx items.size 0 lo) == items.size) = true then _ else _) _ _ s
  rw [if_neg hno, pick_gen]
  first
    | exact wpAny_bind (m := Builtin.Tuple.tupleExact _) (wpAny_newObj_type (wpAny_pure ⟨_, rfl, wpAny_pure h⟩) htake)
    | exact wpAny_bind (m := Builtin.Tuple.tupleExact _) (wpAny_newObj_type (wpAny_bind (wpAny_pure (wpAny_pure ⟨_, rfl, wpAny_pure h⟩))) htake)
    | exact wpAny_bind (wpAny_bind (m := Builtin.Tuple.tupleExact _) (wpAny_newObj_type (wpAny_pure (wpAny_pure ⟨_, rfl, wpAny_pure h⟩)) htake))
    | exact wpAny_bind (wpAny_bind (m := Builtin.Tuple.tupleExact _) (wpAny_newObj_type (wpAny_pure ⟨_, rfl, wpAny_pure h⟩) htake))
end
end HT
namespace L2
open PySem PySem.Spec PyProof.Rows
abbrev TO := St → Hp → (Option Int → Hp → Prop) → Prop
def PO (X : Cx) (e : Option Expr) (t : TO) : Prop :=
  ∀ (pins : List (Addr × Obj)) (s : Shared) (σ : St) (H : Hp) (Q : Option Int → Hp → Prop), Inv X pins σ H s → t σ H Q →
    wpAny (model X.prog X.w) X.A (evalPart e X.env) (fun u s' => ∃ o H', Inv X pins σ H' s' ∧ IsPart u o ∧ Q o H') X.xe s
def tNoPart : TO := fun _ H Q => Q none H
def tPart (t : TE) : TO := fun σ H Q => t σ H fun x H1 => ∃ i, x = .int i ∧ Q (some i) H1
section
variable {X : Cx} {e : Expr} {te : TE} {lo hi : Option Expr} {tl th : TO} {pos p2 : Pos}
theorem po_none : PO X none tNoPart := by
  intro pins s σ H Q I h
  rw [evalPart_none]
  exact wpAny_pure ⟨none, H, I, .none, h⟩
theorem po_some (h : PE X e te) : PO X (some e) (tPart te) := by
  intro pins s σ H Q I hw
  rw [evalPart_some]
  refine thn (h pins s σ H _ I hw) fun u s1 ⟨x, H1, I1, r1, q1⟩ => ?_
  obtain ⟨i, rfl, q⟩ := q1
  obtain ⟨t, rfl⟩ := r1
  exact ⟨some i, H1, I1, .int i t, q⟩
def SlR (X : Cx) (r : V → Option Int → Option Int → Hp → VK → Prop) : Prop :=
  ∀ (pins : List (Addr × Obj)) (s : Shared) (σ : St) (H : Hp) (x : V) (v vl vu : Value) (lo hi : Option Int) (sl : Addr) (Q : VK), Inv X pins σ H s → RelV x v → s.heap.IsSliceOf sl vl vu .none → IsPart vl lo → IsPart vu hi → r x lo hi H Q →
    ∃ T id, typeLookup (.type T) "__getitem__" = pure (some (.builtin id)) ∧ s.TypeIs v T ∧ wpAny (model X.prog X.w) X.A (getItem v (.ref sl)) (EP X pins σ Q) X.xe s
theorem SlR.or {r r' : V → Option Int → Option Int → Hp → VK → Prop} (h : SlR X r) (h' : SlR X r') : SlR X (fun x lo hi H Q => r x lo hi H Q ∨ r' x lo hi H Q) := by
  intro pins s σ H x v vl vu lo hi sl Q I rx hs pl pu q
  rcases q with q | q
  · exact h pins s σ H x v vl vu lo hi sl Q I rx hs pl pu q
  · exact h' pins s σ H x v vl vu lo hi sl Q I rx hs pl pu q
def tSl (r : V → Option Int → Option Int → Hp → VK → Prop) (te : TE) (tl th : TO) : TE := fun σ H Q => te σ H fun x H1 => tl σ H1 fun l H2 => th σ H2 fun u H3 => r x l u H3 Q
theorem pe_slice {r : V → Option Int → Option Int → Hp → VK → Prop} (hr : SlR X r) (he : PE X e te) (hl : PO X lo tl) (hu : PO X hi th) : PE X (.Subscript e (.Slice lo hi none p2) pos) (tSl r te tl th) := by
  intro pins s σ H Q I h
  refine Subscript_ (thn (he pins s σ H _ I h) fun v s1 ⟨x, H1, I1, r1, q1⟩ => ?_)
  refine wpAny_Slice (thn (hl pins s1 σ H1 _ I1 q1) fun vl s2 ⟨l, H2, I2, pl, q2⟩ => thn (hu pins s2 σ H2 _ I2 q2) fun vu s3 ⟨u, H3, I3, pu, q3⟩ => ?_)
  rw [evalPart_none]
  refine wpAny_pure ?_
  have I4 : Inv X pins σ H3 { s3 with heap := s3.heap.push { cls := .type "slice", data := .fields #[vl, vu, .none] } } := I3.kept (t' := s3.toks) fun b ob q => Heap.get?_push_of_some _ q
  obtain ⟨T, id, hT, ht, hg⟩ := hr pins { s3 with heap := s3.heap.push { cls := .type "slice", data := .fields #[vl, vu, .none] } } σ H3 x v vl vu l u s3.heap.objs.size Q I4 r1 (Heap.IsSliceOf.new ..) pl pu q3
  show wpAny (model X.prog X.w) X.A (subscriptTail e (.Slice lo hi none p2) v (.ref s3.heap.objs.size)) (EP X pins σ Q) X.xe { s3 with heap := s3.heap.push { cls := .type "slice", data := .fields #[vl, vu, .none] } }
  exact tail_any (ops := [.ref s3.heap.objs.size, v]) ht hT hg (by with_unfolding_all rfl)
def cutV (xs : List V) (lo hi : Option Int) : List V := (xs.drop (HT.sIx xs.length 0 lo)).take (HT.sIx xs.length xs.length hi - HT.sIx xs.length 0 lo)
theorem cutV_length (xs : List V) (lo hi : Option Int) : (cutV xs lo hi).length ≤ xs.length := by
  unfold cutV
  rw [List.length_take, List.length_drop]
  omega
def rSlT (K : PySem.W.Frag) : V → Option Int → Option Int → Hp → VK → Prop := fun x lo hi H Q => ∃ a xs, x = .ref a ∧ SqT K H a xs ∧
  ¬ (HT.sIx xs.length 0 lo = 0 ∧ HT.sIx xs.length xs.length hi = xs.length) ∧ ∀ p, H p = none → Q (.ref p) (upd H p (.tup (cutV xs lo hi)))
theorem sl_tup : SlR X (rSlT X.K) := by
  intro pins s σ H x v vl vu lo hi sl Q I rx hs pl pu h
  obtain ⟨a, xs, rfl, hx, hw, q⟩ := h
  cases rx
  obtain ⟨its, r, ht, hz⟩ := I.tuple hx
  have hlen : its.toArray.size = xs.length := by rw [List.size_toArray]; exact r.length.symm
  refine ⟨"tuple", _, PyProof.Rows.slot_tuple_getitem.lookup, ht.typeIs, ?_⟩
  refine HT.getItem_tuple_cut ht hs pl pu (by rw [hlen]; exact hw) ?_ (by rw [hlen]; exact hz)
  rw [hlen]
  refine ⟨.ref s.heap.objs.size, _, I.laid (t' := s.toks) (o := .tup (cutV xs lo hi)) (fun b ob q => Heap.get?_push_of_some _ q) (Nat.le_refl _) ?_, rfl, q _ (I.hok.fresh (Nat.le_refl _))⟩
  exact ⟨Nat.le_trans (cutV_length xs lo hi) hz, _, (r.drop (HT.sIx xs.length 0 lo)).take (HT.sIx xs.length xs.length hi - HT.sIx xs.length 0 lo), IsTup.new _ _⟩
def rCatT (K : PySem.W.Frag) : R2 := fun x y H Q => ∃ a b xs ys, x = .ref a ∧ y = .ref b ∧ SqT K H a xs ∧ SqT K H b ys ∧ xs ≠ [] ∧ xs.length + ys.length ≤ sizeLine ∧
  (ys = [] → Q (.ref a) H) ∧ (ys ≠ [] → ∀ p, H p = none → Q (.ref p) (upd H p (.tup (xs ++ ys))))
theorem Vals.nil_iff {xs : List V} {us : List Value} (r : Vals xs us) : us = [] ↔ xs = [] := by
  cases r with
  | nil => simp
  | cons _ _ => simp
theorem op_catT : OpR X (binaryOp .Add) (rCatT X.K) := by
  intro pins s σ H x y v u Q I rx ry h
  obtain ⟨a, b, xs, ys, rfl, rfl, ha, hb, hx, hz, q1, q2⟩ := h
  cases rx
  cases ry
  obtain ⟨its, r1, p1, _⟩ := I.tuple ha
  obtain ⟨its2, r2, p2, _⟩ := I.tuple hb
  refine HT.cat_tup p1 p2 (fun z => hx (r1.nil_iff.mp z)) (fun z => ⟨.ref a, H, I, rfl, q1 (r2.nil_iff.mp z)⟩) (fun z => ?_) (by rw [← r1.length, ← r2.length]; exact hz)
  refine ⟨.ref s.heap.objs.size, _, I.laid (t' := s.toks) (o := .tup (xs ++ ys)) (fun b ob q => Heap.get?_push_of_some _ q) (Nat.le_refl _) ?_, rfl, q2 (fun w => z (r2.nil_iff.mpr w)) _ (I.hok.fresh (Nat.le_refl _))⟩
  exact ⟨by rw [List.length_append]; exact hz, _, r1.append r2, IsTup.new _ _⟩
end
end L2
namespace L2
open PySem PySem.Spec PyProof.Rows
def ixN (n : Nat) (i : Int) : Option Nat := if 0 ≤ i then (if i < n then some i.toNat else none) else if -(n : Int) ≤ i then some (i + n).toNat else none
def atI {α : Type} (xs : List α) (i : Int) : Option α := (ixN xs.length i).bind fun j => xs[j]?
theorem ixN_seq {n : Nat} {i : Int} {j : Nat} (h : ixN n i = some j) : seqIndex? i n = some j ∧ j < n ∧ -(n : Int) ≤ i ∧ i < n := by
  unfold ixN at h
  by_cases h0 : 0 ≤ i
  · rw [if_pos h0] at h
    by_cases h1 : i < n
    · rw [if_pos h1] at h
      have e : i.toNat = j := Option.some.inj h
      exact ⟨by rw [seqIndex_of h0 h1, e], by omega, by omega, h1⟩
    · rw [if_neg h1] at h; cases h
  · rw [if_neg h0] at h
    by_cases h1 : -(n : Int) ≤ i
    · rw [if_pos h1] at h
      have e : (i + n).toNat = j := Option.some.inj h
      exact ⟨by rw [seqIndex_neg (by omega) h1, e], by omega, h1, by omega⟩
    · rw [if_neg h1] at h; cases h
theorem atI_get {α : Type} {xs : List α} {i : Int} {v : α} (h : atI xs i = some v) : ∃ j, seqIndex? i xs.length = some j ∧ xs[j]? = some v ∧ j < xs.length ∧ -(xs.length : Int) ≤ i ∧ i < xs.length := by
  unfold atI at h
  cases e : ixN xs.length i with
  | none => rw [e] at h; cases h
  | some j =>
    rw [e] at h
    obtain ⟨h1, h2, h3, h4⟩ := ixN_seq e
    exact ⟨j, h1, h, h2, h3, h4⟩
theorem atI_nat {α : Type} {xs : List α} {j : Nat} {v : α} (h : xs[j]? = some v) : atI xs (j : Int) = some v := by
  have hj : j < xs.length := (List.getElem?_eq_some_iff.mp h).1
  have e : ixN xs.length (j : Int) = some j := by
    unfold ixN
    rw [if_pos (by omega), if_pos (by omega)]; simp
  unfold atI; rw [e]; exact h
theorem atI_last {α : Type} (xs : List α) (v : α) : atI (xs ++ [v]) (-1) = some v := by
  have hl : (xs ++ [v]).length = xs.length + 1 := by simp
  have e : ixN (xs ++ [v]).length (-1) = some xs.length := by
    unfold ixN
    rw [hl, if_neg (by decide), if_pos (by omega)]
    congr 1
    omega
  unfold atI
  rw [e]
  show (xs ++ [v])[xs.length]? = some v
  simp
def PlainIx (b : Expr) : Prop := ∀ o i, subscripted b false o i = operate [o, i] (getItem o i)
def IxR (X : Cx) (r : R2) : Prop :=
  ∀ (value slice : Expr) (pins : List (Addr × Obj)) (s : Shared) (σ : St) (H : Hp) (x y : V) (v u : Value) (Q : VK), Inv X pins σ H s → RelV x v → RelV y u → r x y H Q →
    subscripted slice false v u = operate [v, u] (getItem v u) → wpAny (model X.prog X.w) X.A (subscriptTail value slice v u) (EP X pins σ Q) X.xe s
def MtR (X : Cx) (id : String) (r : V → List V → Hp → VK → Prop) : Prop :=
  ∀ (pins : List (Addr × Obj)) (s : Shared) (σ : St) (H : Hp) (x : V) (xs : List V) (v : Value) (us : List Value) (Q : VK), Inv X pins σ H s → RelV x v → Vals xs us → r x xs H Q →
    wpAny (model X.prog X.w) X.A (call (.builtin id) (v :: us)) (EP X pins σ Q) X.xe s
section
variable {X : Cx} {a b : Expr} {ta tb : TE} {pos : Pos}
theorem IxR.or {r r' : R2} (h : IxR X r) (h' : IxR X r') : IxR X (fun x y H Q => r x y H Q ∨ r' x y H Q) := by
  intro value slice pins s σ H x y v u Q I rx ry q hs
  rcases q with q | q
  · exact h value slice pins s σ H x y v u Q I rx ry q hs
  · exact h' value slice pins s σ H x y v u Q I rx ry q hs
theorem pe_ix {r : R2} (hr : IxR X r) (ha : PE X a ta) (hb : PE X b tb) (hs : PlainIx b) : PE X (.Subscript a b pos) (tOp r ta tb) := by
  intro pins s σ H Q I h
  exact Subscript_ (binT ha hb I h fun v u s2 x y H2 I2 rx ry q => hr a b pins s2 σ H2 x y v u Q I2 rx ry q (hs _ _))
def rIxL (K : PySem.W.Frag) : R2 := fun x y H Q => ∃ p xs i v, x = .ref p ∧ y = .int i ∧ SqL K H p xs ∧ atI xs i = some v ∧ Q v H
def rIxT (K : PySem.W.Frag) : R2 := fun x y H Q => ∃ p xs i v, x = .ref p ∧ y = .int i ∧ SqT K H p xs ∧ atI xs i = some v ∧ Q v H
def rIxS : R2 := fun x y H Q => ∃ z i c, x = .str z ∧ y = .int i ∧ z.length ≤ sizeLine ∧ atI z.cps.toList i = some c ∧ Q (.str ⟨#[c]⟩) H
theorem ix_list : IxR X (rIxL X.K) := by
  intro value slice pins s σ H x y v u Q I rx ry h hs
  obtain ⟨p, xs, i, z, rfl, rfl, hq, he, q⟩ := h
  cases rx
  obtain ⟨t, rfl⟩ := ry
  obtain ⟨its, r, pl, hz⟩ := I.list hq
  obtain ⟨j, h1, h2, h3, h4, h5⟩ := atI_get he
  obtain ⟨w, ew, rw'⟩ := r.get h2
  have hl := r.length
  have hn := line63
  have fin : EP X pins σ Q w s := ⟨z, H, I, rw', q⟩
  by_cases h0 : 0 ≤ i
  · have hj : i.toNat = j := by
      rw [seqIndex_of h0 h5] at h1
      exact Option.some.inj h1
    exact item_listR pl.isList h0 (by omega) (by rw [hj]; simpa using ew) fin hs
  · have hj : (i + (its.toArray.size : Int)).toNat = j := by
      rw [seqIndex_neg (by omega) h4] at h1
      rw [List.size_toArray, ← hl]
      exact Option.some.inj h1
    exact subscriptTail_builtinR (x := w) pl.isList.typeIs slot_list_getitem.lookup
      (wpAny_getItem_list_neg (Q := fun r s' => r = w ∧ EP X pins σ Q r s') pl.isList (by omega) (by rw [List.size_toArray] <;> omega) (by omega) (by rw [hj]; simpa using ew) ⟨rfl, fin⟩) hs
theorem ix_tup : IxR X (rIxT X.K) := by
  intro value slice pins s σ H x y v u Q I rx ry h hs
  obtain ⟨p, xs, i, z, rfl, rfl, hq, he, q⟩ := h
  cases rx
  obtain ⟨t, rfl⟩ := ry
  obtain ⟨its, r, pl, hz⟩ := I.tuple hq
  obtain ⟨j, h1, h2, h3, h4, h5⟩ := atI_get he
  obtain ⟨w, ew, rw'⟩ := r.get h2
  have hl := r.length
  have hn := line63
  have fin : EP X pins σ Q w s := ⟨z, H, I, rw', q⟩
  exact subscriptTail_builtinR (x := w) pl.typeIs slot_tuple_getitem.lookup
    (getItem_tuple (j := j) (Q := fun r s' => r = w ∧ EP X pins σ Q r s') pl (by omega) (by omega) (by rw [List.size_toArray, ← hl]; exact h1) (by simpa using ew) ⟨rfl, fin⟩) hs
theorem ix_str : IxR X rIxS := by
  intro value slice pins s σ H x y v u Q I rx ry h hs
  obtain ⟨z, i, c, rfl, rfl, hz, he, q⟩ := h
  obtain ⟨t, rfl⟩ := rx
  obtain ⟨t', rfl⟩ := ry
  obtain ⟨j, h1, h2, h3, h4, h5⟩ := atI_get he
  have hl : z.cps.toList.length = z.length := by simp [Str.length]
  rw [hl] at h1 h4 h5
  have hn := line63
  exact tail_any (typeIs_str s z t) slot_str_getitem.lookup (getItem_str (c := c) (by
    have e1 : decide (i < -(2 ^ 63 : Int)) = false := decide_eq_false (by omega)
    have e2 : decide (i ≥ 2 ^ 63) = false := decide_eq_false (by omega)
    rw [e1, e2, Bool.or_false]) (by rw [h1]; simpa using h2) ⟨.str ⟨#[c]⟩, H, I.tok _, ⟨_, rfl⟩, q⟩) hs
def rIx (K : PySem.W.Frag) : R2 := fun x y H Q => rIxL K x y H Q ∨ rIxT K x y H Q ∨ rIxS x y H Q
theorem ix_seq : IxR X (rIx X.K) := ix_list.or (ix_tup.or ix_str)
theorem mapSeq_set (its : List Value) (n j : Nat) (u : Value) : Obj.mapSeq (·.setIfInBounds j u) { cls := .type "list", data := .seq its.toArray n } = { cls := .type "list", data := .seq (its.set j u).toArray n } := by
  simp [Obj.mapSeq]
theorem Inv.lst {pins : List (Addr × Obj)} {σ : St} {H : Hp} {s : Shared} {p : Addr} {xs : List V} (I : Inv X pins σ H s) (h : H p = some (.lst xs)) :
    ∃ (its : List Value) (n : Nat), Vals xs its ∧ s.heap.get? p = some { cls := .type "list", data := .seq its.toArray n } ∧ xs.length ≤ sizeLine := by
  obtain ⟨z, its, n, r, e⟩ := I.hok p _ h
  exact ⟨its, n, r, e, z⟩
theorem Inv.lstUpd {pins : List (Addr × Obj)} {σ : St} {H : Hp} {s : Shared} {p : Addr} {xs ys : List V} {its its' : List Value} {n n' : Nat} {f : Obj → Obj} (I : Inv X pins σ H s) (h : H p = some (.lst xs))
    (ho : s.heap.get? p = some { cls := .type "list", data := .seq its.toArray n }) (hf : f { cls := .type "list", data := .seq its.toArray n } = { cls := .type "list", data := .seq its'.toArray n' }) (r : Vals ys its') (hz : ys.length ≤ sizeLine) (t' : Nat) (ht : 0 < t' := by first | exact Nat.succ_pos _ | assumption | exact Inv.tk ‹_› | omega) :
    Inv X pins σ (upd H p (.lst ys)) { s with heap := s.heap.update p f, toks := t' } := by
  have e : (s.heap.update p f).get? p = some { cls := .type "list", data := .seq its'.toArray n' } := by
    rw [Heap.get?_update_self f ho (by rw [hf] <;> rfl), hf]
  refine I.write (x := p) (e := p) (by rw [h]; trivial) (.inl rfl) (fun b u hb q => (Heap.get?_update_other _ _ (Ne.symm hb)).trans q) ⟨_, e⟩ ?_
  exact ⟨hz, its', n', r, e⟩
def rSetL : V → V → V → Hp → (Hp → Prop) → Prop := fun o i v H Q => ∃ p xs k j, o = .ref p ∧ i = .int k ∧ H p = some (.lst xs) ∧ ixN xs.length k = some j ∧ Q (upd H p (.lst (xs.set j v)))
theorem set_list : PSet X rSetL := by
  intro pins s σ H o i v ov iv u Q I ro ri rv h
  obtain ⟨p, xs, k, j, rfl, rfl, hp, hj, q⟩ := h
  cases ro
  obtain ⟨t, rfl⟩ := ri
  obtain ⟨its, n, r, ho, hz⟩ := I.lst hp
  obtain ⟨h1, h2, h3, h4⟩ := ixN_seq hj
  have hl := r.length
  have hn := line63
  have I' : Inv X pins σ (upd H p (.lst (xs.set j v))) { s with heap := s.heap.update p (Obj.mapSeq (·.setIfInBounds j u)) } :=
    I.lstUpd hp ho (mapSeq_set its n j u) (r.set rv j) (by rw [List.length_set]; exact hz) s.toks
  by_cases h0 : 0 ≤ k
  · have hk : k.toNat = j := by
      rw [seqIndex_of h0 h4] at h1
      exact Option.some.inj h1
    exact PySem.W.ki_setAt ho h0 (by omega) (by rw [List.size_toArray, ← hl]; exact h4) (by rw [hk]; exact ⟨_, I', q⟩)
  · have hk : (k + (its.toArray.size : Int)).toNat = j := by
      rw [seqIndex_neg (by omega) h3] at h1
      rw [List.size_toArray, ← hl]
      exact Option.some.inj h1
    exact PySem.W.ki_setBack ho (by omega) (by rw [List.size_toArray, ← hl]; exact h3) (by omega) (by rw [hk]; exact ⟨_, I', q⟩)
theorem slice_bounds (lo hi : Option Int) (n : Nat) : (sliceBounds lo hi none n).1 = ((HT.sIx n 0 lo : Nat) : Int) ∧ (sliceBounds lo hi none n).2.1 = ((HT.sIx n n hi : Nat) : Int) ∧ (sliceBounds lo hi none n).2.2 = 1 := by
  refine ⟨?_, ?_, rfl⟩
  · cases lo with
    | none => simp [sliceBounds, HT.sIx]
    | some i =>
      simp only [sliceBounds, HT.sIx, Option.getD_none, show (1 : Int) > 0 by decide, if_true]
      by_cases h : i < 0
      · simp only [h, if_true] <;> omega
      · simp only [h, if_false] <;> omega
  · cases hi with
    | none => simp [sliceBounds, HT.sIx]
    | some i =>
      simp only [sliceBounds, HT.sIx, Option.getD_none, show (1 : Int) > 0 by decide, if_true]
      by_cases h : i < 0
      · simp only [h, if_true] <;> omega
      · simp only [h, if_false] <;> omega
theorem slicePick_cut (its : List Value) (lo hi : Option Int) : slicePick its.toArray lo hi none = ((its.drop (HT.sIx its.length 0 lo)).take (HT.sIx its.length its.length hi - HT.sIx its.length 0 lo)).toArray := by
  obtain ⟨h1, h2, h3⟩ := slice_bounds lo hi its.toArray.size
  unfold slicePick
  rw [h1, h2, h3]
  simp only [sliceRange_one, pick_run, List.size_toArray] <;> rfl
def rSlL (K : PySem.W.Frag) : V → Option Int → Option Int → Hp → VK → Prop := fun x lo hi H Q => ∃ a xs, x = .ref a ∧ SqL K H a xs ∧ ∀ p, H p = none → Q (.ref p) (upd H p (.lst (cutV xs lo hi)))
theorem sl_list : SlR X (rSlL X.K) := by
  intro pins s σ H x v vl vu lo hi sl Q I rx hs pl pu h
  obtain ⟨a, xs, rfl, hx, q⟩ := h
  cases rx
  obtain ⟨its, r, ht, hz⟩ := I.list hx
  have hlen := r.length
  refine ⟨"list", _, slot_list_getitem.lookup, ht.isList.typeIs, ?_⟩
  refine wpAny_getItem_list_slice ht.isList hs pl pu .none (by simp) ?_ (by rw [List.size_toArray] <;> omega)
  rw [slicePick_cut, ← hlen]
  refine ⟨.ref s.heap.objs.size, _, I.laid (t' := s.toks) (o := .lst (cutV xs lo hi)) (fun b ob q => Heap.get?_push_of_some _ q) (Nat.le_refl _) ?_, rfl, q _ (I.hok.fresh (Nat.le_refl _))⟩
  exact ⟨Nat.le_trans (cutV_length xs lo hi) hz, _, 0, (r.drop (HT.sIx xs.length 0 lo)).take (HT.sIx xs.length xs.length hi - HT.sIx xs.length 0 lo), Heap.get?_push_size _ rfl⟩
def flatV : V → Bool
  | .non => true
  | .bl _ => true
  | .int _ => true
  | .str _ => true
  | _ => false
def eqV : V → V → Bool
  | .non, .non => true
  | .bl a, .bl b => a == b
  | .bl a, .int b => (if a then 1 else 0) == b
  | .int a, .bl b => a == (if b then 1 else 0)
  | .int a, .int b => a == b
  | .str a, .str b => a == b
  | _, _ => false
theorem eqAt_V {A : Around} {s : Shared} {y x : V} {u v : Value} (ry : RelV y u) (rx : RelV x v) (fy : flatV y = true) (fx : flatV x = true) : SeqAt.EqAt A s u v (eqV y x) := by
  cases y with
  | non =>
    cases ry
    cases x with
    | non => cases rx; exact SeqAt.EqAt.same _
    | bl b => cases rx; exact SeqAt.EqAt.none_bool b
    | int b => obtain ⟨t, rfl⟩ := rx; exact SeqAt.EqAt.none_int b t
    | str b => obtain ⟨t, rfl⟩ := rx; exact SeqAt.EqAt.none_str b t
    | _ => exact absurd (show false = true from fx) Bool.false_ne_true
  | bl a =>
    cases ry
    cases x with
    | non => cases rx; exact SeqAt.EqAt.bool_none a
    | bl b => cases rx; exact SeqAt.EqAt.bool_bool a b
    | int b => obtain ⟨t, rfl⟩ := rx; exact SeqAt.EqAt.bool_int a b t
    | str b => obtain ⟨t, rfl⟩ := rx; exact SeqAt.EqAt.bool_str a b t
    | _ => exact absurd (show false = true from fx) Bool.false_ne_true
  | int a =>
    obtain ⟨t', rfl⟩ := ry
    cases x with
    | non => cases rx; exact SeqAt.EqAt.int_none a t'
    | bl b => cases rx; exact SeqAt.EqAt.int_bool a t' b
    | int b => obtain ⟨t, rfl⟩ := rx; exact SeqAt.EqAt.int_int a t' b t
    | str b => obtain ⟨t, rfl⟩ := rx; exact SeqAt.EqAt.int_str a t' b t
    | _ => exact absurd (show false = true from fx) Bool.false_ne_true
  | str a =>
    obtain ⟨t', rfl⟩ := ry
    cases x with
    | non => cases rx; exact SeqAt.EqAt.str_none a t'
    | bl b => cases rx; exact SeqAt.EqAt.str_bool a t' b
    | int b => obtain ⟨t, rfl⟩ := rx; exact SeqAt.EqAt.str_int a t' b t
    | str b => obtain ⟨t, rfl⟩ := rx; exact SeqAt.EqAt.str_str a t' b t
    | _ => exact absurd (show false = true from fx) Bool.false_ne_true
  | _ => exact absurd (show false = true from fy) Bool.false_ne_true
def eqU (x : V) (u : Value) : Bool := match u with
  | .none => eqV .non x
  | .bool b => eqV (.bl b) x
  | .int i _ => eqV (.int i) x
  | .str z _ => eqV (.str z) x
  | _ => false
theorem eqU_of {x y : V} {u : Value} (r : RelV y u) (f : flatV y = true) : eqU x u = eqV y x := by
  cases y with
  | non => cases r; rfl
  | bl b => cases r; rfl
  | int i => obtain ⟨t, rfl⟩ := r; rfl
  | str z => obtain ⟨t, rfl⟩ := r; rfl
  | _ => exact absurd (show false = true from f) Bool.false_ne_true
theorem any_eqU {x : V} : ∀ {xs : List V} {us : List Value}, Vals xs us → xs.all flatV = true → us.any (eqU x) = xs.any fun y => eqV y x
  | _, _, .nil, _ => rfl
  | y :: xs, u :: us, .cons r t, f => by
    rw [List.all_cons, Bool.and_eq_true] at f
    rw [List.any_cons, List.any_cons, eqU_of r f.1, any_eqU t f.2]
theorem mem_eqAt {A : Around} {s : Shared} {x : V} {v : Value} (rx : RelV x v) (fx : flatV x = true) : ∀ {xs : List V} {us : List Value}, Vals xs us → xs.all flatV = true → ∀ u ∈ us, SeqAt.EqAt A s u v (eqU x u)
  | _, _, .nil, _ => fun u hu => by cases hu
  | y :: xs, u :: us, .cons r t, f => fun u' hu => by
    rw [List.all_cons, Bool.and_eq_true] at f
    rcases List.mem_cons.mp hu with rfl | hu
    · rw [eqU_of r f.1]; exact eqAt_V r rx f.1 fx
    · exact mem_eqAt rx fx t f.2 u' hu
def inV (x : V) (xs : List V) : Bool := xs.any fun y => eqV y x
def rIn (K : PySem.W.Frag) (neg : Bool) : R2 := fun x y H Q => ∃ p xs, y = .ref p ∧ (SqL K H p xs ∨ SqT K H p xs) ∧ flatV x = true ∧ xs.all flatV = true ∧ Q (.bl (if neg then !inV x xs else inV x xs)) H
theorem op_in_seq : OpR X (compareOp .In) (rIn X.K false) := by
  intro pins s σ H x y v u Q I rx ry h
  obtain ⟨p, xs, rfl, hq, fx, fs, q⟩ := h
  cases ry
  rcases hq with hq | hq
  · obtain ⟨its, r, pl, hz⟩ := I.list hq
    refine SeqAt.in_listAt (eqU x) pl.isList (fun w hw => mem_eqAt rx fx r fs w (by simpa using hw)) ⟨.bl _, H, I, rfl, ?_⟩
    rw [show its.toArray.any (eqU x) = its.any (eqU x) by simp, any_eqU r fs]
    exact q
  · obtain ⟨its, r, pl, hz⟩ := I.tuple hq
    refine SeqAt.in_tupleAt (eqU x) pl (fun w hw => mem_eqAt rx fx r fs w (by simpa using hw)) ⟨.bl _, H, I, rfl, ?_⟩
    rw [show its.toArray.any (eqU x) = its.any (eqU x) by simp, any_eqU r fs]
    exact q
theorem op_notIn_seq : OpR X (compareOp .NotIn) (rIn X.K true) := by
  intro pins s σ H x y v u Q I rx ry h
  obtain ⟨p, xs, rfl, hq, fx, fs, q⟩ := h
  cases ry
  rcases hq with hq | hq
  · obtain ⟨its, r, pl, hz⟩ := I.list hq
    refine SeqAt.notIn_listAt (eqU x) pl.isList (fun w hw => mem_eqAt rx fx r fs w (by simpa using hw)) ⟨.bl _, H, I, rfl, ?_⟩
    rw [show its.toArray.any (eqU x) = its.any (eqU x) by simp, any_eqU r fs]
    exact q
  · obtain ⟨its, r, pl, hz⟩ := I.tuple hq
    refine SeqAt.notIn_tupleAt (eqU x) pl (fun w hw => mem_eqAt rx fx r fs w (by simpa using hw)) ⟨.bl _, H, I, rfl, ?_⟩
    rw [show its.toArray.any (eqU x) = its.any (eqU x) by simp, any_eqU r fs]
    exact q
theorem op_notIn_str : OpR X (compareOp .NotIn) (fun x y H Q => ∃ i j, x = .str i ∧ y = .str j ∧ Q (.bl (!(!(Builtin.Str.occurrences j i 0 j.length 1).isEmpty))) H) := by
  intro pins s σ H x y v u Q I rx ry h
  obtain ⟨i, j, rfl, rfl, q⟩ := h
  obtain ⟨t, rfl⟩ := rx
  obtain ⟨t', rfl⟩ := ry
  exact notIn_str ⟨.bl _, H, I, rfl, q⟩
theorem call_len_seq : CallR X (.builtin "len") (fun xs H Q => ∃ p ys, xs = [.ref p] ∧ (SqL X.K H p ys ∨ SqT X.K H p ys) ∧ Q (.int ys.length) H) := by
  intro pins s σ H xs us Q I r h
  obtain ⟨p, ys, rfl, hq, q⟩ := h
  obtain ⟨u, rfl, rx⟩ := vals1 r
  cases rx
  have hn := line63
  rcases hq with hq | hq
  · obtain ⟨its, r', pl, hz⟩ := I.list hq
    have hlen := r'.length
    exact Calls.call_len_list pl.isList (by simp only [List.size_toArray] <;> omega) ⟨.int ys.length, H, I.tok _, ⟨s.toks + 1, by rw [List.size_toArray, hlen]⟩, q⟩
  · obtain ⟨its, r', pl, hz⟩ := I.tuple hq
    have hlen := r'.length
    exact len_tuple pl (by simp only [List.size_toArray] <;> omega) ⟨.int ys.length, H, I.tok _, ⟨s.toks + 1, by rw [List.size_toArray, hlen]⟩, q⟩
theorem call_len_str : CallR X (.builtin "len") (fun xs H Q => ∃ z, xs = [.str z] ∧ z.length ≤ sizeLine ∧ Q (.int z.length) H) := by
  intro pins s σ H xs us Q I r h
  obtain ⟨z, rfl, hz, q⟩ := h
  obtain ⟨u, rfl, t, rfl⟩ := vals1 r
  have hn := line63
  exact len_str (by omega) ⟨.int z.length, H, I.tok _, ⟨_, rfl⟩, q⟩
theorem CallR.or {f : Value} {r r' : List V → Hp → VK → Prop} (h : CallR X f r) (h' : CallR X f r') : CallR X f (fun xs H Q => r xs H Q ∨ r' xs H Q) := by
  intro pins s σ H xs us Q I rs q
  rcases q with q | q
  · exact h pins s σ H xs us Q I rs q
  · exact h' pins s σ H xs us Q I rs q
theorem call_list_of : CallR X (.type "list") (fun xs H Q => ∃ p ys, xs = [.ref p] ∧ (SqL X.K H p ys ∨ SqT X.K H p ys) ∧ ∀ l, H l = none → Q (.ref l) (upd H l (.lst ys))) := by
  intro pins s σ H xs us Q I r h
  obtain ⟨p, ys, rfl, hq, q⟩ := h
  obtain ⟨u, rfl, rx⟩ := vals1 r
  cases rx
  have fin : ∀ (its : List Value), Vals ys its → ys.length ≤ sizeLine → ∀ (h' : Heap) (c' : Nat), (∀ b o', s.heap.get? b = some o' → h'.get? b = some o') →
      h'.get? s.heap.objs.size = some { cls := .type "list", dict := none, data := .seq its.toArray c', slots := #[] } → EP X pins σ Q (.ref s.heap.objs.size) { s with heap := h' } := fun its r' hz h' c' kp e =>
    ⟨.ref s.heap.objs.size, _, I.laid (t' := s.toks) kp (Nat.le_refl _) (show ObjOk X.prog X.w _ h' _ (.lst ys) from ⟨hz, its, c', r', e⟩), rfl, q _ (I.hok.fresh (Nat.le_refl _))⟩
  rcases hq with hq | hq
  · obtain ⟨its, r', pl, hz⟩ := I.list hq
    have hlen := r'.length
    obtain ⟨o, ho, hc, n, hd⟩ := pl.isList
    exact call_list_seq p (.inl rfl) ho hc hd (fun h' c' kp e => fin its r' hz h' c' kp e) (by simp only [List.size_toArray] <;> omega)
  · obtain ⟨its, r', pl, hz⟩ := I.tuple hq
    have hlen := r'.length
    obtain ⟨o, ho, hc, n, hd⟩ := pl
    exact call_list_seq p (.inr rfl) ho hc hd (fun h' c' kp e => fin its r' hz h' c' kp e) (by simp only [List.size_toArray] <;> omega)
theorem call_tuple_of : CallR X (.type "tuple") (fun xs H Q => ∃ p ys, xs = [.ref p] ∧ ((SqL X.K H p ys ∧ ∀ l, H l = none → Q (.ref l) (upd H l (.tup ys))) ∨ (SqT X.K H p ys ∧ Q (.ref p) H))) := by
  intro pins s σ H xs us Q I r h
  obtain ⟨p, ys, rfl, h⟩ := h
  obtain ⟨u, rfl, rx⟩ := vals1 r
  cases rx
  rcases h with ⟨hq, q⟩ | ⟨hq, q⟩
  · obtain ⟨its, r', pl, hz⟩ := I.list hq
    have hlen := r'.length
    refine call_tuple_list pl.isList (fun h' kp => ?_) (by simp only [List.size_toArray] <;> omega)
    have I1 : Inv X pins σ H { s with heap := h' } := I.kept (t' := s.toks) kp
    have I2 : Inv X pins σ (upd H h'.objs.size (.tup ys)) { s with heap := h'.push { cls := .type "tuple", data := .seq its.toArray } } :=
      I1.laid (t' := s.toks) (fun b o e => Heap.get?_push_of_some _ e) (Nat.le_refl _) (show ObjOk X.prog X.w _ _ _ (.tup ys) from ⟨hz, its, r', IsTup.new _ _⟩)
    exact ⟨.ref h'.objs.size, _, I2, rfl, q _ (I1.hok.fresh (Nat.le_refl _))⟩
  · obtain ⟨its, r', pl, hz⟩ := I.tuple hq
    exact call_tuple_same pl ⟨.ref p, H, I, rfl, q⟩
def tyV (K : PySem.W.Frag) (T : String) (x : V) (H : Hp) : Prop := match x with
  | .str _ => T = "str"
  | .int _ => T = "int"
  | .ref p => (T = "list" ∧ ∃ xs, SqL K H p xs) ∨ (T = "tuple" ∧ ∃ o, K.lookup p = some o ∧ o.cls = .type "tuple" ∧ o.dict = none) ∨
      (T = "dict" ∧ ((∃ kvs, H p = some (.dK kvs)) ∨ ∃ kvs, H p = some (.dT kvs))) ∨ (T = "set" ∧ ∃ S n, H p = some (.set S n))
  | _ => False
theorem tyV_is {pins : List (Addr × Obj)} {σ : St} {H : Hp} {s : Shared} {T : String} {x : V} {v : Value} (I : Inv X pins σ H s) (r : RelV x v) (ty : tyV X.K T x H) :
    s.TypeIs v T ∧ ∀ a, v = .ref a → ∃ ob, s.heap.get? a = some ob ∧ ob.dict = none := by
  cases x with
  | str z =>
    obtain ⟨t, rfl⟩ := r
    cases (show T = "str" from ty)
    exact ⟨typeIs_str s z t, fun _ e => nomatch e⟩
  | int i =>
    obtain ⟨t, rfl⟩ := r
    cases (show T = "int" from ty)
    exact ⟨typeIs_int s i t, fun _ e => nomatch e⟩
  | ref p =>
    cases r
    rcases ty with ⟨rfl, xs, hq⟩ | ⟨rfl, o, hk, hc, hd⟩ | ⟨rfl, hk⟩ | ⟨rfl, S, n, hk⟩
    · obtain ⟨its, _, pl, _⟩ := I.list hq
      refine ⟨pl.isList.typeIs, fun a e => ?_⟩
      cases e
      obtain ⟨o, n, e, c, hd, _⟩ := pl
      exact ⟨o, e, hd⟩
    · refine ⟨⟨o, I.kIn p o hk, hc⟩, fun a e => ?_⟩
      cases e
      exact ⟨o, I.kIn _ o hk, hd⟩
    · have z : ∃ o, s.heap.get? p = some o ∧ o.ExactDict := by
        rcases hk with ⟨kvs, hk⟩ | ⟨kvs, hk⟩
        · obtain ⟨_, _, _, _, o, _, _, e, ex, _⟩ := I.hok p _ hk
          exact ⟨o, e, ex⟩
        · obtain ⟨_, _, _, _, o, _, _, e, ex, _⟩ := I.hok p _ hk
          exact ⟨o, e, ex⟩
      obtain ⟨o, e, ex⟩ := z
      refine ⟨⟨o, e, ex.1⟩, fun a e2 => ?_⟩
      cases e2
      exact ⟨o, e, ex.2.1⟩
    · obtain ⟨o, _, _, _, e, ex, _⟩ := I.hok p _ hk
      refine ⟨⟨o, e, ex.1⟩, fun a e2 => ?_⟩
      cases e2
      exact ⟨o, e, ex.2.1⟩
  | _ => exact False.elim ty
def tBM0 (K : PySem.W.Frag) (T : String) (r : V → List V → Hp → VK → Prop) (to : TE) : TE := fun σ H Q => to σ H fun x H1 => tyV K T x H1 ∧ r x [] H1 Q
def tBM (K : PySem.W.Frag) (T : String) (r : V → List V → Hp → VK → Prop) (to : TE) (t : TA) : TE := fun σ H Q => to σ H fun x H1 => tyV K T x H1 ∧ t σ H1 fun xs H2 => r x xs H2 Q
variable {o e : Expr} {es : List Expr} {to : TE} {t : TA} {name : Str} {apos cpos : Pos} {T id : String} {r : V → List V → Hp → VK → Prop}
theorem pe_bm0 (pa : PlainAttrs T) (slot : Slot T name id) (hty : typeOf (.builtin id) = pure (.type "method_descriptor")) (hm : MtR X id r) (ho : PE X o to)
    (hbase : attributeBase o name X.env (eval o X.env) = eval o X.env := by rfl) (hline : (apos.endLine == cpos.line) = true := by rfl) : PE X (.Call (.Attribute o name apos) [] [] cpos) (tBM0 X.K T r to) := by
  intro pins s σ H Q I h
  refine wpAny_Call_method0_late hbase hline (thn (ho pins s σ H _ I h) fun v s1 ⟨x, H1, I1, r1, ty, q1⟩ => ?_)
  obtain ⟨h1, h2⟩ := tyV_is I1 r1 ty
  exact ⟨T, id, pa, slot, hty, h1, h2, Calls.callWith_builtin rfl (PySem.evalArgs_none (hm pins s1 σ H1 x [] v [] Q I1 r1 .nil q1))⟩
theorem pe_bm (pa : PlainAttrs T) (slot : Slot T name id) (hty : typeOf (.builtin id) = pure (.type "method_descriptor")) (hm : MtR X id r) (ho : PE X o to) (ha : PA X (e :: es) t)
    (hbase : attributeBase o name X.env (eval o X.env) = eval o X.env := by rfl)
    (hfew : ((backTo cpos (starEach (e :: es) X.env)).all (fun x => !x.1) && (backToKw cpos (keywordEach [] X.env)).all (fun x => x.1.isSome)
      && decide ((e :: es).length + ([] : List Keyword).length + (if ([] : List Keyword).isEmpty then 0 else 1) < 30)) = true := by rfl)
    (hline : (apos.endLine == cpos.line) = true := by rfl) (hs : starEach (e :: es) X.env = (false, eval e X.env) :: starEach es X.env := by rfl) (hplain : (backTo cpos (starEach es X.env)).any (·.1) = false := by rfl) :
    PE X (.Call (.Attribute o name apos) (e :: es) [] cpos) (tBM X.K T r to t) := by
  intro pins s σ H Q I h
  refine wpAny_Call_method_late hbase hfew hline rfl (thn (ho pins s σ H _ I h) fun v s1 ⟨x, H1, I1, r1, ty, q1⟩ => ?_)
  obtain ⟨h1, h2⟩ := tyV_is I1 r1 ty
  refine ⟨T, id, pa, slot, hty, h1, h2, ?_⟩
  have hA := ha cpos pins s1 σ H1 _ I1 q1
  rw [hs] at hA ⊢
  refine Calls.callWith_builtin (by show (false || (backTo cpos (starEach es X.env)).any (·.1)) = false; rw [hplain] <;> rfl) (Calls.evalArgs_plain ?_)
  exact thn hA fun us s2 ⟨vs, H2, I2, r2, q2⟩ => hm pins s2 σ H2 x vs v us Q I2 r1 r2 q2
end
end L2
namespace L2
open PySem PySem.Spec PyProof.Rows
def MtM (X : Cx) (id : String) (r : V → List V → Hp → VK → Prop) : Prop :=
  ∀ (pins : List (Addr × Obj)) (s : Shared) (σ : St) (H : Hp) (x : V) (xs : List V) (v : Value) (us : List Value) (Q : VK), Inv X pins σ H s → RelV x v → Vals xs us → r x xs H Q →
    wpAny (model X.prog X.w) X.A (call (.builtin id) (v :: us)) (EP X pins σ Q) X.xe s
theorem Vals.one : ∀ {x : V} {us : List Value}, Vals [x] us → ∃ u, us = [u] ∧ RelV x u
  | _, _, .cons r .nil => ⟨_, rfl, r⟩
theorem Vals.two : ∀ {x y : V} {us : List Value}, Vals [x, y] us → ∃ u v, us = [u, v] ∧ RelV x u ∧ RelV y v
  | _, _, _, .cons r (.cons q .nil) => ⟨_, _, rfl, r, q⟩
theorem Vals.zero : ∀ {us : List Value}, Vals [] us → us = []
  | _, .nil => rfl
theorem Vals.dropLast {xs : List V} {us : List Value} (h : Vals xs us) : Vals xs.dropLast us.dropLast := by
  induction h with
  | nil => exact .nil
  | cons r t ih =>
    cases t with
    | nil => exact .nil
    | cons q t' => exact .cons r ih
theorem Vals.eraseIdx : ∀ {xs : List V} {us : List Value} (i : Nat), Vals xs us → Vals (xs.eraseIdx i) (us.eraseIdx i)
  | _, _, _, .nil => .nil
  | _, _, 0, .cons _ t => t
  | _, _, i + 1, .cons r t => .cons r (Vals.eraseIdx i t)
theorem Vals.reverse {xs : List V} {us : List Value} (h : Vals xs us) : Vals xs.reverse us.reverse := by
  induction h with
  | nil => exact .nil
  | cons r t ih => rw [List.reverse_cons, List.reverse_cons]; exact Vals.append ih (.cons r .nil)
theorem Vals.rep {xs : List V} {us : List Value} (h : Vals xs us) : ∀ k : Nat, Vals (List.replicate k xs).flatten (List.replicate k us).flatten
  | 0 => .nil
  | k + 1 => by
    rw [List.replicate_succ, List.replicate_succ, List.flatten_cons, List.flatten_cons]
    exact Vals.append h (Vals.rep h k)
theorem erase_last {α : Type} (l : List α) : l.eraseIdx (l.length - 1) = l.dropLast := by
  induction l with
  | nil => rfl
  | cons a r ih =>
    cases r with
    | nil => rfl
    | cons b r =>
      have e : (a :: b :: r).length - 1 = ((b :: r).length - 1) + 1 := by
        have h1 : (a :: b :: r).length = r.length + 2 := rfl
        have h2 : (b :: r).length = r.length + 1 := rfl
        omega
      rw [e, List.eraseIdx_cons_succ, ih]
      all_goals rfl
theorem len_erase {α : Type} : ∀ (l : List α) (i : Nat), (l.eraseIdx i).length ≤ l.length
  | [], _ => Nat.le_refl _
  | _ :: _, 0 => Nat.le_succ _
  | _ :: r, i + 1 => Nat.succ_le_succ (len_erase r i)
theorem foldl_rep (its : List Value) : ∀ (k : Nat) (acc : List Value),
    List.foldl (fun x1 x2 => x1 ++ x2) acc.toArray (List.replicate k its.toArray) = (acc ++ (List.replicate k its).flatten).toArray
  | 0, acc => by simp
  | k + 1, acc => by
    have e : acc.toArray ++ its.toArray = (acc ++ its).toArray := by simp
    have e2 : (acc ++ its) ++ (List.replicate k its).flatten = acc ++ (List.replicate (k + 1) its).flatten := by
      rw [List.replicate_succ, List.flatten_cons, List.append_assoc]
    rw [← e2, ← foldl_rep its k (acc ++ its), ← e, List.replicate_succ, List.foldl_cons]
section
variable {X : Cx} {pins : List (Addr × Obj)} {σ : St} {H : Hp} {s : Shared} {l b : Addr} {xs ys zs : List V}
theorem Inv.lset {its its' : List Value} {n : Nat} {f : Array Value → Array Value} {t' : Nat} (I : Inv X pins σ H s) (hH : H l = some (.lst xs))
    (e : s.heap.get? l = some { cls := .type "list", data := .seq its.toArray n }) (hf : f its.toArray = its'.toArray) (hv : Vals ys its') (hz : ys.length ≤ sizeLine) (ht : 0 < t' := by first | exact Nat.succ_pos _ | assumption | exact Inv.tk ‹_› | omega) :
    Inv X pins σ (upd H l (.lst ys)) { s with heap := s.heap.update l (Obj.mapSeq f), toks := t' } := by
  have q := PySem.IsL.update e f
  rw [hf] at q
  refine I.write (x := l) (e := l) (by rw [hH]; exact trivial) (.inl rfl) (fun b' u hb hu => (Heap.get?_update_other s.heap (Obj.mapSeq f) (Ne.symm hb)).trans hu) ⟨_, q⟩ ?_
  exact ⟨hz, its', _, hv, q⟩
theorem Inv.lnew {its : List Value} {t' : Nat} (I : Inv X pins σ H s) (hv : Vals ys its) (hz : ys.length ≤ sizeLine) (ht : 0 < t' := by first | exact Nat.succ_pos _ | assumption | exact Inv.tk ‹_› | omega) :
    Inv X pins σ (upd H s.heap.objs.size (.lst ys)) { s with heap := s.heap.push { cls := .type "list", data := .seq its.toArray }, toks := t' } :=
  I.laid (fun _ _ q => Heap.get?_push_of_some _ q) (Nat.le_refl _) ⟨hz, its, 0, hv, Heap.get?_push_size _ rfl⟩
theorem Inv.fresh (I : Inv X pins σ H s) : H s.heap.objs.size = none := I.hok.fresh (Nat.le_refl _)
theorem Inv.lstM (I : Inv X pins σ H s) (hH : H l = some (.lst xs)) : xs.length ≤ sizeLine ∧ ∃ (its : List Value) (n : Nat), Vals xs its ∧ xs.length = its.length ∧ s.heap.get? l = some { cls := .type "list", data := .seq its.toArray n } := by
  obtain ⟨z, its, n, r, e⟩ := I.hok l _ hH
  exact ⟨z, its, n, r, r.length, e⟩
theorem notLongL {n : Nat} (h : n ≤ sizeLine) : Builtin.List.listTooLong n = false := by
  unfold Builtin.List.listTooLong
  exact decide_eq_false (by omega)
end
section
variable {X : Cx}
def rAppend : V → List V → Hp → VK → Prop := fun x vs H Q => ∃ l xs y, x = .ref l ∧ vs = [y] ∧ H l = some (.lst xs) ∧ xs.length < sizeLine ∧ Q .non (upd H l (.lst (xs ++ [y])))
theorem mt_append : MtM X "list.append" rAppend := by
  intro pins s σ H x vs v us Q I rx rv h
  obtain ⟨l, xs, y, rfl, rfl, hH, hz, q⟩ := h
  cases rx
  obtain ⟨u, rfl, ru⟩ := rv.one
  obtain ⟨z, its, n, r, hl, e⟩ := I.lstM hH
  refine call_meets F.slot_list_append ⟨_, e, rfl⟩ F.entry_list_append (F.args_list_append_2 _ _) (PySem.list_append l its.toArray n u (by rw [List.size_toArray]; omega)) ⟨e, ?_⟩
  refine ⟨.non, _, I.lset (its' := its ++ [u]) hH e (by simp) (r.append (.cons ru .nil)) ?_, rfl, q⟩
  rw [List.length_append, List.length_singleton]
  omega
def rExtend : V → List V → Hp → VK → Prop := fun x vs H Q => ∃ l b xs zs, x = .ref l ∧ vs = [.ref b] ∧ H l = some (.lst xs) ∧ H b = some (.lst zs) ∧ xs.length + zs.length ≤ sizeLine ∧ Q .non (upd H l (.lst (xs ++ zs)))
theorem mt_extend : MtM X "list.extend" rExtend := by
  intro pins s σ H x vs v us Q I rx rv h
  obtain ⟨l, b, xs, zs, rfl, rfl, hH, hB, hz, q⟩ := h
  cases rx
  obtain ⟨u, rfl, ru⟩ := rv.one
  cases ru
  obtain ⟨z, its, n, r, hl, e⟩ := I.lstM hH
  obtain ⟨z2, its2, n2, r2, hl2, e2⟩ := I.lstM hB
  have hsz : its.toArray.size + its2.toArray.size ≤ sizeLine := by rw [List.size_toArray, List.size_toArray]; omega
  have hlong : ¬ (!its.toArray.isEmpty && Builtin.List.listTooLong (its.toArray.size + its2.toArray.size)) = true := by
    rw [notLongL hsz, Bool.and_false]
    exact Bool.false_ne_true
  refine call_meets F.slot_list_extend ⟨_, e, rfl⟩ F.entry_list_extend (F.args_list_extend_2 _ _)
    (AutoSeq1.list_extend_list_list_0 l its.toArray n b its2.toArray n2 hlong (by rw [List.size_toArray]; omega) (by omega)) ⟨e, e2, ?_⟩
  refine ⟨.non, _, I.lset (its' := its ++ its2) hH e (by simp) (r.append r2) ?_, rfl, q⟩
  rw [List.length_append]
  omega
def rPop : V → List V → Hp → VK → Prop := fun x vs H Q => ∃ l xs y, x = .ref l ∧ vs = [] ∧ H l = some (.lst xs) ∧ xs[xs.length - 1]? = some y ∧ Q y (upd H l (.lst xs.dropLast))
theorem mt_pop : MtM X "list.pop" rPop := by
  intro pins s σ H x vs v us Q I rx rv h
  obtain ⟨l, xs, y, rfl, rfl, hH, hy, q⟩ := h
  cases rx
  have hus := rv.zero
  subst hus
  obtain ⟨z, its, n, r, hl, e⟩ := I.lstM hH
  obtain ⟨u, hu, ru⟩ := r.get hy
  have hy' : its.toArray[its.toArray.size - 1]? = some u := by
    show its.toArray[its.length - 1]? = some u
    rw [← Array.getElem?_toList, ← hl]
    exact hu
  refine call_meets F.slot_list_pop ⟨_, e, rfl⟩ F.entry_list_pop (F.args_list_pop_1 _) (MeetsSeq.list_pop_last l its.toArray n u hy' (by rw [List.size_toArray]; omega)) ⟨e, ?_⟩
  refine ⟨y, _, I.lset (its' := its.dropLast) hH e ?_ r.dropLast ?_, ru, q⟩
  · show its.toArray.eraseIdxIfInBounds (its.toArray.size - 1) = its.dropLast.toArray
    rw [List.size_toArray, List.eraseIdxIfInBounds_toArray, erase_last]
  · rw [List.length_dropLast]
    omega
def rPopAt : V → List V → Hp → VK → Prop := fun x vs H Q => ∃ l xs i k y, x = .ref l ∧ vs = [.int i] ∧ H l = some (.lst xs) ∧ -(2 ^ 63) ≤ i ∧ i < 2 ^ 63 ∧ seqIndex? i xs.length = some k ∧ xs[k]? = some y ∧ Q y (upd H l (.lst (xs.eraseIdx k)))
theorem mt_popAt : MtM X "list.pop" rPopAt := by
  intro pins s σ H x vs v us Q I rx rv h
  obtain ⟨l, xs, i, k, y, rfl, rfl, hH, h1, h2, hk, hy, q⟩ := h
  cases rx
  obtain ⟨u, rfl, ru⟩ := rv.one
  obtain ⟨t, rfl⟩ := ru
  obtain ⟨z, its, n, r, hl, e⟩ := I.lstM hH
  obtain ⟨w, hw, rw'⟩ := r.get hy
  refine call_meets F.slot_list_pop ⟨_, e, rfl⟩ F.entry_list_pop (F.args_list_pop_2 _ _)
    (MeetsSeq.list_pop_at l its.toArray n i t k w (fitsIndex_both h1 h2) (by rw [List.size_toArray, ← hl]; exact hk) (by rw [← Array.getElem?_toList]; exact hw) (by rw [List.size_toArray]; omega)) ⟨e, ?_⟩
  refine ⟨y, _, I.lset (its' := its.eraseIdx k) hH e ?_ (r.eraseIdx k) ?_, rw', q⟩
  · show its.toArray.eraseIdxIfInBounds k = (its.eraseIdx k).toArray
    rw [List.eraseIdxIfInBounds_toArray]
  · have := len_erase xs k
    omega
def rClear : V → List V → Hp → VK → Prop := fun x vs H Q => ∃ l xs, x = .ref l ∧ vs = [] ∧ H l = some (.lst xs) ∧ Q .non (upd H l (.lst []))
theorem mt_clear : MtM X "list.clear" rClear := by
  intro pins s σ H x vs v us Q I rx rv h
  obtain ⟨l, xs, rfl, rfl, hH, q⟩ := h
  cases rx
  have hus := rv.zero
  subst hus
  obtain ⟨z, its, n, r, hl, e⟩ := I.lstM hH
  refine call_meets F.slot_list_clear ⟨_, e, rfl⟩ F.entry_list_clear (F.args_list_clear_1 _) (AutoSeq1.list_clear_list_0 l its.toArray n (by rw [List.size_toArray]; omega)) ⟨e, ?_⟩
  exact ⟨.non, _, I.lset (its' := []) (ys := []) hH e rfl .nil (Nat.zero_le _), rfl, q⟩
def rCat : R2 := fun x y H Q => ∃ l b xs zs, x = .ref l ∧ y = .ref b ∧ H l = some (.lst xs) ∧ H b = some (.lst zs) ∧ xs.length + zs.length ≤ sizeLine ∧ ∀ p, H p = none → Q (.ref p) (upd H p (.lst (xs ++ zs)))
theorem op_cat : OpR X (binaryOp .Add) rCat := by
  intro pins s σ H x y v u Q I rx ry h
  obtain ⟨l, b, xs, zs, rfl, rfl, hH, hB, hz, q⟩ := h
  cases rx
  cases ry
  obtain ⟨z, its, n, r, hl, e⟩ := I.lstM hH
  obtain ⟨z2, its2, n2, r2, hl2, e2⟩ := I.lstM hB
  refine PySem.P.add_list e e2 ?_ (by rw [List.size_toArray, List.size_toArray]; omega)
  have ea : its.toArray ++ its2.toArray = (its ++ its2).toArray := by simp
  rw [ea]
  exact ⟨.ref _, _, I.lnew (t' := s.toks) (r.append r2) (by rw [List.length_append]; omega), rfl, q _ I.fresh⟩
def rRep : R2 := fun x y H Q => ∃ l k xs, x = .ref l ∧ y = .int k ∧ H l = some (.lst xs) ∧ -(2 ^ 63) ≤ k ∧ k < 2 ^ 63 ∧ xs.length * k.toNat ≤ sizeLine ∧
  ∀ p, H p = none → Q (.ref p) (upd H p (.lst (List.replicate k.toNat xs).flatten))
theorem len_rep {α : Type} (xs : List α) (k : Nat) : (List.replicate k xs).flatten.length = k * xs.length := by
  induction k with
  | zero => simp
  | succ k ih => rw [List.replicate_succ, List.flatten_cons, List.length_append, ih, Nat.succ_mul, Nat.add_comm]
theorem op_rep : OpR X (binaryOp .Mult) rRep := by
  intro pins s σ H x y v u Q I rx ry h
  obtain ⟨l, k, xs, rfl, rfl, hH, h1, h2, hz, q⟩ := h
  cases rx
  obtain ⟨t, rfl⟩ := ry
  obtain ⟨z, its, n, r, hl, e⟩ := I.lstM hH
  have hlen : its.toArray.size * k.toNat ≤ sizeLine := by rw [List.size_toArray, ← hl]; exact hz
  have hcap : ¬ its.toArray.size * k.toNat > (2 ^ 63 - 1) / 8 := by
    have : (sizeLine : Nat) ≤ (2 ^ 63 - 1) / 8 := by decide
    omega
  have hfit : ¬ (!Builtin.List.listFitsIndex k) = true := by
    rw [fitsIndex_both h1 h2]
    exact Bool.false_ne_true
  have hlong : ¬ Builtin.List.listTooLong (its.toArray.size * k.toNat) = true := by
    rw [notLongL hlen]
    exact Bool.false_ne_true
  have hnew : List.foldl (fun x1 x2 => x1 ++ x2) #[] (List.replicate (if its.toArray.isEmpty = true then 0 else k.toNat) its.toArray) = (List.replicate k.toNat its).flatten.toArray := by
    have f0 : ∀ m : Nat, List.foldl (fun x1 x2 => x1 ++ x2) #[] (List.replicate m its.toArray) = (List.replicate m its).flatten.toArray := fun m => by
      have := foldl_rep its m []
      rw [List.nil_append] at this
      exact this
    rw [f0]
    cases its with
    | nil => simp
    | cons a r' => rw [if_neg (by simp)]
  refine wpAny_binaryOp_repeat_ref (T := "list") (U := "int") (by decide) ⟨_, e, rfl⟩ (fun s' => typeIs_int s' k t) noFill_list_mul F.fills_int_mul F.slot_int_rmul repeat_list F.slot_int_index.lookup
    (call_meets F.slot_int_rmul (typeIs_int s k t) F.entry_int_rmul (F.args_int_rmul_2 _ _) (int___rmul___int_list k t l its.toArray n)
      ⟨e, rfl, ⟨_, e, rfl⟩, call_meets F.slot_list_mul ⟨_, e, rfl⟩ F.entry_list_mul (F.args_list_mul_2 _ _) (AutoListH.list___mul___list_int_3 l its.toArray n k t hfit hcap hlong) ⟨e, ?_⟩⟩)
  rw [hnew]
  exact ⟨.ref _, _, I.lnew (t' := s.toks) (r.rep k.toNat) (by rw [len_rep, Nat.mul_comm]; exact hz), rfl, q _ I.fresh⟩
end
section
variable {prog : Program} {w : World} {A : Around} {E : Value → Shared → Prop} {s : Shared}
end
section
variable {X : Cx}
end
end L2
namespace L2
open PySem PySem.Spec PyProof.Rows
section
variable {κ : Type} [DecidableEq κ]
def valV (kvs : List (κ × V)) (k : κ) : Option V := (kvs.find? fun kv => decide (kv.1 = k)).map (·.2)
def putK (kvs : List (κ × V)) (k : κ) (v : V) : List (κ × V) :=
  if (kvs.any fun kv => decide (kv.1 = k)) = true then kvs.map (fun kv => if kv.1 = k then (kv.1, v) else kv) else kvs ++ [(k, v)]
theorem valV_pos {p : κ × V} {r : List (κ × V)} {k : κ} (e : p.1 = k) : valV (p :: r) k = some p.2 := by simp [valV, List.find?_cons, e]
theorem valV_neg {p : κ × V} {r : List (κ × V)} {k : κ} (e : ¬ p.1 = k) : valV (p :: r) k = valV r k := by simp [valV, List.find?_cons, e]
theorem valV_any (k : κ) : ∀ kvs : List (κ × V), (kvs.any fun kv => decide (kv.1 = k)) = (valV kvs k).isSome
  | [] => rfl
  | p :: r => by
    rw [List.any_cons]
    by_cases e : p.1 = k
    · simp only [valV_pos e, decide_eq_true e, Bool.true_or, Option.isSome_some]
    · rw [valV_neg e, decide_eq_false e, Bool.false_or]; exact valV_any k r
theorem length_putK (kvs : List (κ × V)) (k : κ) (v : V) : (putK kvs k v).length ≤ kvs.length + 1 := by
  unfold putK
  split
  · rw [List.length_map]; omega
  · rw [List.length_append, List.length_cons, List.length_nil]; omega
theorem RelO.isSome_eq {o : Option V} {u : Option Value} (r : RelO o u) : o.isSome = u.isSome := by
  cases o with
  | none => cases u with
    | none => rfl
    | some _ => exact (show False from r).elim
  | some _ => cases u with
    | none => exact (show False from r).elim
    | some _ => rfl
theorem KV.val {kvs : List (κ × V)} {vs : List (κ × Value)} (r : KV kvs vs) (k : κ) : RelO (valV kvs k) (valueAt vs k) := by
  unfold KV at r
  induction r with
  | nil => exact True.intro
  | @cons p q ps qs h t ih =>
    obtain ⟨h1, h2⟩ := h
    by_cases e : p.1 = k
    · have e' : q.1 = k := h1.symm.trans e
      have b : valueAt (q :: qs) k = some q.2 := by simp [valueAt, List.find?_cons, e']
      rw [valV_pos e, b]; exact h2
    · have e' : ¬ q.1 = k := fun z => e (h1.trans z)
      have b : valueAt (q :: qs) k = valueAt qs k := by simp [valueAt, List.find?_cons, e']
      rw [valV_neg e, b]; exact ih
theorem KV.any {kvs : List (κ × V)} {vs : List (κ × Value)} (r : KV kvs vs) (k : κ) : (kvs.any fun kv => decide (kv.1 = k)) = vs.any fun kv => decide (kv.1 = k) := by
  unfold KV at r
  induction r with
  | nil => rfl
  | cons h t ih => rw [List.any_cons, List.any_cons, ih, h.1]
theorem KV.repl {kvs : List (κ × V)} {vs : List (κ × Value)} (r : KV kvs vs) (k : κ) {y : V} {u : Value} (ry : RelV y u) :
    KV (kvs.map fun kv => if kv.1 = k then (kv.1, y) else kv) (vs.map fun kv => if kv.1 = k then (kv.1, u) else kv) := by
  unfold KV at r ⊢
  induction r with
  | nil => exact .nil
  | @cons p q ps qs h t ih =>
    rw [List.map_cons, List.map_cons]
    refine .cons ?_ ih
    obtain ⟨h1, h2⟩ := h
    by_cases e : p.1 = k
    · rw [if_pos e, if_pos (h1.symm.trans e)]; exact ⟨h1, ry⟩
    · rw [if_neg e, if_neg (fun z => e (h1.trans z))]; exact ⟨h1, h2⟩
theorem KV.put {kvs : List (κ × V)} {vs : List (κ × Value)} (r : KV kvs vs) (k : κ) {y : V} {u : Value} (ry : RelV y u) : KV (putK kvs k y) (stored vs k u) := by
  unfold putK stored
  rw [r.any k]
  by_cases e : (vs.any fun kv => decide (kv.1 = k)) = true
  · rw [if_pos e, if_pos e]; exact r.repl k ry
  · rw [if_neg e, if_neg e]; exact Paired.snoc r ⟨rfl, ry⟩
theorem KV.length {kvs : List (κ × V)} {vs : List (κ × Value)} (r : KV kvs vs) : kvs.length = vs.length := Paired.length r
end
theorem kV_is {P : Program} {w : World} {k : Key} {u : Value} (r : RelV (kV k) u) : (mixKind P w).is k u = true := by
  cases k with
  | inl i => obtain ⟨t, e⟩ := (show ∃ t, u = Value.int i t from r); subst e; exact mixKind_int P w i t
  | inr x => obtain ⟨t, e⟩ := (show ∃ t, u = Value.str x t from r); subst e; exact mixKind_str P w x t
theorem items_are {P : Program} {w : World} : ∀ {ks : List Key} {us : List Value}, Vals (ks.map kV) us → ItemsAre (mixKind P w) ks us
  | [], _, r => by rw [List.map_nil] at r; cases r; exact .nil
  | k :: ks, _, r => by
    rw [List.map_cons] at r
    cases r with
    | cons h t => exact .cons (kV_is h) (items_are t)
abbrev KT (H : Hp) : List (List Key × V) → List (List Key × Addr × Value) → Prop := Paired fun p q => p.1 = q.1 ∧ H q.2.1 = some (.tup (p.1.map kV)) ∧ RelV p.2 q.2.2
theorem KT.val {H : Hp} {kvs : List (List Key × V)} {xs : List (List Key × Addr × Value)} (r : KT H kvs xs) (k : List Key) : RelO (valV kvs k) ((atKey xs k).map (·.2)) := by
  induction r with
  | nil => exact True.intro
  | @cons p q ps qs h t ih =>
    obtain ⟨h1, _, h2⟩ := h
    by_cases e : p.1 = k
    · have e' : q.1 = k := h1.symm.trans e
      have b : atKey (q :: qs) k = some q.2 := by simp [atKey, List.find?_cons, e']
      rw [valV_pos e, b]; exact h2
    · have e' : ¬ q.1 = k := fun z => e (h1.trans z)
      have b : atKey (q :: qs) k = atKey qs k := by simp [atKey, List.find?_cons, e']
      rw [valV_neg e, b]; exact ih
theorem KT.repl {H : Hp} {kvs : List (List Key × V)} {xs : List (List Key × Addr × Value)} (r : KT H kvs xs) (k : List Key) {y : V} {u : Value} (ry : RelV y u) :
    KT H (kvs.map fun kv => if kv.1 = k then (kv.1, y) else kv) (xs.map (putAt k u)) := by
  induction r with
  | nil => exact .nil
  | @cons p q ps qs h t ih =>
    rw [List.map_cons, List.map_cons]
    refine .cons ?_ ih
    obtain ⟨h1, h2, h3⟩ := h
    unfold putAt
    by_cases e : p.1 = k
    · rw [if_pos e, if_pos (h1.symm.trans e)]; exact ⟨h1, h2, ry⟩
    · rw [if_neg e, if_neg (fun z => e (h1.trans z))]; exact ⟨h1, h2, h3⟩
theorem KT.put {H : Hp} {kvs : List (List Key × V)} {xs : List (List Key × Addr × Value)} (r : KT H kvs xs) (k : List Key) {b : Addr} {y : V} {u : Value} (hb : H b = some (.tup (k.map kV))) (ry : RelV y u) :
    KT H (putK kvs k y) (storedH xs k b u) := by
  have e : (kvs.any fun kv => decide (kv.1 = k)) = (atKey xs k).isSome := by
    rw [valV_any, (r.val k).isSome_eq, Option.isSome_map]
  unfold putK storedH
  rw [e]
  by_cases q : (atKey xs k).isSome = true
  · rw [if_pos q, if_pos q]; exact r.repl k ry
  · rw [if_neg q, if_neg q]; exact Paired.snoc r ⟨rfl, hb, ry⟩
theorem KT.keeps {H H' : Hp} {kvs : List (List Key × V)} {xs : List (List Key × Addr × Value)} (r : KT H kvs xs) (ht : ∀ b ys, H b = some (.tup ys) → H' b = some (.tup ys)) : KT H' kvs xs :=
  Paired.mapP r fun _ _ z => ⟨z.1, ht _ _ z.2.1, z.2.2⟩
section
variable {P : Program} {w : World} {H : Hp} {h : Heap} {a : Addr}
theorem rd_of {u : HO} (ok : HOk P w H h) (e : Rd H a u) : ObjOk P w H h a u := e.ok ok
theorem dk_rd {kvs : List (Key × V)} (ok : HOk P w H h) (e : Rd H a (.dK kvs)) : kvs.length ≤ sizeLine ∧ (a == sysModules) = false ∧ ∃ vs, KV kvs vs ∧ h.DictOf (mixKind P w) a vs :=
  show ObjOk P w H h a (.dK kvs) from rd_of ok e
theorem dk_of {kvs : List (Key × V)} (ok : HOk P w H h) (e : H a = some (.dK kvs)) : kvs.length ≤ sizeLine ∧ (a == sysModules) = false ∧ ∃ vs, KV kvs vs ∧ h.DictOf (mixKind P w) a vs := dk_rd ok (.inl e)
theorem key_of {ks : List Key} (ok : HOk P w H h) (e : H a = some (.tup (ks.map kV))) : (tupleKind (mixKind P w)).is h ks a := by
  obtain ⟨_, its, r, o, h1, h2, n, h3⟩ := (show ObjOk P w H h a (.tup (ks.map kV)) from ok a _ e)
  exact ⟨o, its.toArray, n, h1, h2, h3, by simpa using items_are r⟩
theorem dt_rd {kvs : List (List Key × V)} (ok : HOk P w H h) (e : Rd H a (.dT kvs)) : kvs.length ≤ sizeLine ∧ (a == sysModules) = false ∧
    ∃ xs, KT H kvs xs ∧ h.DictOfH (tupleKind (mixKind P w)) a xs := by
  obtain ⟨z, y, xs, r, o, es, ep, h1, h2, h3, h4, h5⟩ := (show ObjOk P w H h a (.dT kvs) from rd_of ok e)
  refine ⟨z, y, xs, r, o, es, ep, h1, h2, h3, h4, fun x hx => ?_, h5⟩
  have all : ∀ {l : List (List Key × V)} {m : List (List Key × Addr × Value)}, KT H l m → ∀ x ∈ m, (tupleKind (mixKind P w)).is h x.1 x.2.1 := by
    intro l m q
    induction q with
    | nil => intro x hx; exact nomatch hx
    | @cons p q ps qs hq t ih =>
      intro x hx
      rcases List.mem_cons.mp hx with e | hx
      · subst e
        exact key_of ok (by rw [← hq.1]; exact hq.2.1)
      · exact ih x hx
  exact all r x hx
theorem dt_of {kvs : List (List Key × V)} (ok : HOk P w H h) (e : H a = some (.dT kvs)) : kvs.length ≤ sizeLine ∧ (a == sysModules) = false ∧
    ∃ xs, KT H kvs xs ∧ h.DictOfH (tupleKind (mixKind P w)) a xs := dt_rd ok (.inl e)
end
def DGet (H : Hp) (a : Addr) (y : V) (r : Option V) : Prop :=
  (∃ kvs k, Rd H a (.dK kvs) ∧ y = kV k ∧ r = valV kvs k) ∨ ∃ kvs k b, Rd H a (.dT kvs) ∧ y = .ref b ∧ H b = some (.tup (k.map kV)) ∧ r = valV kvs k
def DPut (H : Hp) (a : Addr) (y v : V) (H' : Hp) : Prop :=
  (∃ kvs k, H a = some (.dK kvs) ∧ y = kV k ∧ kvs.length < sizeLine ∧ H' = upd H a (.dK (putK kvs k v))) ∨
  ∃ kvs k b, H a = some (.dT kvs) ∧ y = .ref b ∧ H b = some (.tup (k.map kV)) ∧ kvs.length < sizeLine ∧ H' = upd H a (.dT (putK kvs k v))
theorem DGet.k {H : Hp} {a : Addr} {kvs : List (Key × V)} {k : Key} (e : H a = some (.dK kvs)) : DGet H a (kV k) (valV kvs k) := .inl ⟨kvs, k, .inl e, rfl, rfl⟩
theorem DPut.k {H : Hp} {a : Addr} {kvs : List (Key × V)} {k : Key} {v : V} (e : H a = some (.dK kvs)) (hl : kvs.length < sizeLine) : DPut H a (kV k) v (upd H a (.dK (putK kvs k v))) := .inl ⟨kvs, k, e, rfl, hl, rfl⟩
section
variable {X : Cx} {pins : List (Addr × Obj)} {σ : St} {H : Hp} {s : Shared} {a : Addr} {y v : V} {u r : Value} {o : Option V} {A : Around} {E : Value → Shared → Prop}
theorem Inv.big (I : Inv X pins σ H s) : sysModules < s.heap.objs.size := by
  have h : mainGlobals < s.heap.objs.size := (I.mod.glob.keeps I.bk).lt
  exact Nat.lt_trans (by decide) h
theorem d_getItem {Q : Value → Shared → Prop} (hu : A.units + 1 < cLine) (I : Inv X pins σ H s) (g : DGet H a y (some v)) (ry : RelV y u) (h : ∀ w' s', Inv X pins σ H s' → RelV v w' → Q w' s') :
    wpAny (model X.prog X.w) A (getItem (.ref a) u) Q E s := by
  rcases g with ⟨kvs, k, e, ey, l⟩ | ⟨kvs, k, b, e, ey, eb, l⟩
  · subst ey
    obtain ⟨z, hd, vs, rel, dd⟩ := dk_rd I.hok e
    obtain ⟨w', hw, rw'⟩ := RelO.some_of (v := v) (o := valueAt vs k) (by rw [l]; exact rel.val k)
    exact wpAny_getItem_of (kV_is ry) dd.mapOf hw (h w' _ (I.tok _) rw')
  · subst ey
    cases (show u = Value.ref b from ry)
    obtain ⟨z, hd, xs, rel, dd⟩ := dt_rd I.hok e
    obtain ⟨w', hw, rw'⟩ := RelO.some_of (v := v) (o := (atKey xs k).map (·.2)) (by rw [l]; exact rel.val k)
    obtain ⟨p, hp, hp2⟩ := Option.map_eq_some_iff.mp hw
    refine wpAny_getItem_heap (tupleKind_room_in1 hu) (key_of I.hok eb) dd hp ?_
    rw [hp2]
    exact h w' _ (I.tok _) rw'
theorem d_in {Q : Value → Shared → Prop} (hu : A.units + 1 < cLine) (I : Inv X pins σ H s) (g : DGet H a y o) (ry : RelV y u) (h : ∀ s', Inv X pins σ H s' → Q (.bool o.isSome) s') :
    wpAny (model X.prog X.w) A (compareOp .In u (.ref a)) Q E s := by
  rcases g with ⟨kvs, k, e, ey, l⟩ | ⟨kvs, k, b, e, ey, eb, l⟩
  · subst ey
    obtain ⟨z, hd, vs, rel, dd⟩ := dk_rd I.hok e
    refine wpAny_in_of (kV_is ry) hd dd.mapOf ?_
    rw [← (rel.val k).isSome_eq, ← l]
    exact h _ (I.tok _)
  · subst ey
    cases (show u = Value.ref b from ry)
    obtain ⟨z, hd, xs, rel, dd⟩ := dt_rd I.hok e
    refine wpAny_in_heap (tupleKind_room_in1 hu) (key_of I.hok eb) hd dd ?_
    have q := (rel.val k).isSome_eq
    rw [Option.isSome_map] at q
    rw [← q, ← l]
    exact h _ (I.tok _)
theorem d_notIn {Q : Value → Shared → Prop} (hu : A.units + 1 < cLine) (I : Inv X pins σ H s) (g : DGet H a y o) (ry : RelV y u) (h : ∀ s', Inv X pins σ H s' → Q (.bool (!o.isSome)) s') :
    wpAny (model X.prog X.w) A (compareOp .NotIn u (.ref a)) Q E s := by
  rcases g with ⟨kvs, k, e, ey, l⟩ | ⟨kvs, k, b, e, ey, eb, l⟩
  · subst ey
    obtain ⟨z, hd, vs, rel, dd⟩ := dk_rd I.hok e
    refine wpAny_notIn_of (kV_is ry) hd dd.mapOf ?_
    rw [← (rel.val k).isSome_eq, ← l]
    exact h _ (I.tok _)
  · subst ey
    cases (show u = Value.ref b from ry)
    obtain ⟨z, hd, xs, rel, dd⟩ := dt_rd I.hok e
    refine wpAny_notIn_heap (tupleKind_room_in1 hu) (key_of I.hok eb) hd dd ?_
    have q := (rel.val k).isSome_eq
    rw [Option.isSome_map] at q
    rw [← q, ← l]
    exact h _ (I.tok _)
theorem d_write {h' : Heap} {t' : Nat} {ob : HO} (I : Inv X pins σ H s) (mu : Mut (H a)) (hs : Heap.SameBut a s.heap h') (he : ∃ q, h'.get? a = some q) (new : ObjOk X.prog X.w (upd H a ob) h' a ob) (ht : 0 < t' := by first | exact Nat.succ_pos _ | assumption | exact Inv.tk ‹_› | omega) :
    Inv X pins σ (upd H a ob) { s with heap := h', toks := t' } :=
  I.write (x := a) (e := a) mu (.inl rfl) (fun b q hb z => (hs.2 b hb).trans z) he new
theorem dk_new {P : Program} {w : World} {H' : Hp} {h' : Heap} {kvs : List (Key × V)} {vs : List (Key × Value)} (z : kvs.length ≤ sizeLine) (hd : (a == sysModules) = false) (rel : KV kvs vs) (dd : h'.DictOf (mixKind P w) a vs) :
    ObjOk P w H' h' a (.dK kvs) := ⟨z, hd, vs, rel, dd⟩
theorem d_setItem {H' : Hp} {Q : Unit → Shared → Prop} (hu : A.units + 1 < cLine) (I : Inv X pins σ H s) (g : DPut H a y v H') (ry : RelV y u) (rv : RelV v r) (h : ∀ s', Inv X pins σ H' s' → Q () s') :
    wpAny (model X.prog X.w) A (setItem (.ref a) u r) Q E s := by
  rcases g with ⟨kvs, k, e, ey, l, eH⟩ | ⟨kvs, k, b, e, ey, eb, l, eH⟩
  · subst ey eH
    obtain ⟨z, hd, vs, rel, dd⟩ := dk_of I.hok e
    have hz : vs.length ≤ sizeLine := by rw [← rel.length]; exact z
    have hl : (putK kvs k v).length ≤ sizeLine := by have := length_putK kvs k v; omega
    refine wpAny_setItem_pairs (hsz := hz) (kV_is ry) dd fun h' dd' hs => h _ ?_
    have he : ∃ q, h'.get? a = some q := let ⟨q, _, _, hq, _⟩ := dd'; ⟨q, hq⟩
    exact d_write I (by rw [e]; exact True.intro) hs he (dk_new hl hd (rel.put k rv) dd')
  · subst ey eH
    cases (show u = Value.ref b from ry)
    obtain ⟨z, hd, xs, rel, dd⟩ := dt_of I.hok e
    have hz : xs.length ≤ sizeLine := by rw [← Paired.length rel]; exact z
    have hl : (putK kvs k v).length ≤ sizeLine := by have := length_putK kvs k v; omega
    refine wpAny_setItem_heap (hsz := hz) (tupleKind_room_in1 hu) (key_of I.hok eb) dd fun h' dd' hs => h _ ?_
    obtain ⟨q, es, ep, hq, h2, h3, h4, _, h5⟩ := dd'
    refine d_write I (by rw [e]; exact True.intro) hs ⟨q, hq⟩ ⟨hl, hd, _, (rel.put k eb rv).keeps fun c ys ec => ?_, q, es, ep, hq, h2, h3, h4, h5⟩
    rw [upd_ne (ne_of ec e (fun z => nomatch z))]
    exact ec
end
section
variable {X : Cx} {pins : List (Addr × Obj)} {σ : St} {H : Hp} {s : Shared} {a : Addr} {kvs : List (Key × V)} {k : Key} {u : Value} {A : Around} {E : Value → Shared → Prop}
theorem d_len {Q : Value → Shared → Prop} (I : Inv X pins σ H s) (e : Rd H a (.dK kvs)) (h : ∀ t s', Inv X pins σ H s' → Q (.int kvs.length t) s') : wpAny (model X.prog X.w) A (call (.builtin "len") [.ref a]) Q E s := by
  obtain ⟨z, hd, vs, rel, dd⟩ := dk_rd I.hok e
  refine call_len_dict hd dd (by rw [← rel.length]; rw [sizeLine_eq] at z; omega) ?_
  rw [← rel.length]
  exact h _ _ (I.tok _)
end
def NoSl (i : Expr) : Prop := ∀ ov iv, subscripted i false ov iv = operate [ov, iv] (getItem ov iv)
theorem subD_of {prog : Program} {w : World} {A : Around} {E : Value → Shared → Prop} {s : Shared} {env : Env} {value slice : Expr} {pos : Pos} {T id : String} {Q : Value → Shared → Prop}
    (hl : typeLookup (.type T) "__getitem__" = pure (some (.builtin id))) (hs : NoSl slice)
    (h : wpAny (model prog w) A (eval value env) (fun o s₁ => wpAny (model prog w) A (eval slice env) (fun i s₂ => s₂.TypeIs o T ∧ wpAny (model prog w) A (getItem o i) Q E s₂) E s₁) E s) :
    wpAny (model prog w) A (eval (.Subscript value slice pos) env) Q E s := by
  refine Subscript_ (wpAny_mono h (fun o s₁ h₁ => wpAny_mono h₁ (fun i s₂ h₂ => ?_) fun _ _ x => x) fun _ _ x => x)
  obtain ⟨hT, h₂⟩ := h₂
  unfold subscriptTail
  refine wpAny_bind ?_
  rw [getitemInPython_of_ne hT.not_modules]
  refine wpAny_bind (wpAny_specialOf hT hl ?_)
  have fin : wpAny (model prog w) A (subscripted slice false o i) (fun r s₃ => wpAny (model prog w) A (letTemporaryGo value o r >>= fun _ => pure r) Q E s₃) E s₂ := by
    rw [hs o i]
    exact wpAny_operating (wpAny_mono h₂ (fun r s₃ h₃ => wpAny_bind (wpAny_letTemporaryGo (wpAny_pure h₃))) fun _ _ x => x)
  first
    | exact wpAny_pure (wpAny_bind fin)
    | exact wpAny_bind (wpAny_pure (wpAny_bind fin))
    | exact wpAny_bind fin
theorem dict_typeIs {X : Cx} {pins : List (Addr × Obj)} {σ : St} {H : Hp} {s : Shared} {a : Addr} {y : V} {o : Option V} (I : Inv X pins σ H s) (g : DGet H a y o) : s.TypeIs (.ref a) "dict" := by
  rcases g with ⟨kvs, k, e, _, _⟩ | ⟨kvs, k, b, e, _, _, _⟩
  · obtain ⟨_, _, vs, _, dd⟩ := dk_rd I.hok e
    exact dd.typeIs
  · obtain ⟨_, _, xs, _, dd⟩ := dt_rd I.hok e
    exact dd.typeIs
def tDGet (td ty : TE) : TE := fun σ H Q => td σ H fun x H1 => ty σ H1 fun y H2 => ∃ a v, x = .ref a ∧ DGet H2 a y (some v) ∧ Q v H2
section
variable {X : Cx} {o i e value : Expr} {pos pos' tpos : Pos} {td ty tv : TE}
theorem pe_dget (hu : X.A.units + 1 < cLine) (ho : PE X o td) (hi : PE X i ty) (hs : NoSl i) : PE X (.Subscript o i pos) (tDGet td ty) := by
  intro pins s σ H Q I h
  refine subD_of PySem.F.slot_dict_getitem.lookup hs (thn (ho pins s σ H _ I h) fun u s1 ⟨x, H1, I1, rx, q1⟩ => thn (hi pins s1 σ H1 _ I1 q1) fun iv s2 ⟨y, H2, I2, ry, a, v, ex, g, q2⟩ => ?_)
  subst ex
  obtain rfl : u = Value.ref a := rx
  exact ⟨dict_typeIs I2 g, d_getItem hu I2 g ry fun w' s3 I3 rw' => ⟨v, H2, I3, rw', q2⟩⟩
end
theorem dk_empty {P : Program} {w : World} {H : Hp} (h : Heap) (hb : sysModules < h.objs.size) : ObjOk P w H (h.push { cls := .type "dict", data := .dict #[] }) h.objs.size (.dK []) :=
  ⟨Nat.zero_le _, beq_eq_false_iff_ne.mpr (Ne.symm (Nat.ne_of_lt hb)), [], .nil, Heap.DictOf.new h⟩
def tDNewK : TE := fun _ H Q => ∀ p, H p = none → Q (.ref p) (upd H p (.dK []))
section
variable {X : Cx} {pos : Pos}
theorem pe_dnewK : PE X (.Dict [] [] pos) tDNewK := fun pins s σ H Q I h =>
  wpAny_Dict_empty ⟨.ref s.heap.objs.size, _, I.laid (a := s.heap.objs.size) (o := .dK []) (t' := s.toks) (fun _ _ q => Heap.get?_push_of_some _ q) (Nat.le_refl _) (dk_empty s.heap I.big), rfl, h _ (I.hok.fresh (Nat.le_refl _))⟩
end
section
variable {X : Cx} {pins : List (Addr × Obj)} {σ : St} {H : Hp} {s : Shared} {a : Addr} {y d : V} {u r : Value} {o : Option V} {A : Around} {E : Value → Shared → Prop}
end
section
variable {X : Cx} {o e f : Expr} {apos cpos : Pos} {td ty tx : TE}
end
section
variable {X : Cx} {pins : List (Addr × Obj)} {σ : St} {H : Hp} {s : Shared} {a : Addr} {kvs : List (Key × V)} {A : Around} {E : Value → Shared → Prop}
end
section
variable {X : Cx} {pins : List (Addr × Obj)} {σ : St} {H : Hp} {s : Shared} {a : Addr} {y : V} {u : Value} {A : Around} {E : Value → Shared → Prop}
end
end L2
namespace Att
open PySem PySem.W PySem.Calls PyProof.Rows
theorem ints_of_wellAll {P : Params} {h : Heap} : ∀ (ns : List Int) (vs : List Value), WellAll P h vs (ns.map WData.int) → IntsAre vs ns := by
  intro ns
  induction ns with
  | nil =>
    intro vs w
    rw [List.map_nil] at w
    cases w
    exact .nil
  | cons n ns ih =>
    intro vs w
    rw [List.map_cons] at w
    cases w with
    | cons a b =>
      cases a
      exact .cons _ _ (ih _ b)
theorem script_of {l : OpenLaw} {n : Nat} (hn : l.most = some n) {P : Params} {h : Heap} {args : List WData} {vals : List Value}
    (hpre : l.row.toRowW.claim.pre args = true) (hwl : WellAll P h vals args) :
    ∃ a vs ns, vals = [Value.ref a] ∧ args = [WData.list (ns.map WData.int)] ∧ h.get? a = some { cls := .type "list", data := .seq vs.toArray } ∧ IntsAre vs ns ∧ ns.length ≤ n := by
  have hsh : WShape.hasAll [] args [.list .int] = true := (pre_splitW hpre).1
  have hc : l.pre.holds [] { args := args } = true := (pre_splitW hpre).2
  obtain ⟨d, r, rfl, h1, h2⟩ := hasAllW_cons hsh
  obtain rfl := hasAllW_nil h2
  obtain ⟨xs, rfl, h3⟩ := hasW_list h1
  obtain ⟨ns, rfl⟩ := items_int h3
  have hlen : ns.length ≤ n := by
    unfold OpenLaw.pre at hc
    have h4 : (WTm.not (.lt (.lit (.int (n : Int))) (.len (.arg 0)))).holds [] { args := [.list (ns.map .int)] } = true := by
      have h4 := (holds_andW hc).1
      rw [hn] at h4
      exact h4
    have h5 := condW_of h4 (w_not (w_lt w_lit (w_len_list (w_arg rfl))))
    rw [List.length_map] at h5
    refine Nat.le_of_not_lt fun q => ?_
    have q' : (n : Int) < ((ns.length : Nat) : Int) := by omega
    first
      | (rw [decide_eq_true q'] at h5; exact absurd h5 (by decide))
      | (simp at h5; omega)
  cases hwl with
  | cons w1 w2 =>
    cases w2
    cases w1 with
    | list ho hall => exact ⟨_, _, ns, rfl, rfl, ho, ints_of_wellAll ns _ hall, hlen⟩
theorem post_true (l : OpenLaw) (args : List WData) : l.row.toRowW.claim.post args (.bool true) args = true :=
  postW_of (r := l.row.toRowW) (X := (true == true))
    (show WShape.has [] (.bool true) .bool = true by first | rfl | decide | simp [WShape.has, WShape.arms, WShape.armsAll])
    (show (WTm.eq .res (.lit (.bool true))).value [] { args := args, res := some (.bool true), after := args } = some (.bool (true == true)) from w_eq_bool (w_res rfl) w_lit) rfl
section
variable {prog : Program} {w : World} {A : Around} {E : Value → Shared → Prop} {s : Shared} {K : Frag}
end
end Att
namespace L2
open PySem PySem.Spec PyProof.Rows
theorem vals_ints : ∀ {vs : List Value} {ns : List Int}, IntsAre vs ns → Vals (ns.map V.int) vs
  | _, _, .nil => .nil
  | _, _, .cons n t h => .cons ⟨t, rfl⟩ (vals_ints h)
def Only (H : Hp) : Prop := ∀ b, H b = none ∨ ∃ o xs, H b = some (.frz o (.lst xs))
theorem law_call {P : Program} {w : World} {K : PySem.W.Frag} {mg mb : Str → Option Value} {CX : CXT} {k : Nat} {fa a : Addr} {fd : FuncData} {x : Str} {sp : Sp} {s₁ : Shared} {vs : List Value} {ns : List Int}
    (KX : K.In s₁.heap) (hns : s₁.heap.Ns mainGlobals mg) (hb : s₁.heap.Ns builtinsNs mb) (hbb : ∀ x : Str, x ≠ "__name__" → mb x = bootBuiltins x) (hlim : s₁.heap.NoLimit) (hg : s₁.gens = #[]) (htk : 0 < s₁.toks)
    (ha : s₁.heap.get? a = some { cls := .type "list", data := .seq vs.toArray }) (hi : IntsAre vs ns) (hl : ns.length ≤ sizeLine) (hr : Room k callerA)
    (F : ∀ base : Heap, K.In base → base.Ns mainGlobals mg → FnOk P w K mg base CX k fa fd [x] sp) (hbind : ∀ (s : Shared) (u : Value), BindsTo s fd ⟨[u], []⟩ [(x, u)])
    (hsp : ∀ H : Hp, Only H → SqL K H a (ns.map V.int) → sp [.ref a] H (fun v _ => v = .bl true) fun _ _ _ => False)
    (hCX : ∀ H e s', CX [] H s₁ (fun _ _ _ => False) e s' → False) :
    codeAny (model P w) callerA (.call (.ref fa) ⟨[.ref a], []⟩) (fun r s' => r = .ok (.ret (.bool true)) ∧ OldK s₁.heap s'.heap ∧ s'.os = s₁.os ∧ AllBare s'.gens) s₁ := by
  have rv := vals_ints hi
  have lenV := hi.length
  have core : ∀ H : Hp, Only H → SqL K H a (ns.map V.int) → HOk P w H s₁.heap → (∀ b, H b ≠ none → b = a) → (H a ≠ none → K.lookup a = none) →
      codeAny (model P w) callerA (.call (.ref fa) ⟨[.ref a], []⟩) (fun r s' => r = .ok (.ret (.bool true)) ∧ OldK s₁.heap s'.heap ∧ s'.os = s₁.os ∧ AllBare s'.gens) s₁ := by
    intro H hO hS hok hA hK
    have base_of : ∀ {b : Addr} {o : Obj}, s₁.heap.get? b = some o → H b = none → (hidT s₁.heap H).get? b = some o := fun e n => hidT_get e n
    have noA : ∀ {b : Addr} {o : Obj} {es : Array DictEntry} {ep : Nat}, s₁.heap.get? b = some o → o.data = .dict es ep → H b = none := fun {b o es ep} e d => by
      cases q : H b with
      | none => rfl
      | some u =>
        have e' : b = a := hA b (by rw [q]; simp)
        subst e'
        rw [ha] at e; cases e
        have d' : Data.seq vs.toArray _ = Data.dict es ep := d
        cases d'
    have nsK : ∀ {b : Addr} {m : Str → Option Value}, s₁.heap.Ns b m → (hidT s₁.heap H).Ns b m := fun {b m} ⟨o, es, ep, e, d, r⟩ => ⟨o, es, ep, base_of e (noA e d), d, r⟩
    have hKb : K.In (hidT s₁.heap H) := fun b o e => base_of (KX b o e) (by
      cases q : H b with
      | none => rfl
      | some u =>
        have e' : b = a := hA b (by rw [q]; simp)
        subst e'
        rw [hK (by rw [q]; simp)] at e; cases e)
    have hM : Mod K mg (hidT s₁.heap H) := ⟨hKb, nsK hns, ⟨mb, nsK hb, hbb⟩, let ⟨mc, h1, h2⟩ := hlim; ⟨mc, nsK h1, h2⟩⟩
    have e0 : Env0 P w K mg (hidT s₁.heap H) callerA [] s₁ H := ⟨rfl, hM, fun b o e => of_hidT e, Nat.le_of_eq (hidT_size _ _), trivial, fun b hb => absurd (show b ∈ ([] : List Addr) from hb) (by simp), hok, .of_eq hg, htk⟩
    refine codeAny_mono ((F _ hKb (nsK hns)).run callerA [] s₁ H ⟨[.ref a], []⟩ [.ref a] [.ref a] _ _ hr e0 (hbind s₁ (.ref a)) (.cons rfl .nil) (hsp H hO hS)) fun r s' h => ?_
    cases r with
    | error e => exact (hCX H e s' h).elim
    | ok fl =>
      cases fl with
      | next => exact False.elim h
      | brk => exact False.elim h
      | cont => exact False.elim h
      | ret u =>
        obtain ⟨v, H', _, os, bare, un, hok', r', q⟩ := h
        have q' : v = .bl true := q
        subst q'
        obtain rfl : u = Value.bool true := r'
        refine ⟨rfl, OldK.of_keep fun b o e => ?_, os, bare⟩
        cases q : H b with
        | none => exact un.keep b o e q (by intro z; exact absurd (show b ∈ ([] : List Addr) from z) (by simp)) (by simp)
        | some u =>
          rcases hO b with z | ⟨ob, xs, z⟩
          · rw [q] at z; cases z
          · have z2 := un.frzs b ob _ z
            obtain ⟨e1, _⟩ := hok b _ z
            obtain ⟨e2, _⟩ := hok' b _ z2
            rw [e] at e1; cases e1
            exact e2
  cases hk : K.lookup a with
  | some o =>
    have e := KX a o hk
    rw [ha] at e
    cases e
    refine core (fun _ => none) (fun _ => .inl rfl) (.inr ⟨_, vs.toArray, _, hk, rfl, rfl, rfl, by rw [List.size_toArray, lenV]; exact hl, by simpa using rv⟩) (fun b u z => by have z' : (none : Option HO) = some u := z; cases z') (fun b z => absurd rfl z) fun z => absurd rfl z
  | none =>
    refine core (fun b => if b = a then some (.frz { cls := .type "list", data := .seq vs.toArray } (.lst (ns.map V.int))) else none) (fun b => ?_) (.inl (.inr ⟨{ cls := .type "list", data := .seq vs.toArray }, if_pos rfl⟩)) (fun b u z => ?_) (fun b z => ?_) fun _ => hk
    · by_cases hb : b = a
      · exact .inr ⟨_, _, if_pos hb⟩
      · exact .inl (if_neg hb)
    · by_cases hb : b = a
      · have z' := (if_pos hb).symm.trans z
        cases z'
        subst hb
        exact ⟨ha, by rw [List.length_map]; exact hl, vs, _, rv, ha⟩
      · have z' := (if_neg hb).symm.trans z
        cases z'
    · by_cases hb : b = a
      · exact hb
      · exact absurd (if_neg hb) z
end L2
namespace L2
open PySem PySem.Spec PyProof.Rows
theorem ofPys_ints : ∀ ns : List Int, PySem.W.ofPys (ns.map PyData.int) = ns.map PySem.W.WData.int
  | [] => by simp [PySem.W.ofPys]
  | n :: ns => by simp only [List.map_cons, PySem.W.ofPys, PySem.W.ofPy]; rw [ofPys_ints ns]
theorem walk_of {l : PySem.W.OpenLaw} {n k : Nat} {q : Program} {loose : List Str} {XP : (Str → Option Value) → Heap → Prop} {as : List Addr} {z t : Nat} {d : DefRec} {K : Params → PySem.W.Frag} {CX : World → CXT} {sp : World → Sp} {x : Str}
    (hn : l.most = some n) (hn2 : n ≤ sizeLine) (hdf : d.params.defaults = []) (hr : Room k callerA) (hk : ∀ P, as = (K P).map (·.1)) (h0 : 0 < t)
    (F : ∀ (w : World) (mg : Str → Option Value) (fa : Addr) (h : Heap), (K w.params).In h → h.Ns mainGlobals mg → mg d.name = some (.ref fa) →
      ∃ fd : FuncData, (∀ (s : Shared) (u : Value), BindsTo s fd ⟨[u], []⟩ [(x, u)]) ∧
        ∀ base : Heap, (K w.params).In base → base.Ns mainGlobals mg → FnOk l.prog w (K w.params) mg base (CX w) k fa fd [x] (sp w))
    (hsp : ∀ (w : World) (H : Hp) (a : Addr) (ns : List Int), ns.length ≤ n → Only H → SqL (K w.params) H a (ns.map V.int) → sp w [.ref a] H (fun v _ => v = .bl true) fun _ _ _ => False)
    (hCX : ∀ (w : World) (H : Hp) (s : Shared) (e : Value) (s' : Shared), CX w [] H s (fun _ _ _ => False) e s' → False) :
    PySem.W.WalkX q loose XP (PySem.W.X.obsZ as) (PySem.W.X.valZ K z t) l.row.toRowW d [] (fun f vs => PySem.call f vs) := by
  intro w s₀ s₁ mg mb G y fa o pm cd doc dV kV ho hd hcd hD hmg hg args vals aa L hpre hlay hrd hwl hlo
  obtain rfl : dV = .none := PySem.W.Dflts.none hD hdf
  obtain rfl : kV = .none := PySem.W.Dflts.noKw hD
  obtain ⟨a, vs, ns, rfl, rfl, hobj, hints, hlen⟩ := Att.script_of hn hpre hwl
  obtain ⟨_, KI, _, htk⟩ := PySem.W.X.z_facts hk y
  have KX := PySem.W.InK.keeps w _ _ KI L.keeps
  have tk : 0 < s₁.toks := Nat.lt_of_lt_of_le h0 (PySem.W.X.script_toks (ns := ns) (a := a) (by rw [PySem.W.ofPy, ofPys_ints]; exact L) htk)
  obtain ⟨fd, hb, hF⟩ := F w mg fa _ KX G.T.g hmg
  refine PySem.W.enter_call (codeAny_mono (law_call KX G.T.g G.T.b G.T.builtins G.T.nolimit hg tk hobj hints (Nat.le_trans hlen hn2) hr hF hb (fun H hO hS => hsp w H a ns hlen hO hS) fun H e s' => hCX w H s₁ e s') fun r s' hq => ?_)
  obtain ⟨rfl, h2, h3, h4⟩ := hq
  exact ⟨.inl ⟨.bool true, .bool true, [], rfl, fun _ => rfl, .bool true, Att.post_true l _, fun _ => ⟨List.Pairwise.nil, fun _ hm => (nomatch hm)⟩⟩, h2, h3, h4⟩
end L2
namespace L2
open PySem PySem.Spec PyProof.Rows
def defArgs (s : Stmt) : Arguments := match s with
  | .FunctionDef _ a _ _ _ _ _ _ _ _ => a
  | _ => { posonlyargs := [], args := [], vararg := none, kwonlyargs := [], kw_defaults := [], kwarg := none, defaults := [] }
def defBody (s : Stmt) : List Stmt := match s with
  | .FunctionDef _ _ b _ _ _ _ _ _ _ => b
  | _ => []
def defScope (s : Stmt) : Scope := match s with
  | .FunctionDef _ _ _ _ _ _ sc _ _ _ => sc
  | _ => { kind := .function, names := [], isGenerator := false, isCoroutine := false }
abbrev CX0 : CXT := fun _ _ _ _ _ _ => False
abbrev E0 : XK := fun _ _ _ => False
theorem pass0 {X : Cx} : Passes CX0 X E0 := fun _ _ _ _ _ _ _ h => h.elim
structure Fun (K : PySem.W.Frag) (x qual : Str) (st : Stmt) (f : Addr) (fd : FuncData) : Prop where
  ex : ∃ (oc : Value) (od : Option Addr) (kV doc pm : Value) (an : Option Addr) (cdv ct : Value) (osl : Array (Option Value)),
    fd = PySem.W.fnOf x qual (defArgs st) (defBody st) (defScope st) .none kV doc pm an cdv ct ∧ K.lookup f = some ⟨oc, od, .func fd, osl⟩ ∧ PySem.W.codeIn K cdv qual = true
  kp : PySem.W.keepIn K (.ref f) = true
section
variable {P : Program} {w : World} {K : PySem.W.Frag} {mg : Str → Option Value} {base : Heap}
theorem Fun.ok {x qual : Str} {st : Stmt} {f : Addr} {fd : FuncData} {N ps : List Str} {k : Nat} {sp : Sp} (F : Fun K x qual st f fd) (S : FnScope N ps (defScope st)) (len : ∀ vs H Q E, sp vs H Q E → vs.length = ps.length)
    (hbody : ∀ (cdv : Value) (A : Around) (outer : List Env) (s : Shared) (H : Hp) (vs : List V) (Q : VK) (E : XK), Room k (A.deeper (envOfC qual (defScope st) s.heap.objs.size f cdv)) → sp vs H Q E →
      ∃ t, PSs (cxOf CX0 P w K mg base N qual (defScope st) f cdv A outer s H E).nox (defBody st) t ∧ t { nx := fun _ H' => Q .non H', rt := Q } (start N vs) H) : FnOk P w K mg base CX0 (k + 1) f fd ps sp := by
  obtain ⟨oc, od, kV, doc, pm, an, cdv, ct, osl, rfl, lk, hcd⟩ := F.ex
  refine fn_of lk hcd S len fun A outer s H vs Q E hr hsp => ?_
  obtain ⟨t, h, q⟩ := hbody cdv A outer s H vs Q E hr hsp
  exact ⟨t, h.nox, q⟩
theorem Fun.binds {x qual : Str} {st : Stmt} {f : Addr} {fd : FuncData} {ps : List Str} (F : Fun K x qual st f fd)
    (h : ∀ (kV doc pm : Value) (an : Option Addr) (cdv ct : Value) (us : List Value), us.length = ps.length → bindArgs (PySem.W.fnOf x qual (defArgs st) (defBody st) (defScope st) .none kV doc pm an cdv ct) ⟨us, []⟩ = pure (ps.zip us)) : Binds K fd ps [] := by
  obtain ⟨oc, od, kV, doc, pm, an, cdv, ct, osl, rfl, lk, hcd⟩ := F.ex
  exact .all (h kV doc pm an cdv ct)
theorem fun_mk {x qual : Str} {st : Stmt} {f : Addr} {oc : Value} {od an : Option Addr} {osl : Array (Option Value)} {kV doc pm cdv ct : Value} (l : K.lookup f = some ⟨oc, od, .func (PySem.W.fnOf x qual (defArgs st) (defBody st) (defScope st) .none kV doc pm an cdv ct), osl⟩)
    (c : PySem.W.codeIn K cdv qual = true) (k : PySem.W.keepIn K (.ref f) = true) : Fun K x qual st f (PySem.W.fnOf x qual (defArgs st) (defBody st) (defScope st) .none kV doc pm an cdv ct) := ⟨⟨oc, od, kV, doc, pm, an, cdv, ct, osl, rfl, l, c⟩, k⟩
end
theorem hu_of {A : Around} {k : Nat} (hr : Room k A) : A.units + 1 < cLine := Nat.lt_of_le_of_lt (Nat.add_le_add_left (by decide : 1 ≤ 64) _) hr.units
section
variable {X : Cx}
theorem pv (i : Nat) {x : Str} {pos : Pos} (hN : X.N[i]? = some x := by rfl) (hv : Vis X.env.scope x := by first | exact Or.inl rfl | exact Or.inr (Or.inl rfl) | exact Or.inr (Or.inr rfl)) (hd : (x == ("__debug__" : Str)) = false := by decide)
    (hcd : (x == ("__classdict__" : Str)) = false := by decide) : PE X (.Name x pos) (tVar i) := pe_var hN hv hd hcd
end
theorem iteF {A B : Prop} (h : B) : if false = true then A else B := by
  rw [if_neg Bool.false_ne_true]
  exact h
theorem iteT {A B : Prop} (h : A) : if true = true then A else B := by
  rw [if_pos rfl]
  exact h
def Same (H H' : Hp) : Prop := ∀ b o, H b = some o → H' b = some o
theorem Same.seq {K : PySem.W.Frag} {H H' : Hp} {a : Addr} {xs : List V} (e : Same H H') (h : SqL K H a xs) : SqL K H' a xs := by
  rcases h with (h | ⟨o, h⟩) | h
  · exact .inl (.inl (e _ _ h))
  · exact .inl (.inr ⟨o, e _ _ h⟩)
  · exact .inr h
section
variable {X : Cx}
theorem call_lenD : CallR X (.builtin "len") (fun xs H Q => ∃ a kvs, xs = [V.ref a] ∧ H a = some (.dK kvs) ∧ Q (.int kvs.length) H) := by
  intro pins s σ H xs us Q I r h
  obtain ⟨a, kvs, rfl, ha, q⟩ := h
  obtain ⟨u, rfl, ru⟩ := vals1 r
  cases ru
  exact d_len I (.inl ha) fun t s' I' => ⟨.int kvs.length, H, I', ⟨t, rfl⟩, q⟩
end
section
variable {κ : Type} [DecidableEq κ]
end
end L2
namespace L2
open PySem PySem.Spec PyProof.Rows
theorem noE {α : Type} {t : Sem α} {Q : α → Shared → Prop} {M : Model} {A : Around} {E : Value → Shared → Prop} {s : Shared} (h : wpAny M A t Q (fun _ _ => False) s) : wpAny M A t Q E s :=
  wpAny_mono h (fun _ _ q => q) fun _ _ z => False.elim z
theorem closure_ex {env : Env} : ∀ (names : List (Str × NameKind)) (acc : List (Str × Addr)), (∀ y ∈ names, y.2 = .free → ∃ c, env.cells.lookup y.1 = some c) → (∀ x c, acc.lookup x = some c → env.cells.lookup x = some c) →
    ∃ cl, (forIn names acc fun (x : Str × NameKind) (r : List (Str × Addr)) =>
        (if (x.2 == .free) = true then (do let a ← cellOf env x.1; pure (ForInStep.yield ((x.1, a) :: r))) else pure (ForInStep.yield r) : Sem (ForInStep (List (Str × Addr))))) = (pure cl : Sem (List (Str × Addr))) ∧
      (∀ x c, cl.lookup x = some c → env.cells.lookup x = some c) ∧ (∀ x, (∃ c, acc.lookup x = some c) → ∃ c, cl.lookup x = some c) ∧ ∀ y ∈ names, y.2 = .free → ∃ c, cl.lookup y.1 = some c
  | [], acc, _, h2 => ⟨acc, by rw [List.forIn_nil], h2, fun _ h => h, fun _ h => by cases h⟩
  | (n, k) :: r, acc, h1, h2 => by
    by_cases hk : k = .free
    · subst hk
      obtain ⟨c, hc⟩ := h1 (n, .free) List.mem_cons_self rfl
      obtain ⟨cl, e, q1, q2, q3⟩ := closure_ex r ((n, c) :: acc) (fun y hy => h1 y (List.mem_cons_of_mem _ hy)) (fun x d hd => by
        rw [List.lookup_cons] at hd
        cases hx : x == n with
        | true => rw [hx] at hd; cases hd; rw [beq_iff_eq.mp hx]; exact hc
        | false => rw [hx] at hd; exact h2 x d hd)
      refine ⟨cl, ?_, q1, fun x hx => q2 x ?_, fun y hy hf => ?_⟩
      · rw [List.forIn_cons]
        have e0 : cellOf env n = pure c := by unfold cellOf; rw [hc]
        simp only [beq_self_eq_true, if_true, e0]
        exact e
      · rw [List.lookup_cons]
        cases x == n with
        | true => exact ⟨c, rfl⟩
        | false => exact hx
      · rcases List.mem_cons.mp hy with rfl | hy
        · exact q2 n ⟨c, by rw [List.lookup_cons]; simp⟩
        · exact q3 y hy hf
    · obtain ⟨cl, e, q1, q2, q3⟩ := closure_ex r acc (fun y hy => h1 y (List.mem_cons_of_mem _ hy)) h2
      refine ⟨cl, ?_, q1, q2, fun y hy hf => ?_⟩
      · rw [List.forIn_cons]
        have hb : (k == NameKind.free) = false := by simpa using hk
        simp only [hb, Bool.false_eq_true, if_false]
        exact e
      · rcases List.mem_cons.mp hy with rfl | hy
        · exact absurd hf hk
        · exact q3 y hy hf
theorem closureFor_ex {env : Env} {scope : Scope} (h : ∀ y ∈ scope.names, y.2 = .free → ∃ c, env.cells.lookup y.1 = some c) :
    ∃ cl, closureFor scope env = pure cl ∧ (∀ x c, cl.lookup x = some c → env.cells.lookup x = some c) ∧ ∀ y ∈ scope.names, y.2 = .free → ∃ c, cl.lookup y.1 = some c := by
  obtain ⟨cl, e, q1, _, q3⟩ := closure_ex (env := env) scope.names [] h (fun x c hc => by simp at hc)
  refine ⟨cl, ?_, q1, q3⟩
  unfold closureFor
  simp only []
  rw [show (forIn scope.names ([] : List (Str × Addr)) fun (x : Str × NameKind) (r : List (Str × Addr)) =>
        (match x with | (name, kind) => if (kind == .free) = true then (do let a ← cellOf env name; pure (ForInStep.yield ((name, a) :: r))) else pure (ForInStep.yield r) : Sem (ForInStep (List (Str × Addr))))) = (pure cl : Sem (List (Str × Addr))) from e]
  rfl
theorem lookup_relabel_free {env : Env} : ∀ {names : List (Str × NameKind)} {x : Str}, names.lookup x = some .free →
    (names.map fun (n, k) => if (k == NameKind.free && env.scope.kind == .function && env.kindOf n == some .cell) then (n, NameKind.cell) else (n, k)).lookup x = some .cell ∨
    (names.map fun (n, k) => if (k == NameKind.free && env.scope.kind == .function && env.kindOf n == some .cell) then (n, NameKind.cell) else (n, k)).lookup x = some .free
  | [], _, h => by simp at h
  | (n, k) :: r, x, h => by
    have ih := @lookup_relabel_free env r x
    show List.lookup x ((if (k == NameKind.free && env.scope.kind == .function && env.kindOf n == some .cell) = true then (n, NameKind.cell) else (n, k)) :: _) = _ ∨ List.lookup x ((if (k == NameKind.free && env.scope.kind == .function && env.kindOf n == some .cell) = true then (n, NameKind.cell) else (n, k)) :: _) = _
    cases hx : x == n with
    | true =>
      simp only [List.lookup_cons, hx] at h
      cases h
      by_cases hc : (NameKind.free == NameKind.free && env.scope.kind == .function && env.kindOf n == some .cell) = true
      · rw [if_pos hc]; exact .inl (by simp only [List.lookup_cons, hx])
      · rw [if_neg hc]; exact .inr (by simp only [List.lookup_cons, hx])
    | false =>
      simp only [List.lookup_cons, hx] at h
      by_cases hc : (k == NameKind.free && env.scope.kind == .function && env.kindOf n == some .cell) = true
      · rw [if_pos hc]; simp only [List.lookup_cons, hx]; exact ih h
      · rw [if_neg hc]; simp only [List.lookup_cons, hx]; exact ih h
theorem lookup_relabel_back {env : Env} : ∀ {names : List (Str × NameKind)} {x : Str} {k : NameKind},
    (names.map fun (n, k) => if (k == NameKind.free && env.scope.kind == .function && env.kindOf n == some .cell) then (n, NameKind.cell) else (n, k)).lookup x = some k →
    names.lookup x = some k ∨ (k = .cell ∧ names.lookup x = some .free)
  | [], _, _, h => by simp at h
  | (n, j) :: r, x, k, h => by
    have ih := @lookup_relabel_back env r x k
    have h : List.lookup x ((if (j == NameKind.free && env.scope.kind == .function && env.kindOf n == some .cell) = true then (n, NameKind.cell) else (n, j)) :: _) = some k := h
    by_cases hc : (j == NameKind.free && env.scope.kind == .function && env.kindOf n == some .cell) = true
    · rw [if_pos hc] at h
      cases hx : x == n with
      | true =>
        simp only [List.lookup_cons, hx] at h ⊢
        cases h
        have : j = .free := by
          cases j <;> simp at hc ⊢
        exact .inr ⟨rfl, by rw [this]⟩
      | false => simp only [List.lookup_cons, hx] at h ⊢; exact ih h
    · rw [if_neg hc] at h
      cases hx : x == n with
      | true => simp only [List.lookup_cons, hx] at h ⊢; exact .inl h
      | false => simp only [List.lookup_cons, hx] at h ⊢; exact ih h
theorem codeAny_compLoop_gen {prog : Program} {w : World} {A : Around} {R : Result → Shared → Prop} {s : Shared} {elt target iter : Expr} {ifs : List Expr} {scope : Scope} {pos : Pos} {it acc : Value} {env : Env} (I : Nat → Shared → Prop)
    (turn : ∀ n s, I n s → wpAny (model prog w) A (pyNext it) (fun r s₁ => match r with
      | none => R (.ok .next) s₁
      | some v => wpAny (model prog w) A (letOwnedTupleGo target it v) (fun _ s₁' => wpAny (model prog w) A (assign target env v) (fun _ s₂ =>
          wpAny (model prog w) A (forIn ifs true fun c r => if r = true then do let ok ← isTrue c env (eval c env); pure (ForInStep.yield ok) else pure (ForInStep.yield r)) (fun ok s₃ =>
            if ok = true then wpAny (model prog w) A (eval elt env) (fun x s₄ =>
              wpAny (model prog w) A (call (.builtin "list.append") [acc, x]) (fun _ s₅ => ∃ m, m < n ∧ I m s₅) (notedBy (model prog w) A env fun e s' => R (.error e) s') s₄) (notedBy (model prog w) A env fun e s' => R (.error e) s') s₃
            else ∃ m, m < n ∧ I m s₃) (notedBy (model prog w) A env fun e s' => R (.error e) s') s₂) (notedBy (model prog w) A env fun e s' => R (.error e) s') s₁') (notedBy (model prog w) A env fun e s' => R (.error e) s') s₁)
      (notedBy (model prog w) A env fun e s' => R (.error e) s') s)
    (n : Nat) (h : I n s) :
    codeAny (model prog w) A (.compLoop (.ListComp elt [⟨target, iter, ifs, 0⟩] scope pos) 0 it acc env) R s := by
  refine codeAny_loop rfl I (fun n s hI => ?_) n h
  show wpAny _ A ((compTurn (.ListComp elt [⟨target, iter, ifs, 0⟩] scope pos) 0 it acc env).onRaise (fun x => do noteFrame x env; theTreesLotGoes x)) _ _ s
  refine wpAny_noted ?_
  rw [compTurn_list]
  refine wpAny_bind (wpAny_standAt (wpAny_bind (wpAny_mono (turn n s hI) (fun r s₁ h₁ => ?_) fun _ _ h' => h')))
  cases r with
  | none => exact wpAny_pure h₁
  | some v =>
    refine wpAny_bind (wpAny_mono h₁ (fun _ s₁' h₁' => ?_) fun _ _ h' => h')
    refine wpAny_bind (wpAny_mono h₁' (fun _ s₂ h₂ => wpAny_bind (wpAny_mono h₂ (fun ok s₃ h₃ => ?_) fun _ _ h' => h')) fun _ _ h' => h')
    cases ok with
    | false => exact wpAny_pure ⟨rfl, h₃⟩
    | true =>
      exact wpAny_bind (wpAny_bind (wpAny_mono h₃ (fun x s₄ h₄ => wpAny_bind (wpAny_mono h₄ (fun _ s₅ h₅ => wpAny_pure (wpAny_pure ⟨rfl, h₅⟩)) fun _ _ h' => h')) fun _ _ h' => h'))
def blk (X : Cx) (N : List Str) (scope : Scope) (cl : List (Str × Addr)) (C : Addr) (s₂ : Shared) (H₂ : Hp) (fp : List Addr) (pn : List (Addr × Obj)) : Cx :=
  { X with N := N, s₀ := s₂, H₀ := H₂, env := compEnvC scope cl C X.env, outer := X.stack, stack := X.stack, ex := fp, fn := fun _ => false, pn := pn, xe := fun _ _ => False }
def grab (fr : List (Option Nat)) (σ : St) : St := fr.map fun o => match o with | some i => (σ[i]?).join | none => none
theorem grab_get {fr : List (Option Nat)} {σ : St} {j : Nat} {v : V} (h : (grab fr σ)[j]? = some (some v)) : ∃ i, fr[j]? = some (some i) ∧ σ[i]? = some (some v) := by
  unfold grab at h
  rw [List.getElem?_map] at h
  cases e : fr[j]? with
  | none => rw [e] at h; cases h
  | some o =>
    rw [e] at h
    cases o with
    | none => cases h
    | some i =>
      refine ⟨i, rfl, ?_⟩
      have h' : (σ[i]?).join = some v := Option.some.inj h
      cases e2 : σ[i]? with
      | none => rw [e2] at h'; cases h'
      | some x => rw [e2] at h'; cases x with
        | none => cases h'
        | some y => cases h'; rfl
def TgOk (fr : List (Option Nat)) (g : TG) : Prop := ∀ (x : V) (σ : St) (H : Hp) (Q : St → Hp → Prop), g x σ H Q → g x σ H fun σ2 H2 => Q σ2 H2 ∧ ∀ (j i : Nat), fr[j]? = some (some i) → σ2[j]? = σ[j]?
def TgsOk (fr : List (Option Nat)) (g : TGs) : Prop := ∀ (xs : List V) (σ : St) (H : Hp) (Q : St → Hp → Prop), g xs σ H Q → g xs σ H fun σ2 H2 => Q σ2 H2 ∧ ∀ (j i : Nat), fr[j]? = some (some i) → σ2[j]? = σ[j]?
theorem tg_name {fr : List (Option Nat)} {i : Nat} (h : fr[i]? = some none := by rfl) : TgOk fr (gName i) := fun x σ H Q q => ⟨q, fun j k hj => by
  have : i ≠ j := by rintro rfl; rw [h] at hj; cases hj
  rw [List.getElem?_set_ne this]⟩
theorem tg_nil {fr : List (Option Nat)} : TgsOk fr gNil := fun xs σ H Q ⟨e, q⟩ => ⟨e, q, fun _ _ _ => rfl⟩
theorem tg_cons {fr : List (Option Nat)} {i : Nat} {u : TGs} (h : fr[i]? = some none) (hu : TgsOk fr u) : TgsOk fr (gCons (gName i) u) := fun xs σ H Q ⟨v, r, e, q⟩ => by
  refine ⟨v, r, e, ?_⟩
  have q : u r (σ.set i (some v)) H Q := q
  have e2 := hu _ _ _ _ q
  have k : ∀ j k, fr[j]? = some (some k) → (σ.set i (some v))[j]? = σ[j]? := fun j k hj => by
    have : i ≠ j := by rintro rfl; rw [h] at hj; cases hj
    rw [List.getElem?_set_ne this]
  have e3 : (fun (σ2 : St) (H2 : Hp) => Q σ2 H2 ∧ ∀ (j k : Nat), fr[j]? = some (some k) → σ2[j]? = σ[j]?) = (fun (σ2 : St) (H2 : Hp) => Q σ2 H2 ∧ ∀ (j k : Nat), fr[j]? = some (some k) → σ2[j]? = (σ.set i (some v))[j]?) := by
    funext σ2 H2
    refine propext ⟨fun ⟨a, b⟩ => ⟨a, fun j m hj => (b j m hj).trans (k j m hj).symm⟩, fun ⟨a, b⟩ => ⟨a, fun j m hj => (b j m hj).trans (k j m hj)⟩⟩
  show u r (σ.set i (some v)) H _
  rw [e3]
  exact e2
theorem tg_tup {fr : List (Option Nat)} {K : PySem.W.Frag} {n : Nat} {u : TGs} (hu : TgsOk fr u) : TgOk fr (gTup K n u) := fun x σ H Q ⟨a, xs, e1, e2, e3, q⟩ => ⟨a, xs, e1, e2, e3, hu _ _ _ _ q⟩
def PTs (X : Cx) (ifs : List Expr) (t : TT) : Prop :=
  ∀ (pins : List (Addr × Obj)) (s : Shared) (σ : St) (H : Hp) (Q : Bool → Hp → Prop), Inv X pins σ H s → t σ H Q →
    wpAny (model X.prog X.w) X.A (forIn ifs true fun c r => if r = true then do let ok ← isTrue c X.env (eval c X.env); pure (ForInStep.yield ok) else pure (ForInStep.yield r)) (TP X pins σ Q) X.xe s
def tTT : TT := fun _ H Q => Q true H
theorem pts_nil {X : Cx} : PTs X [] tTT := fun _ _ _ H _ I h => wpAny_tests_nil ⟨H, I, h⟩
theorem pts_one {X : Cx} {c : Expr} {t : TT} (h : PT X c t) : PTs X [c] t := fun pins s σ H Q I hq => wpAny_tests_one (h pins s σ H Q I hq)
structure CompScope (X : Cx) (scope : Scope) (N : List Str) (fr : List (Option Nat)) : Prop where
  kind : scope.kind = .function
  nocell : ∀ y ∈ scope.names, y.2 ≠ .cell
  names : ∀ y ∈ scope.names, y.2 = .local → scope.names.lookup y.1 = some .local
  free : ∀ y ∈ scope.names, y.2 = .free → X.env.scope.names.lookup y.1 = some .cell ∨ X.env.scope.names.lookup y.1 = some .free
  len : N.length = fr.length
  at_ : ∀ (j i : Nat) (x : Str), fr[j]? = some (some i) → N[j]? = some x → X.N[i]? = some x ∧ scope.names.lookup x = some .free
def compChk (osc : Scope) (ON : List Str) (scope : Scope) (N : List Str) (fr : List (Option Nat)) : Bool :=
  decide (scope.kind = .function) && scope.names.all (fun y => decide (y.2 ≠ .cell)) && scope.names.all (fun y => decide (y.2 ≠ .local) || decide (scope.names.lookup y.1 = some .local)) &&
  scope.names.all (fun y => decide (y.2 ≠ .free) || decide (osc.names.lookup y.1 = some .cell) || decide (osc.names.lookup y.1 = some .free)) && decide (N.length = fr.length) &&
  (fr.zip N).all (fun p => match p.1 with | some i => decide (ON[i]? = some p.2) && decide (scope.names.lookup p.2 = some .free) | none => true)
theorem comp_scope {X : Cx} {osc : Scope} {ON : List Str} {scope : Scope} {N : List Str} {fr : List (Option Nat)} (h : compChk osc ON scope N fr = true) (e1 : X.env.scope = osc) (e2 : X.N = ON) : CompScope X scope N fr := by
  subst e1 e2
  unfold compChk at h
  simp only [Bool.and_eq_true, List.all_eq_true, Bool.or_eq_true, decide_eq_true_eq] at h
  obtain ⟨⟨⟨⟨⟨h1, h2⟩, h3⟩, h4⟩, h5⟩, h6⟩ := h
  refine ⟨h1, h2, fun y hy e => (h3 y hy).resolve_left fun z => z e, fun y hy e => ?_, h5, fun j i x e1 e2 => ?_⟩
  · rcases h4 y hy with (z | z) | z
    · exact absurd e z
    · exact .inl z
    · exact .inr z
  · have hm : (some i, x) ∈ fr.zip N := by
      apply List.mem_of_getElem? (i := j)
      rw [List.getElem?_zip_eq_some]
      exact ⟨e1, e2⟩
    have := h6 _ hm
    simpa using this
def tComp (fr : List (Option Nat)) (wi : TI) (g : TG) (tt : TT) (te : TE) : TE := fun σ H Q => wi σ H fun J H1 =>
  ∃ W : Nat → Nat → List V → Hp → Prop, (∃ m, W 0 m [] H1) ∧ ∀ i m ys H, W i m ys H → ys.length ≤ sizeLine ∧
    ((J.stop i H ∧ ∀ p, H p = none → Q (.ref p) (upd H p (.lst ys))) ∨
     (J.go i H ∧ ∃ NN : List V → Hp → Prop, (∀ ys' H', NN ys' H' → ∃ m', m' < m ∧ W (i + 1) m' ys' H') ∧ ∀ x H', J.yld i H x H' → g x (grab fr σ) H' fun σ2 H2 => tt σ2 H2 fun b H3 =>
        if b = true then te σ2 H3 fun y H4 => NN (ys ++ [y]) H4 else NN ys H3))
structure BlkEnd (X : Cx) (pins : List (Addr × Obj)) (σ : St) (Q : VK) (C D : Addr) (s' : Shared) : Prop where
  ex : ∃ (ys : List V) (H : Hp), H D = none ∧ (∃ m, s'.heap.Ns C m) ∧ D ≠ C ∧ C ≠ X.env.locals ∧ (∀ x c, X.env.cells.lookup x = some c → c ≠ C) ∧ (∀ p ∈ X.pn ++ pins, p.1 ≠ C) ∧ X.s₀.heap.objs.size ≤ C ∧ C ∉ X.fs ∧
    (upd H D (.lst ys)) C = none ∧
    (∀ h', Heap.SameBut C s'.heap h' → Inv X pins σ (upd H D (.lst ys)) { s' with heap := h' }) ∧ Q (.ref D) (upd H D (.lst ys))
theorem comp_block {X : Cx} {elt iter tg : Expr} {ifs : List Expr} {scope : Scope} {pos : Pos} {N : List Str} {fr : List (Option Nat)} {g : TG} {tt : TT} {te : TE} {cl : List (Str × Addr)}
    (hcalm : X.calm = true) (S : CompScope X scope N fr) (hclS : ∀ x c, cl.lookup x = some c → X.env.cells.lookup x = some c) (hclH : ∀ y ∈ scope.names, y.2 = .free → ∃ c, cl.lookup y.1 = some c)
    (hg : ∀ C s₂ H₂ fp pn, PG (blk X N scope cl C s₂ H₂ fp pn) tg g) (hgo : TgOk fr g) (ht : ∀ C s₂ H₂ fp pn, PTs (blk X N scope cl C s₂ H₂ fp pn) ifs tt) (he : ∀ C s₂ H₂ fp pn, PE (blk X N scope cl C s₂ H₂ fp pn) elt te)
    {pins : List (Addr × Obj)} {s2 : Shared} {σ : St} {H2 : Hp} {Q : VK} {it : Addr} {fp : List Addr} {tn : Nat → Heap → Prop} {J : It} (I2 : Inv X pins σ H2 s2) (T : Turn X.prog X.w X.K tg J fp it tn) (st2 : tn 0 s2.heap) (f2 : ∀ b ∈ fp, FpOk X pins H2 b)
    (W : Nat → Nat → List V → Hp → Prop) (w0 : ∃ m, W 0 m [] H2)
    (turn : ∀ i m ys H, W i m ys H → ys.length ≤ sizeLine ∧
    ((J.stop i H ∧ ∀ p, H p = none → Q (.ref p) (upd H p (.lst ys))) ∨
     (J.go i H ∧ ∃ NN : List V → Hp → Prop, (∀ ys' H', NN ys' H' → ∃ m', m' < m ∧ W (i + 1) m' ys' H') ∧ ∀ x H', J.yld i H x H' → g x (grab fr σ) H' fun σ2 H2 => tt σ2 H2 fun b H3 =>
        if b = true then te σ2 H3 fun y H4 => NN (ys ++ [y]) H4 else NN ys H3)))
    {E : Value → Shared → Prop} {RR : Value → Addr → Result → Shared → Prop} (hRR : ∀ C D s', BlkEnd X pins σ Q C D s' → RR (.ref D) C (.ok .next) s') :
    wpAny (model X.prog X.w) X.A (newList []) (fun acc s₃ => wpAny (model X.prog X.w) X.A (newFunctionEnv scope X.env.globals cl [] X.env.qual none .none (some X.env)) (fun cenv s₄ =>
      codeAny (model X.prog X.w) X.A (.compStart (.ListComp elt [⟨tg, iter, ifs, 0⟩] scope pos) 0 (.ref it) acc { cenv with scope := relabel scope X.env }) (RR acc cenv.locals) s₄) E s₃) E s2 := by
  obtain ⟨m0, w0⟩ := w0
  refine wpAny_newObj_type (wpAny_newFunctionEnv S.nocell (by intro y hy; simp at hy) (fun h₁ hns₁ hsb₁ => ?_) S.kind)
  dsimp only at hns₁ hsb₁ ⊢
  generalize hHH : s2.heap.push { cls := .type "list", dict := none, data := .seq ([] : List Value).toArray } = HH at hns₁ hsb₁ ⊢
  have hC : HH.objs.size = s2.heap.objs.size + 1 := by rw [← hHH, Heap.size_push]
  generalize hDD : s2.heap.objs.size = D at *
  generalize hCC : HH.objs.size = C at *
  have hDlt : Nat.lt D C := by show D < C; rw [hC]; exact Nat.lt_succ_self _
  have hDC : D ≠ C := Nat.ne_of_lt hDlt
  have neD : ∀ {b : Addr}, Nat.lt b D → b ≠ D := fun h => Nat.ne_of_lt h
  have neC : ∀ {b : Addr}, Nat.lt b D → b ≠ C := fun h => Nat.ne_of_lt (Nat.lt_trans h hDlt)
  have below : ∀ (b : Addr) (o : Obj), s2.heap.get? b = some o → Nat.lt b D := fun b o e => by rw [← hDD]; exact Heap.lt_size e
  have old : ∀ b o, s2.heap.get? b = some o → h₁.get? b = some o := fun b o e => hsb₁.extBut b o (neC (below b o e)) (Heap.get?_push_of_some _ (hHH ▸ Heap.get?_push_of_some _ e))
  have hacc : h₁.get? D = some { cls := .type "list", data := .seq ([] : List Value).toArray } := hsb₁.extBut _ _ hDC (Heap.get?_push_of_some _ (by rw [← hHH, ← hDD]; exact Heap.get?_push_size _ rfl))
  have Lt : Nat.lt X.env.locals D := by rw [← hDD]; exact I2.lt
  have cellLt : ∀ x c, X.env.cells.lookup x = some c → Nat.lt c D := fun x c e => by
    obtain ⟨v, q⟩ := I2.cell x c e
    rw [← hDD]; exact q.lt
  have pinLt : ∀ p ∈ X.pn ++ pins, Nat.lt p.1 D := fun p hp => below p.1 p.2 (I2.pin p hp).1
  have freshH : ∀ b : Addr, Nat.le D b → H2 b = none := fun b hb => I2.hok.fresh (by rw [hDD]; exact hb)
  let X' : Cx := blk X N scope cl C s2 H2 fp (X.pn ++ pins)
  have okX : X'.Ok := by
    refine ⟨I2.ok.mod, S.kind, I2.ok.glob, I2.ok.blt, by show s2.heap.objs.size ≤ C; rw [hDD]; exact Nat.le_of_lt hDlt, fun x y c e1 e2 => I2.ok.inj x y c (hclS _ _ e1) (hclS _ _ e2), fun x hx => ?_, fun x c hf _ => (by cases hf), I2.ok.hd, I2.ok.frames, .inl rfl, fun b hb => ⟨?_, fun x c e => (f2 b hb).2.2.2.2.1 x c (hclS _ _ e)⟩, I2.bs, Nat.le_trans I2.ok.bsz I2.sz, fun b o e hb => ?_, fun b hb hm => ?_, I2.stack, I2.stkFree⟩
    · have hx : (relabel scope X.env).names.lookup x = some .cell ∨ (relabel scope X.env).names.lookup x = some .free := hx
      have hf : scope.names.lookup x = some .free := by
        rcases hx with hx | hx
        · rcases lookup_relabel_back hx with h | ⟨_, h⟩
          · exact absurd rfl (S.nocell _ (PySem.mem_of_lookup h))
          · exact h
        · rcases lookup_relabel_back hx with h | ⟨h, _⟩
          · exact h
          · cases h
      exact hclH _ (PySem.mem_of_lookup hf) rfl
    · obtain ⟨o, e, _⟩ := T.obj 0 _ st2 b hb
      exact neC (below b o e)
    · obtain ⟨_, _, _, h, _⟩ := f2 b hb
      rcases h with h | h
      · exact I2.ok.noex b o e h
      · have := Heap.lt_size (I2.ok.bs b o e).1
        exact absurd (Nat.lt_of_lt_of_le this h) (Nat.lt_irrefl _)
    · rcases List.mem_cons.mp (I2.stkSub b hm) with h | h
      · exact (f2 b hb).2.1 h
      · exact (f2 b hb).2.2.1 h
  have I4 : ∀ tk, 0 < tk → Inv X' [(D, { cls := .type "list", data := .seq ([] : List Value).toArray })] (grab fr σ) H2 { s2 with heap := h₁, toks := tk } := fun tk htk => by
    refine ⟨okX, rfl, I2.bare, Un.kept old, ⟨_, hns₁, fun j x v e1 e2 e3 => ?_⟩, fun x c e => ?_, freshH C (Nat.le_of_lt hDlt), fun x c e => I2.freeC x c (hclS _ _ e), fun p hp => ?_, I2.hok.kept old, ?_, htk⟩
    · obtain ⟨i, q1, q2⟩ := grab_get e2
      obtain ⟨a1, a2⟩ := S.at_ j i x q1 e1
      obtain ⟨m, hn, hl⟩ := I2.loc
      have vis : Vis X.env.scope x := by
        rcases S.free _ (PySem.mem_of_lookup a2) rfl with h | h
        · exact .inr (.inl h)
        · exact .inr (.inr h)
      obtain ⟨u, r, l⟩ := hl i x v a1 q2 vis
      refine ⟨u, r, .inr ⟨?_, ?_⟩⟩
      · exact lookup_relabel_free (env := X.env) a2
      · rcases l with ⟨hk, _⟩ | ⟨_, c, hc, hcell⟩
        · have hk : X.env.scope.names.lookup x = some .local := hk
          rcases S.free _ (PySem.mem_of_lookup a2) rfl with h | h
          · have h : X.env.scope.names.lookup x = some .cell := h
            rw [hk] at h; cases h
          · have h : X.env.scope.names.lookup x = some .free := h
            rw [hk] at h; cases h
        · obtain ⟨c', hc'⟩ := hclH _ (PySem.mem_of_lookup a2) rfl
          have : c = c' := by
            have := hclS _ _ hc'
            rw [hc] at this
            exact Option.some.inj this
          subst this
          obtain ⟨o, ho, hd⟩ := hcell
          exact ⟨c, hc', o, old c o ho, hd⟩
    · obtain ⟨v, o, ho, hd⟩ := I2.cell x c (hclS _ _ e)
      exact ⟨v, o, old c o ho, hd⟩
    · rcases List.mem_append.mp hp with hp | hp
      · obtain ⟨e, n, ne, nf, d⟩ := I2.pin p hp
        refine ⟨old _ _ e, n, ?_, fun hm => ?_, d⟩
        · exact neC (pinLt p hp)
        · rcases List.mem_cons.mp (I2.stkSub _ hm) with h | h
          · exact ne h
          · exact nf h
      · have hp : p = (D, { cls := .type "list", data := .seq ([] : List Value).toArray }) := by simpa using hp
        subst hp
        refine ⟨hacc, freshH D (Nat.le_refl _), hDC, fun hm => ?_, fun v z => by cases z⟩
        rcases List.mem_cons.mp (I2.stkSub _ hm) with h | h
        · exact neD Lt h.symm
        · exact I2.nofs (by rw [hDD]; exact Nat.le_refl _) h
    · show (grab fr σ).length = N.length
      unfold grab
      rw [List.length_map, S.len]
  have fpLt : ∀ b ∈ fp, Nat.lt b D := fun b hb => by
    obtain ⟨o, e, _⟩ := T.obj 0 _ st2 b hb
    exact below b o e
  have fpk : ∀ {H : Hp} {oD : Obj}, (∀ b ∈ fp, H b = none) → ∀ b ∈ fp, FpOk X' [(D, oD)] H b := fun {H oD} hn b hb => by
    refine ⟨hn b hb, ?_, fun hm => ?_, .inl hb, fun x c e => (f2 b hb).2.2.2.2.1 x c (hclS _ _ e), fun p hp => ?_⟩
    · exact neC (fpLt b hb)
    · rcases List.mem_cons.mp (I2.stkSub b hm) with h | h
      · exact (f2 b hb).2.1 h
      · exact (f2 b hb).2.2.1 h
    · rcases List.mem_append.mp hp with hp | hp
      · exact (f2 b hb).2.2.2.2.2 p hp
      · have hp : p = (D, oD) := by simpa using hp
        subst hp
        exact (neD (fpLt b hb)).symm
  have loop : ∀ s₃ : Shared, s₃ = { s2 with heap := h₁, toks := s2.toks + ([] : List (Str × Value)).length } →
      codeAny (model X.prog X.w) X.A (.compLoop (.ListComp elt [⟨tg, iter, ifs, 0⟩] scope pos) 0 (.ref it) (.ref D) (compEnvC scope cl C X.env)) (RR (.ref D) C) s₃ := by
    rintro s₃ rfl
    refine codeAny_compLoop_gen (fun n s' => ∃ i ys its k H', Inv X' [(D, ({ cls := .type "list", data := .seq its k } : Obj))] (grab fr σ) H' s' ∧ tn i s'.heap ∧ (∀ b ∈ fp, H' b = none) ∧ Vals ys its.toList ∧ W i n ys H') ?_ m0
      ⟨0, [], #[], _, H2, I4 _ (by first | exact I2.tk | exact Nat.succ_pos _), T.keep 0 _ _ st2 (fun b _ o e => old b o e), fun b hb => (f2 b hb).1, .nil, w0⟩
    rintro n s3 ⟨i, ys, its, k, H3, I3, st3, fr3, vy, w3⟩
    obtain ⟨hsz, h⟩ := turn i n ys H3 w3
    rcases h with ⟨stop, qn⟩ | ⟨go, NN, hNN, step⟩
    · refine noE (thn (T.done X' rfl rfl rfl hcalm i [(D, _)] s3 (grab fr σ) H3 _ I3 (fpk fr3) st3 stop) fun r s4 ⟨hr, I4⟩ => ?_)
      subst hr
      refine hRR C D s4 ⟨ys, H3, ?_⟩
      obtain ⟨pD, nD, _, _, _⟩ := I4.pin (D, _) (List.mem_append_right _ (List.mem_singleton.mpr rfl))
      have pD : s4.heap.get? D = some { cls := .type "list", data := .seq its k } := pD
      have nD : H3 D = none := nD
      have nC : H3 C = none := I4.free
      obtain ⟨mC, hnC, _⟩ := I4.loc
      refine ⟨nD, ⟨mC, hnC⟩, hDC, (neC Lt).symm, fun x c e z => ?_, fun p hp z => ?_, ?_, fun hm => ?_, ?_, fun h' hsb => ?_, qn D nD⟩
      · exact neC (cellLt x c e) z
      · exact neC (pinLt p hp) z
      · have := I2.sz; rw [hDD] at this; exact Nat.le_trans this (Nat.le_of_lt hDlt)
      · exact I2.nofs (by rw [hDD]; exact Nat.le_of_lt hDlt) hm
      · rw [upd_ne (Ne.symm hDC)]; exact nC
      · have un : Un (frs X.stack) fp H2 (upd H3 D (.lst ys)) s2.heap h' := by
          have u := I4.base
          have neC : ∀ (b : Addr) (o : Obj), s2.heap.get? b = some o → b ≠ C := fun b o e => neC (below b o e)
          have neD : ∀ (b : Addr) (o : Obj), s2.heap.get? b = some o → b ≠ D := fun b o e => neD (below b o e)
          have trkNe : ∀ b (o : HO), H3 b = some o → b ≠ D := fun b o e z => by rw [z, nD] at e; cases e
          refine ⟨fun b o e n hb hx => hsb.extBut b o (neC b o e) (u.keep b o e n hb hx), fun b o e n hb hx => ?_, fun b o e n hx => by rw [upd_ne (neD b o e)]; exact u.free b o e n hx, fun b o e hx => ?_, fun b xs e => ?_, fun b o xs e => ?_, fun b ps e => ?_⟩
          · obtain ⟨sl, q⟩ := u.slot b o e n hb hx
            exact ⟨sl, hsb.extBut b _ (neC b o e) q⟩
          · obtain ⟨o', q⟩ := u.there b o e hx
            exact ⟨o', hsb.extBut b _ (neC b o e) q⟩
          · have q := u.tups b xs e
            rw [upd_ne (trkNe b _ q)]; exact q
          · have q := u.frzs b o xs e
            rw [upd_ne (trkNe b _ q)]; exact q
          · obtain ⟨more, q⟩ := u.tbls b ps e
            exact ⟨more, by rw [upd_ne (trkNe b _ q)]; exact q⟩
        have hok : HOk X.prog X.w (upd H3 D (.lst ys)) h' := fun b u e => by
          by_cases hb : b = D
          · rw [hb, upd_same] at e
            cases e
            rw [hb]
            exact ⟨hsz, its.toList, k, vy, by simpa using hsb.extBut D _ hDC pD⟩
          · rw [upd_ne hb] at e
            refine (I4.hok b u e).stay (fun c v hc q => hsb.extBut c v ?_ q) (fun c q => ?_) fun c xs q => ?_
            · rcases hc with rfl | hc
              · rintro rfl; rw [nC] at e; cases e
              · rintro rfl; rw [nC] at hc; cases hc
            · rw [upd_ne (ne_of_none q nD)]; exact q
            · rw [upd_ne (ne_of_none q nD)]; exact q
        obtain ⟨hh, gg, dd, tt', os'⟩ := s4
        obtain rfl : os' = s2.os := I4.os
        refine (show Inv X pins σ (upd H3 D (.lst ys)) { s2 with heap := h', gens := gg, drawn := dd, toks := tt' } from I2.call (h' := h') (g' := gg) (d' := dd) (t' := tt') (ch := fp) un hok I4.bare fun b hb => ?_)
        obtain ⟨_, f1, _, f3, f4, f5⟩ := f2 b hb
        exact ⟨f3, f1, f4, f5⟩
    · refine noE (thn (T.item X' rfl rfl rfl hcalm i [(D, _)] s3 (grab fr σ) H3 _ I3 (fpk fr3) st3 go) fun r s4 ⟨u, hr, h4⟩ => ?_)
      subst hr
      refine noE (thn h4 fun _ s5 ⟨x, H5, I5, r5, y5, st5, fr5⟩ => ?_)
      have I5' := I5.pinned (fpk fr5) (T.obj _ _ st5)
      refine noE (thn (hg C s2 H2 fp (X.pn ++ pins) _ s5 (grab fr σ) H5 x u _ I5' r5 (hgo _ _ _ _ (step x H5 y5))) fun _ s6 ⟨σ6, H6, I6, q6, k6⟩ => ?_)
      refine noE (thn (ht C s2 H2 fp (X.pn ++ pins) _ s6 σ6 H6 _ I6 q6) fun b s7 ⟨H7, I7, q7⟩ => ?_)
      have back : ∀ {s8 : Shared} {H8 : Hp}, Inv X' ([(D, ({ cls := .type "list", data := .seq its k } : Obj))] ++ pinsAt fp s5.heap) σ6 H8 s8 → Inv X' [(D, ({ cls := .type "list", data := .seq its k } : Obj))] (grab fr σ) H8 s8 ∧ tn (i + 1) s8.heap ∧ ∀ b ∈ fp, H8 b = none := fun {s8 H8} I8 => by
        refine ⟨(I8.unpinned).weak ?_ fun j v e => ?_, T.keep _ _ _ st5 fun b hb o e => (I8.pin (b, o) (List.mem_append_right _ (List.mem_append_right _ (mem_pinsAt hb e)))).1, fun b hb => ?_⟩
        · rw [I8.len]; show (grab fr σ).length = N.length; unfold grab; rw [List.length_map, S.len]
        · obtain ⟨i', q1, _⟩ := grab_get e
          rw [k6 j i' q1]; exact e
        · obtain ⟨o, e, d⟩ := T.obj _ _ st5 b hb
          exact (I8.pin (b, o) (List.mem_append_right _ (List.mem_append_right _ (mem_pinsAt hb e)))).2.1
      cases b with
      | false =>
        rw [if_neg Bool.false_ne_true] at q7 ⊢
        obtain ⟨m', hm, w7⟩ := hNN _ _ q7
        obtain ⟨J1, J2, J3⟩ := back I7
        exact ⟨m', hm, i + 1, ys, its, k, H7, J1, J2, J3, vy, w7⟩
      | true =>
        rw [if_pos rfl] at q7 ⊢
        refine noE (thn (he C s2 H2 fp (X.pn ++ pins) _ s7 σ6 H7 _ I7 q7) fun y s8 ⟨yv, H8, I8, r8, n8⟩ => ?_)
        obtain ⟨m', hm, w8⟩ := hNN _ _ n8
        obtain ⟨J1, J2, J3⟩ := back I8
        obtain ⟨pD, nD, _, _, _⟩ := J1.pin (D, _) (List.mem_append_right _ (List.mem_singleton.mpr rfl))
        have pD : s8.heap.get? D = some { cls := .type "list", data := .seq its k } := pD
        have nD : H8 D = none := nD
        have hz' : its.size ≤ sizeLine := by
          have e1 : its.size = ys.length := by rw [vy.length]; simp
          rw [e1]; exact hsz
        refine wpAny_list_append_plain (hsz := hz') ⟨k, pD⟩ fun h' ⟨k', hl'⟩ hsb => ?_
        · refine ⟨m', hm, i + 1, ys ++ [yv], its.push y, k', H8, ?_, T.keep _ _ _ J2 fun b hb o e => ?_, J3, ?_, w8⟩
          · have K0 : Inv X' [] (grab fr σ) H8 s8 := J1.pins_of fun p hp => by cases hp
            have K1 : Inv X' [] (grab fr σ) H8 { s8 with heap := h' } := by
              refine K0.turned (it := D) (t' := s8.toks) (fun b o hb e => hsb.extBut b o hb e) nD hDC (.inr (by show s2.heap.objs.size ≤ D; rw [hDD]; exact Nat.le_refl _)) (fun x c e z => ?_) fun p hp z => ?_
              · exact neD (cellLt x c (hclS _ _ e)) z
              · have hp : p ∈ X.pn ++ pins := by
                  rcases List.mem_append.mp hp with hp | hp
                  · exact hp
                  · cases hp
                exact neD (pinLt p hp) z
            refine K1.pins_of fun p hp => ?_
            have hp : p = (D, ({ cls := .type "list", data := .seq (its.push y) k' } : Obj)) := by simpa using hp
            subst hp
            refine ⟨hl', nD, hDC, fun hm => ?_, fun v z => by cases z⟩
            rcases List.mem_cons.mp (I2.stkSub _ hm) with h | h
            · exact neD Lt h.symm
            · exact I2.nofs (by rw [hDD]; exact Nat.le_refl _) h
          · exact hsb.extBut b o (neD (fpLt b hb)) e
          · rw [Array.toList_push]
            exact Vals.append vy (.cons r8 .nil)
  exact codeAny_compStart_list (loop _ rfl) (T.self _ 0 _ _ _ (T.keep 0 _ _ st2 fun b _ o e => old b o e) (loop _ rfl))
theorem pe_comp {X : Cx} {elt iter tg : Expr} {ifs : List Expr} {scope : Scope} {pos : Pos} {N : List Str} {fr : List (Option Nat)} {wi : TI} {g : TG} {tt : TT} {te : TE}
    (hcalm : X.calm = true) (S : CompScope X scope N fr) (hi : PI X tg iter wi)
    (hg : ∀ cl C s₂ H₂ fp pn, PG (blk X N scope cl C s₂ H₂ fp pn) tg g) (hgo : TgOk fr g) (ht : ∀ cl C s₂ H₂ fp pn, PTs (blk X N scope cl C s₂ H₂ fp pn) ifs tt) (he : ∀ cl C s₂ H₂ fp pn, PE (blk X N scope cl C s₂ H₂ fp pn) elt te)
    (hs : ∀ x, foldedSetIterable iter X.env x = pure x := by intro _; rfl) : PE X (.ListComp elt [⟨tg, iter, ifs, 0⟩] scope pos) (tComp fr wi g tt te) := by
  intro pins s σ H Q I h
  obtain ⟨cl, hclos, hclS, hclH⟩ := closureFor_ex (env := X.env) (scope := scope) fun y hy hf => I.ok.has y.1 (S.free y hy hf)
  rw [eval_ListComp]
  refine wpAny_comprehension_free (use := none) rfl hs hclos S.kind S.names (thn (hi pins s σ H _ I h) fun v s1 h1 => thn h1 fun itv s2 h2 => ?_)
  obtain ⟨it, fp, tn, J, H2, e, I2, T, st2, f2, W, w0, turn⟩ := h2
  subst e
  refine comp_block (RR := fun acc C => compPost (model X.prog X.w) X.A X.xe none (EP X pins σ Q) acc C) hcalm S hclS hclH (hg cl) hgo (ht cl) (he cl) I2 T st2 f2 W w0 turn fun C D s' B => ?_
  obtain ⟨ys, H', nD, hC, _, _, _, _, _, _, _, hI, q⟩ := B.ex
  obtain ⟨m, hn⟩ := hC
  exact ⟨m, hn, fun h' hs' => ⟨.ref D, _, hI h' hs', rfl, q⟩⟩
theorem ps_setC {X : Cx} {elt iter tg : Expr} {ifs : List Expr} {scope : Scope} {pos spos py : Pos} {N : List Str} {fr : List (Option Nat)} {wi : TI} {g : TG} {tt : TT} {te : TE} {i : Nat} {y : Str}
    (hN : X.N.Nodup) (hy : X.N[i]? = some y) (hly : X.env.scope.names.lookup y = some .local)
    (hcalm : X.calm = true) (S : CompScope X scope N fr) (hi : PI X tg iter wi)
    (hg : ∀ cl C s₂ H₂ fp pn, PG (blk X N scope cl C s₂ H₂ fp pn) tg g) (hgo : TgOk fr g) (ht : ∀ cl C s₂ H₂ fp pn, PTs (blk X N scope cl C s₂ H₂ fp pn) ifs tt) (he : ∀ cl C s₂ H₂ fp pn, PE (blk X N scope cl C s₂ H₂ fp pn) elt te)
    (hsw : swapsWith (.ListComp elt [⟨tg, iter, ifs, 0⟩] scope pos) (some (.Name y py)) spos.line X.env = pure true := by rfl)
    (hs : ∀ x, foldedSetIterable iter X.env x = pure x := by intro _; rfl) : PS X (.Assign [.Name y py] (.ListComp elt [⟨tg, iter, ifs, 0⟩] scope pos) spos) (tAsg (tComp fr wi g tt te) (gName i)) := by
  intro pins s σ H D I h
  obtain ⟨cl, hclos, hclS, hclH⟩ := closureFor_ex (env := X.env) (scope := scope) fun y hy hf => I.ok.has y.1 (S.free y hy hf)
  rw [exec_Assign_Name_used _ _ _ _ hsw]
  refine wpAny_bind (wpAny_standAt (wpAny_bind ?_))
  show wpAny _ X.A (do let _ ← comprehension (.ListComp elt [⟨tg, iter, ifs, 0⟩] scope pos) scope X.env _ (newList []) false (eval iter X.env) (some (assign (.Name y py) X.env))) _ _ s
  refine wpAny_bind (wpAny_mono (wpAny_comprehension_free (use := some (assign (.Name y py) X.env)) (Q := fun _ s' => SP X pins D .next s') rfl hs hclos S.kind S.names
    (thn (hi pins s σ H _ I h) fun v s1 h1 => thn h1 fun itv s2 h2 => ?_)) (fun _ s' hq => wpAny_pure (wpAny_pure hq)) fun _ _ e => e)
  obtain ⟨it, fp, tn, J, H2, e, I2, T, st2, f2, W, w0, turn⟩ := h2
  subst e
  refine comp_block (Q := fun x H1 => gName i x σ H1 D.nx) (RR := fun acc C => compPost (model X.prog X.w) X.A X.xe (some (assign (.Name y py) X.env)) (fun _ s' => SP X pins D .next s') acc C) hcalm S hclS hclH (hg cl) hgo (ht cl) (he cl) I2 T st2 f2 W w0 turn fun C D' s' B => ?_
  obtain ⟨ys, H', nD, hC, hDC, hCL, hCc, hCp, hCs, hCf, hCn, hI, q⟩ := B.ex
  obtain ⟨m, hn⟩ := hC
  have I1 : Inv X pins σ (upd H' D' (.lst ys)) s' := by
    have := hI s'.heap (.refl ..)
    obtain ⟨hh, gg, dd, tt', os'⟩ := s'
    exact this
  show wpAny _ X.A (assign (.Name y py) X.env (.ref D')) _ _ _
  refine wpAny_assign_Name (store_ok2 I1 hN hy (.inl hly) (v := .ref D') rfl (fun s2 I3 ⟨a, sb, ha⟩ => ?_) (.inr hly))
  have hCa : C ≠ a := by
    rcases ha with rfl | ha
    · exact hCL
    · exact fun z => hCc y a ha z.symm
  refine ⟨m, hn.sameBut sb hCa, fun h3 hs3 => ?_⟩
  exact ⟨_, _, I3.turned (it := C) (t' := s2.toks) (fun b o hb e => hs3.extBut b o hb e) hCn hCL (.inr hCs) hCc hCp, q⟩
end L2
namespace L2
open PySem PySem.Spec PyProof.Rows
mutual
def Dv (K : PySem.W.Frag) (H : Hp) : PyData → V → Prop
  | .none, v => v = .non
  | .bool b, v => v = .bl b
  | .int i, v => v = .int i
  | .str x, v => v = .str x
  | .list ds, v => ∃ a vs, v = .ref a ∧ SqL K H a vs ∧ Dvs K H ds vs
  | .tuple ds, v => ∃ a vs, v = .ref a ∧ SqT K H a vs ∧ Dvs K H ds vs
  | .dict _, _ => False
def Dvs (K : PySem.W.Frag) (H : Hp) : List PyData → List V → Prop
  | [], vs => vs = []
  | d :: ds, vs => ∃ v r, vs = v :: r ∧ Dv K H d v ∧ Dvs K H ds r
end
section
variable {K : PySem.W.Frag} {H H' : Hp}
theorem Dvs.length : ∀ {ds : List PyData} {vs : List V}, Dvs K H ds vs → vs.length = ds.length
  | [], _, h => by rw [Dvs] at h; subst h; rfl
  | d :: ds, _, h => by
    rw [Dvs] at h
    obtain ⟨v, r, rfl, _, h⟩ := h
    rw [List.length_cons, List.length_cons, Dvs.length h]
theorem Dvs.get : ∀ {ds : List PyData} {vs : List V} {i : Nat} {d : PyData}, Dvs K H ds vs → ds[i]? = some d → ∃ v, vs[i]? = some v ∧ Dv K H d v
  | [], _, _, _, _, e => by simp at e
  | d :: ds, _, 0, _, h, e => by
    rw [Dvs] at h
    obtain ⟨v, r, rfl, h, _⟩ := h
    cases e
    exact ⟨v, rfl, h⟩
  | d :: ds, _, i + 1, _, h, e => by
    rw [Dvs] at h
    obtain ⟨v, r, rfl, _, h⟩ := h
    exact Dvs.get (i := i) h (by simpa using e)
theorem Dvs.get' : ∀ {ds : List PyData} {vs : List V} {i : Nat} {v : V}, Dvs K H ds vs → vs[i]? = some v → ∃ d, ds[i]? = some d ∧ Dv K H d v
  | [], _, _, _, h, e => by rw [Dvs] at h; subst h; simp at e
  | d :: ds, _, 0, _, h, e => by
    rw [Dvs] at h
    obtain ⟨v, r, rfl, h, _⟩ := h
    cases e
    exact ⟨d, rfl, h⟩
  | d :: ds, _, i + 1, _, h, e => by
    rw [Dvs] at h
    obtain ⟨v, r, rfl, _, h⟩ := h
    exact Dvs.get' (i := i) h (by simpa using e)
theorem Dvs.append : ∀ {ds es : List PyData} {vs ws : List V}, Dvs K H ds vs → Dvs K H es ws → Dvs K H (ds ++ es) (vs ++ ws)
  | [], _, _, _, h, g => by rw [Dvs] at h; subst h; exact g
  | d :: ds, es, _, _, h, g => by
    rw [Dvs] at h
    obtain ⟨v, r, rfl, h1, h⟩ := h
    show Dvs K H (d :: (ds ++ es)) _
    rw [Dvs]
    exact ⟨v, r ++ _, rfl, h1, Dvs.append h g⟩
theorem dvs_nil : Dvs K H [] [] := by rw [Dvs]
theorem dvs_cons {d : PyData} {ds : List PyData} {v : V} {vs : List V} (h : Dv K H d v) (t : Dvs K H ds vs) : Dvs K H (d :: ds) (v :: vs) := by rw [Dvs]; exact ⟨v, vs, rfl, h, t⟩
theorem dv_none {v : V} : Dv K H .none v ↔ v = .non := by rw [Dv]
theorem dv_bool {b : Bool} {v : V} : Dv K H (.bool b) v ↔ v = .bl b := by rw [Dv]
theorem dv_int {i : Int} {v : V} : Dv K H (.int i) v ↔ v = .int i := by rw [Dv]
theorem dv_str {x : Str} {v : V} : Dv K H (.str x) v ↔ v = .str x := by rw [Dv]
theorem dv_list {ds : List PyData} {v : V} : Dv K H (.list ds) v ↔ ∃ a vs, v = .ref a ∧ SqL K H a vs ∧ Dvs K H ds vs := by rw [Dv]
theorem dv_tuple {ds : List PyData} {v : V} : Dv K H (.tuple ds) v ↔ ∃ a vs, v = .ref a ∧ SqT K H a vs ∧ Dvs K H ds vs := by rw [Dv]
def sDa (xs : List Str) : List PyData := xs.map .str
def strV (xs : List Str) : List V := xs.map .str
theorem dvs_sDa : ∀ {xs : List Str} {vs : List V}, Dvs K H (sDa xs) vs ↔ vs = strV xs
  | [], _ => by show Dvs K H [] _ ↔ _ = []; rw [Dvs]
  | x :: xs, vs => by
    show Dvs K H (.str x :: sDa xs) vs ↔ vs = V.str x :: strV xs
    rw [Dvs]
    constructor
    · rintro ⟨v, r, rfl, h1, h2⟩
      rw [dv_str.mp h1, dvs_sDa.mp h2]
    · rintro rfl
      exact ⟨_, _, rfl, dv_str.mpr rfl, dvs_sDa.mpr rfl⟩
end
def TupK (H H' : Hp) : Prop := (∀ b xs, H b = some (.tup xs) → H' b = some (.tup xs)) ∧ ∀ b o xs, H b = some (.frz o (.tup xs)) → H' b = some (.frz o (.tup xs))
theorem Same.tupK {H H' : Hp} (h : Same H H') : TupK H H' := ⟨fun b xs e => h b _ e, fun b o xs e => h b _ e⟩
theorem TupK.trans {H H1 H2 : Hp} (a : TupK H H1) (b : TupK H1 H2) : TupK H H2 := ⟨fun c xs e => b.1 c xs (a.1 c xs e), fun c o xs e => b.2 c o xs (a.2 c o xs e)⟩
theorem TupK.sqT {K : PySem.W.Frag} {H H' : Hp} {a : Addr} {xs : List V} (e : TupK H H') (h : SqT K H a xs) : SqT K H' a xs := by
  rcases h with (h | ⟨o, h⟩) | h
  · exact .inl (.inl (e.1 _ _ h))
  · exact .inl (.inr ⟨o, e.2 _ _ _ h⟩)
  · exact .inr h
theorem Same.sqT {K : PySem.W.Frag} {H H' : Hp} {a : Addr} {xs : List V} (e : Same H H') (h : SqT K H a xs) : SqT K H' a xs := e.tupK.sqT h
theorem Same.sqL {K : PySem.W.Frag} {H H' : Hp} {a : Addr} {xs : List V} (e : Same H H') (h : SqL K H a xs) : SqL K H' a xs := e.seq h
theorem Same.new {H : Hp} {p : Addr} (h : H p = none) (o : HO) : Same H (upd H p o) := fun b u q => by rw [upd_ne (ne_of_none q h)]; exact q
def But (ps : List Addr) (H H' : Hp) : Prop := ∀ b o, H b = some o → b ∉ ps → H' b = some o
theorem But.refl (ps : List Addr) (H : Hp) : But ps H H := fun _ _ e _ => e
theorem But.upd {ps : List Addr} {H : Hp} {p : Addr} (h : p ∈ ps) (o : HO) : But ps H (upd H p o) := fun b u q n => by rw [upd_ne (by rintro rfl; exact n h)]; exact q
theorem But.mono {ps qs : List Addr} {H H' : Hp} (a : But ps H H') (h : ∀ b ∈ ps, b ∈ qs) : But qs H H' := fun c o e n => a c o e fun z => n (h c z)
mutual
/-- data without lists -/
def fix : PyData → Bool
  | .none => true | .bool _ => true | .int _ => true | .str _ => true
  | .list _ => false
  | .tuple ds => fixs ds
  | .dict _ => false
def fixs : List PyData → Bool
  | [] => true
  | d :: ds => fix d && fixs ds
end
mutual
theorem Dv.tupK {K : PySem.W.Frag} {H H' : Hp} (k : TupK H H') : ∀ (d : PyData) (v : V), fix d = true → Dv K H d v → Dv K H' d v
  | .none, _, _, h => dv_none.mpr (dv_none.mp h)
  | .bool _, _, _, h => dv_bool.mpr (dv_bool.mp h)
  | .int _, _, _, h => dv_int.mpr (dv_int.mp h)
  | .str _, _, _, h => dv_str.mpr (dv_str.mp h)
  | .list _, _, f, _ => by rw [fix] at f; cases f
  | .tuple ds, v, f, h => by
    rw [fix] at f
    obtain ⟨a, vs, rfl, hq, h⟩ := dv_tuple.mp h
    exact dv_tuple.mpr ⟨a, vs, rfl, k.sqT hq, Dvs.tupK k ds vs f h⟩
  | .dict _, _, f, _ => by rw [fix] at f; cases f
theorem Dvs.tupK {K : PySem.W.Frag} {H H' : Hp} (k : TupK H H') : ∀ (ds : List PyData) (vs : List V), fixs ds = true → Dvs K H ds vs → Dvs K H' ds vs
  | [], _, _, h => by rw [Dvs] at h ⊢; exact h
  | d :: ds, vs, f, h => by
    rw [fixs, Bool.and_eq_true] at f
    rw [Dvs] at h ⊢
    obtain ⟨v, r, e, h1, h2⟩ := h
    exact ⟨v, r, e, Dv.tupK k d v f.1 h1, Dvs.tupK k ds r f.2 h2⟩
end
mutual
theorem Dv.same {K : PySem.W.Frag} {H H' : Hp} (k : Same H H') : ∀ (d : PyData) (v : V), Dv K H d v → Dv K H' d v
  | .none, _, h => dv_none.mpr (dv_none.mp h)
  | .bool _, _, h => dv_bool.mpr (dv_bool.mp h)
  | .int _, _, h => dv_int.mpr (dv_int.mp h)
  | .str _, _, h => dv_str.mpr (dv_str.mp h)
  | .list ds, v, h => by
    obtain ⟨a, vs, rfl, hq, h⟩ := dv_list.mp h
    exact dv_list.mpr ⟨a, vs, rfl, k.sqL hq, Dvs.same k ds vs h⟩
  | .tuple ds, v, h => by
    obtain ⟨a, vs, rfl, hq, h⟩ := dv_tuple.mp h
    exact dv_tuple.mpr ⟨a, vs, rfl, k.sqT hq, Dvs.same k ds vs h⟩
  | .dict _, _, h => by rw [Dv] at h; exact h.elim
theorem Dvs.same {K : PySem.W.Frag} {H H' : Hp} (k : Same H H') : ∀ (ds : List PyData) (vs : List V), Dvs K H ds vs → Dvs K H' ds vs
  | [], _, h => by rw [Dvs] at h ⊢; exact h
  | d :: ds, vs, h => by
    rw [Dvs] at h ⊢
    obtain ⟨v, r, e, h1, h2⟩ := h
    exact ⟨v, r, e, Dv.same k d v h1, Dvs.same k ds r h2⟩
end
mutual
theorem Dv.reads {X : Cx} {pins : List (Addr × Obj)} {σ : St} {H : Hp} {s : Shared} (I : Inv X pins σ H s) : ∀ (d : PyData) (v : V) (u : Value), Dv X.K H d v → RelV v u → ∃ as, Reads s.heap u d as
  | .none, _, _, h, r => by rw [dv_none.mp h] at r; cases r; exact ⟨_, .none⟩
  | .bool b, _, _, h, r => by rw [dv_bool.mp h] at r; cases r; exact ⟨_, .bool b⟩
  | .int i, _, _, h, r => by rw [dv_int.mp h] at r; obtain ⟨t, rfl⟩ := r; exact ⟨_, .int i t⟩
  | .str x, _, _, h, r => by rw [dv_str.mp h] at r; obtain ⟨t, rfl⟩ := r; exact ⟨_, .str x t⟩
  | .list ds, _, _, h, r => by
    obtain ⟨a, vs, rfl, hq, h⟩ := dv_list.mp h
    cases r
    obtain ⟨its, rv, pl, _⟩ := I.list hq
    obtain ⟨o, e, c, n, d⟩ := pl.isList
    obtain ⟨as, ra⟩ := Dvs.reads I ds vs its h rv
    exact ⟨_, .list e c d (by simpa using ra)⟩
  | .tuple ds, _, _, h, r => by
    obtain ⟨a, vs, rfl, hq, h⟩ := dv_tuple.mp h
    cases r
    obtain ⟨its, rv, pl, _⟩ := I.tuple hq
    obtain ⟨o, e, c, n, d⟩ := pl
    obtain ⟨as, ra⟩ := Dvs.reads I ds vs its h rv
    exact ⟨_, .tuple e c d (by simpa using ra)⟩
  | .dict _, _, _, h, _ => by rw [Dv] at h; exact h.elim
theorem Dvs.reads {X : Cx} {pins : List (Addr × Obj)} {σ : St} {H : Hp} {s : Shared} (I : Inv X pins σ H s) : ∀ (ds : List PyData) (vs : List V) (us : List Value), Dvs X.K H ds vs → Vals vs us → ∃ as, ReadsAll s.heap us ds as
  | [], _, _, h, r => by rw [Dvs] at h; subst h; cases r; exact ⟨_, .nil⟩
  | d :: ds, _, _, h, r => by
    rw [Dvs] at h
    obtain ⟨v, r', rfl, h1, h2⟩ := h
    cases r with
    | cons r1 r2 =>
      obtain ⟨as, a1⟩ := Dv.reads I d v _ h1 r1
      obtain ⟨bs, a2⟩ := Dvs.reads I ds r' _ h2 r2
      exact ⟨_, .cons a1 a2⟩
end
end L2
namespace L2
open PySem PySem.Spec PyProof.Rows PySem.SeqAt
mutual
def nd : PyData → Bool
  | .none => true | .bool _ => true | .int _ => true | .str _ => true
  | .list ds => nds ds
  | .tuple ds => nds ds
  | .dict _ => false
def nds : List PyData → Bool
  | [] => true
  | d :: ds => nd d && nds ds
end
mutual
theorem Dv.nd {K : PySem.W.Frag} {H : Hp} : ∀ (d : PyData) (v : V), Dv K H d v → nd d = true
  | .none, _, _ => by rw [L2.nd]
  | .bool _, _, _ => by rw [L2.nd]
  | .int _, _, _ => by rw [L2.nd]
  | .str _, _, _ => by rw [L2.nd]
  | .list ds, _, h => by
    obtain ⟨a, vs, _, _, h⟩ := dv_list.mp h
    rw [L2.nd]; exact Dvs.nd ds vs h
  | .tuple ds, _, h => by
    obtain ⟨a, vs, _, _, h⟩ := dv_tuple.mp h
    rw [L2.nd]; exact Dvs.nd ds vs h
  | .dict _, _, h => by rw [Dv] at h; exact h.elim
theorem Dvs.nd {K : PySem.W.Frag} {H : Hp} : ∀ (ds : List PyData) (vs : List V), Dvs K H ds vs → nds ds = true
  | [], _, _ => by rw [nds]
  | d :: ds, vs, h => by
    rw [Dvs] at h
    obtain ⟨v, r, _, h1, h2⟩ := h
    rw [nds, Dv.nd d v h1, Dvs.nd ds r h2]; rfl
end
mutual
theorem one_read {h : Heap} : ∀ (d d' : PyData) (v : Value) (as as' : List Addr), nd d = true → Reads h v d as → Reads h v d' as' → d = d'
  | .none, _, _, _, _, _, r, q => by cases r; cases q; rfl
  | .bool _, _, _, _, _, _, r, q => by cases r; cases q; rfl
  | .int _, _, _, _, _, _, r, q => by cases r; cases q; rfl
  | .str _, _, _, _, _, _, r, q => by cases r; cases q; rfl
  | .dict _, _, _, _, _, n, _, _ => by rw [L2.nd] at n; cases n
  | .list xs, d', _, _, _, n, r, q => by
    rw [L2.nd] at n
    cases r with
    | list a1 a2 a3 a4 =>
      cases q with
      | list b1 b2 b3 b4 => rw [a1] at b1; cases b1; rw [a3] at b3; cases b3; rw [one_reads xs _ _ _ _ n a4 b4]
      | tuple b1 b2 b3 b4 => rw [a1] at b1; cases b1; rw [a2] at b2; exact absurd b2 (by simp)
      | dict b1 b2 => rw [a1] at b1; cases b1; rw [a2] at b2; exact absurd b2 (by simp)
  | .tuple xs, d', _, _, _, n, r, q => by
    rw [L2.nd] at n
    cases r with
    | tuple a1 a2 a3 a4 =>
      cases q with
      | tuple b1 b2 b3 b4 => rw [a1] at b1; cases b1; rw [a3] at b3; cases b3; rw [one_reads xs _ _ _ _ n a4 b4]
      | list b1 b2 b3 b4 => rw [a1] at b1; cases b1; rw [a2] at b2; exact absurd b2 (by simp)
      | dict b1 b2 => rw [a1] at b1; cases b1; rw [a2] at b2; exact absurd b2 (by simp)
theorem one_reads {h : Heap} : ∀ (xs ys : List PyData) (vs : List Value) (as as' : List Addr), nds xs = true → ReadsAll h vs xs as → ReadsAll h vs ys as' → xs = ys
  | [], _, _, _, _, _, r, q => by cases r; cases q; rfl
  | x :: xs, _, _, _, _, n, r, q => by
    rw [nds, Bool.and_eq_true] at n
    cases r with
    | cons r1 r2 =>
      cases q with
      | cons q1 q2 => rw [one_read x _ _ _ _ n.1 r1 q1, one_reads xs _ _ _ _ n.2 r2 q2]
end
mutual
theorem eqv_self : ∀ d : PyData, nd d = true → PyData.eqv d d = true
  | .none, _ => rfl
  | .bool b, _ => by simp [PyData.eqv]
  | .int i, _ => by simp [PyData.eqv]
  | .str x, _ => by simp [PyData.eqv]
  | .list xs, h => by rw [PyData.eqv]; rw [L2.nd] at h; exact eqvs_self xs h
  | .tuple xs, h => by rw [PyData.eqv]; rw [L2.nd] at h; exact eqvs_self xs h
  | .dict _, h => by rw [L2.nd] at h; cases h
theorem eqvs_self : ∀ xs : List PyData, nds xs = true → PyData.eqvAll xs xs = true
  | [], _ => rfl
  | x :: xs, h => by
    rw [nds, Bool.and_eq_true] at h
    rw [PyData.eqvAll, eqv_self x h.1, eqvs_self xs h.2]; rfl
end
theorem readsAll_len {h : Heap} : ∀ {xs : List PyData} {vs : List Value} {as : List Addr}, ReadsAll h vs xs as → vs.length = xs.length
  | [], _, _, r => by cases r; rfl
  | _ :: xs, _, _, r => by
    cases r with
    | cons _ r' => rw [List.length_cons, List.length_cons, readsAll_len r']
mutual
theorem eqAt_own : ∀ (da db : PyData) (A : Around) (s : Shared) (a b : Value) (as bs : List Addr), Reads s.heap a da as → Reads s.heap b db bs → nd da = true → nd db = true → A.units + min da.depth db.depth < cLine → EqAt A s a b (PyData.eqv da db)
  | .none, db, A, s, _, _, _, _, ra, rb, _, hb, hu => by
    cases ra
    cases rb with
    | none => exact EqAt.same _
    | bool y => exact EqAt.none_bool y
    | int y u => exact EqAt.none_int y u
    | str y u => exact EqAt.none_str y u
    | list k1 k2 k3 k4 => exact EqAt.none_list ⟨_, k1, k2, _, k3⟩ (room_here hu)
    | tuple k1 k2 k3 k4 => exact EqAt.none_tuple ⟨_, k1, k2, _, k3⟩ (room_here hu)
    | dict => rw [L2.nd] at hb; cases hb
  | .bool x, db, A, s, _, _, _, _, ra, rb, _, hb, hu => by
    cases ra
    cases rb with
    | none => exact EqAt.bool_none x
    | bool y => exact EqAt.bool_bool x y
    | int y u => exact EqAt.bool_int x y u
    | str y u => exact EqAt.bool_str x y u
    | list k1 k2 k3 k4 => exact EqAt.bool_list x ⟨_, k1, k2, _, k3⟩ (room_here hu)
    | tuple k1 k2 k3 k4 => exact EqAt.bool_tuple x ⟨_, k1, k2, _, k3⟩ (room_here hu)
    | dict => rw [L2.nd] at hb; cases hb
  | .int x, db, A, s, _, _, _, _, ra, rb, _, hb, hu => by
    cases ra
    cases rb with
    | none => exact EqAt.int_none x _
    | bool y => exact EqAt.int_bool x _ y
    | int y u => exact EqAt.int_int x _ y u
    | str y u => exact EqAt.int_str x _ y u
    | list k1 k2 k3 k4 => exact EqAt.int_list x _ ⟨_, k1, k2, _, k3⟩ (room_here hu)
    | tuple k1 k2 k3 k4 => exact EqAt.int_tuple x _ ⟨_, k1, k2, _, k3⟩ (room_here hu)
    | dict => rw [L2.nd] at hb; cases hb
  | .str x, db, A, s, _, _, _, _, ra, rb, _, hb, hu => by
    cases ra
    cases rb with
    | none => exact EqAt.str_none x _
    | bool y => exact EqAt.str_bool x _ y
    | int y u => exact EqAt.str_int x _ y u
    | str y u => exact EqAt.str_str x _ y u
    | list k1 k2 k3 k4 => exact EqAt.str_list x _ ⟨_, k1, k2, _, k3⟩ (room_here hu)
    | tuple k1 k2 k3 k4 => exact EqAt.str_tuple x _ ⟨_, k1, k2, _, k3⟩ (room_here hu)
    | dict => rw [L2.nd] at hb; cases hb
  | .list xs, db, A, s, _, _, _, _, ra, rb, ha, hb, hu => by
    have ra0 := ra
    have rb0 := rb
    cases ra with
    | @list l o1 vs1 n1 xs as h1 h2 h3 h4 =>
      cases rb with
      | none => exact EqAt.list_none ⟨_, h1, h2, _, h3⟩ (room_here hu)
      | bool y => exact EqAt.list_bool y ⟨_, h1, h2, _, h3⟩ (room_here hu)
      | int y u => exact EqAt.list_int y u ⟨_, h1, h2, _, h3⟩ (room_here hu)
      | str y u => exact EqAt.list_str y u ⟨_, h1, h2, _, h3⟩ (room_here hu)
      | tuple k1 k2 k3 k4 => exact EqAt.list_tuple ⟨_, h1, h2, _, h3⟩ ⟨_, k1, k2, _, k3⟩ (room_here hu)
      | @list b o vs2 n2 ys bs k1 k2 k3 k4 =>
        by_cases e : l = b
        · subst e
          rw [one_read _ _ _ _ _ ha ra0 rb0, eqv_self _ hb]
          exact EqAt.same _
        · refine EqAt.of_refs e ?_
          have l1 := readsAll_len h4
          have l2 := readsAll_len k4
          rw [L2.nd] at ha hb
          by_cases hz : xs.length = ys.length
          · have := RcAt.lists (A := A) (s := s) (e := pairEq xs ys) ⟨_, h1, h2, _, h3⟩ ⟨_, k1, k2, _, k3⟩ (by simp at l1 l2; omega) (room_here hu) (fun j h1 h2 => by have q := eqAt_items xs ys A.in1 s _ _ _ _ h4 k4 ha hb (room_in (by rw [PyData.depth, PyData.depth] at hu; exact hu)) j (by simpa using h1) (by simpa using h2); rw [Array.getElem_toList, Array.getElem_toList] at q; exact q)
            rw [show PyData.eqv (.list xs) (.list ys) = PyData.eqvAll xs ys by rw [PyData.eqv], ← eqvAll_same_length hz]
            have e1 : vs1.size = xs.length := by simpa using l1
            rw [e1] at this
            exact this
          · rw [show PyData.eqv (.list xs) (.list ys) = PyData.eqvAll xs ys by rw [PyData.eqv], eqvAll_other_length hz]
            exact RcAt.lists_lengths ⟨_, h1, h2, _, h3⟩ ⟨_, k1, k2, _, k3⟩ (by simp at l1 l2; simp; omega) (room_here hu)
      | dict => rw [L2.nd] at hb; cases hb
  | .tuple xs, db, A, s, _, _, _, _, ra, rb, ha, hb, hu => by
    have ra0 := ra
    have rb0 := rb
    cases ra with
    | @tuple l o1 vs1 n1 xs as h1 h2 h3 h4 =>
      cases rb with
      | none => exact EqAt.tuple_none ⟨_, h1, h2, _, h3⟩ (room_here hu)
      | bool y => exact EqAt.tuple_bool y ⟨_, h1, h2, _, h3⟩ (room_here hu)
      | int y u => exact EqAt.tuple_int y u ⟨_, h1, h2, _, h3⟩ (room_here hu)
      | str y u => exact EqAt.tuple_str y u ⟨_, h1, h2, _, h3⟩ (room_here hu)
      | list k1 k2 k3 k4 => exact EqAt.tuple_list ⟨_, h1, h2, _, h3⟩ ⟨_, k1, k2, _, k3⟩ (room_here hu)
      | @tuple b o vs2 n2 ys bs k1 k2 k3 k4 =>
        by_cases e : l = b
        · subst e
          rw [one_read _ _ _ _ _ ha ra0 rb0, eqv_self _ hb]
          exact EqAt.same _
        · refine EqAt.of_refs e ?_
          have l1 := readsAll_len h4
          have l2 := readsAll_len k4
          rw [L2.nd] at ha hb
          have := RcAt.tuples (A := A) (s := s) (e := pairEq xs ys) ⟨_, h1, h2, _, h3⟩ ⟨_, k1, k2, _, k3⟩ (room_here hu) (fun j h1 h2 => by have q := eqAt_items xs ys A.in1 s _ _ _ _ h4 k4 ha hb (room_in (by rw [PyData.depth, PyData.depth] at hu; exact hu)) j (by simpa using h1) (by simpa using h2); rw [Array.getElem_toList, Array.getElem_toList] at q; exact q)
          rw [show PyData.eqv (.tuple xs) (.tuple ys) = PyData.eqvAll xs ys by rw [PyData.eqv], ← eqvAll_eq xs ys]
          have e1 : vs1.size = xs.length := by simpa using l1
          have e2 : vs2.size = ys.length := by simpa using l2
          rw [e1, e2] at this
          exact this
      | dict => rw [L2.nd] at hb; cases hb
  | .dict _, _, _, _, _, _, _, _, _, _, ha, _, _ => by rw [L2.nd] at ha; cases ha
theorem eqAt_items : ∀ (xs ys : List PyData) (A : Around) (s : Shared) (us ws : List Value) (as bs : List Addr), ReadsAll s.heap us xs as → ReadsAll s.heap ws ys bs → nds xs = true → nds ys = true → A.units + min (PyData.depthAll xs) (PyData.depthAll ys) < cLine →
    ∀ j (h1 : j < us.length) (h2 : j < ws.length), EqAt A s us[j] ws[j] (pairEq xs ys j)
  | [], _, _, _, _, _, _, _, r, _, _, _, _ => by cases r; intro j h1; simp at h1
  | x :: xs, ys, A, s, _, ws, _, _, r, q, ha, hb, hu => by
    cases r with
    | @cons u us d ds as1 as2 r1 r2 =>
      cases q with
      | nil => intro j h1 h2; simp at h2
      | @cons w ws y ys bs1 bs2 q1 q2 =>
        rw [nds, Bool.and_eq_true] at ha hb
        rw [PyData.depthAll, PyData.depthAll] at hu
        intro j h1 h2
        cases j with
        | zero => exact eqAt_own x y A s u w _ _ r1 q1 ha.1 hb.1 (room_head hu)
        | succ j =>
          exact eqAt_items xs ys A s us ws _ _ r2 q2 ha.2 hb.2 (room_tail hu) j (by simpa using h1) (by simpa using h2)
end
theorem rc_own {da db : PyData} {A : Around} {s : Shared} {a b : Value} {as bs : List Addr} (ra : Reads s.heap a da as) (rb : Reads s.heap b db bs) (ha : nd da = true) (hb : nd db = true) (hu : A.units + min da.depth db.depth < cLine) : RcAt A s a b (PyData.eqv da db) := by
  cases ra with
  | none =>
    cases rb with
    | none => exact RcAt.none_none
    | bool y => exact RcAt.none_bool y
    | int y u => exact RcAt.none_int y u
    | str y u => exact RcAt.none_str y u
    | @list l2 o2 ws n2 ys bs k1 k2 k3 k4 => exact RcAt.none_list ⟨_, k1, k2, _, k3⟩ (room_here hu)
    | @tuple l2 o2 ws n2 ys bs k1 k2 k3 k4 => exact RcAt.none_tuple ⟨_, k1, k2, _, k3⟩ (room_here hu)
    | dict => rw [L2.nd] at hb; cases hb
  | bool x =>
    cases rb with
    | none => exact RcAt.bool_none x
    | bool y => exact RcAt.bool_bool x y
    | int y u => exact RcAt.bool_int x y u
    | str y u => exact RcAt.bool_str x y u
    | @list l2 o2 ws n2 ys bs k1 k2 k3 k4 => exact RcAt.bool_list x ⟨_, k1, k2, _, k3⟩ (room_here hu)
    | @tuple l2 o2 ws n2 ys bs k1 k2 k3 k4 => exact RcAt.bool_tuple x ⟨_, k1, k2, _, k3⟩ (room_here hu)
    | dict => rw [L2.nd] at hb; cases hb
  | int x t =>
    cases rb with
    | none => exact RcAt.int_none x t
    | bool y => exact RcAt.int_bool x t y
    | int y u => exact RcAt.int_int x t y u
    | str y u => exact RcAt.int_str x t y u
    | @list l2 o2 ws n2 ys bs k1 k2 k3 k4 => exact RcAt.int_list x t ⟨_, k1, k2, _, k3⟩ (room_here hu)
    | @tuple l2 o2 ws n2 ys bs k1 k2 k3 k4 => exact RcAt.int_tuple x t ⟨_, k1, k2, _, k3⟩ (room_here hu)
    | dict => rw [L2.nd] at hb; cases hb
  | str x t =>
    cases rb with
    | none => exact RcAt.str_none x t
    | bool y => exact RcAt.str_bool x t y
    | int y u => exact RcAt.str_int x t y u
    | str y u => exact RcAt.str_str x t y u
    | @list l2 o2 ws n2 ys bs k1 k2 k3 k4 => exact RcAt.str_list x t ⟨_, k1, k2, _, k3⟩ (room_here hu)
    | @tuple l2 o2 ws n2 ys bs k1 k2 k3 k4 => exact RcAt.str_tuple x t ⟨_, k1, k2, _, k3⟩ (room_here hu)
    | dict => rw [L2.nd] at hb; cases hb
  | @list l o vs n xs as h1 h2 h3 h4 =>
    cases rb with
    | none => exact RcAt.list_none ⟨_, h1, h2, _, h3⟩ (room_here hu)
    | bool y => exact RcAt.list_bool y ⟨_, h1, h2, _, h3⟩ (room_here hu)
    | int y u => exact RcAt.list_int y u ⟨_, h1, h2, _, h3⟩ (room_here hu)
    | str y u => exact RcAt.list_str y u ⟨_, h1, h2, _, h3⟩ (room_here hu)
    | @list l2 o2 ws n2 ys bs k1 k2 k3 k4 =>
      have l1 : vs.size = xs.length := by simpa using readsAll_len h4
      have l2 : ws.size = ys.length := by simpa using readsAll_len k4
      rw [L2.nd] at ha hb
      rw [PyData.depth, PyData.depth] at hu
      have hi : ∀ j (h1 : j < vs.size) (h2 : j < ws.size), EqAt A.in1 s vs[j] ws[j] (pairEq xs ys j) := fun j h1 h2 => by
        have q := eqAt_items xs ys A.in1 s _ _ _ _ h4 k4 ha hb (room_in hu) j (by simpa using h1) (by simpa using h2)
        rw [Array.getElem_toList, Array.getElem_toList] at q
        exact q
      have hu' : A.units < cLine := room_here hu
      rw [show PyData.eqv (.list xs) (.list ys) = PyData.eqvAll xs ys by rw [PyData.eqv]]
      by_cases hz : xs.length = ys.length
      · have q := RcAt.lists (A := A) (s := s) (e := pairEq xs ys) ⟨_, h1, h2, _, h3⟩ ⟨_, k1, k2, _, k3⟩ (by omega) hu' hi
        rw [l1, eqvAll_same_length hz] at q
        exact q
      · rw [eqvAll_other_length hz]
        exact RcAt.lists_lengths ⟨_, h1, h2, _, h3⟩ ⟨_, k1, k2, _, k3⟩ (by simp; omega) hu'
    | @tuple l2 o2 ws n2 ys bs k1 k2 k3 k4 => exact RcAt.list_tuple ⟨_, h1, h2, _, h3⟩ ⟨_, k1, k2, _, k3⟩ (room_here hu)
    | dict => rw [L2.nd] at hb; cases hb
  | @tuple l o vs n xs as h1 h2 h3 h4 =>
    cases rb with
    | none => exact RcAt.tuple_none ⟨_, h1, h2, _, h3⟩ (room_here hu)
    | bool y => exact RcAt.tuple_bool y ⟨_, h1, h2, _, h3⟩ (room_here hu)
    | int y u => exact RcAt.tuple_int y u ⟨_, h1, h2, _, h3⟩ (room_here hu)
    | str y u => exact RcAt.tuple_str y u ⟨_, h1, h2, _, h3⟩ (room_here hu)
    | @list l2 o2 ws n2 ys bs k1 k2 k3 k4 => exact RcAt.tuple_list ⟨_, h1, h2, _, h3⟩ ⟨_, k1, k2, _, k3⟩ (room_here hu)
    | @tuple l2 o2 ws n2 ys bs k1 k2 k3 k4 =>
      have l1 : vs.size = xs.length := by simpa using readsAll_len h4
      have l2 : ws.size = ys.length := by simpa using readsAll_len k4
      rw [L2.nd] at ha hb
      rw [PyData.depth, PyData.depth] at hu
      have hi : ∀ j (h1 : j < vs.size) (h2 : j < ws.size), EqAt A.in1 s vs[j] ws[j] (pairEq xs ys j) := fun j h1 h2 => by
        have q := eqAt_items xs ys A.in1 s _ _ _ _ h4 k4 ha hb (room_in hu) j (by simpa using h1) (by simpa using h2)
        rw [Array.getElem_toList, Array.getElem_toList] at q
        exact q
      have hu' : A.units < cLine := room_here hu
      rw [show PyData.eqv (.tuple xs) (.tuple ys) = PyData.eqvAll xs ys by rw [PyData.eqv]]
      have q := RcAt.tuples (A := A) (s := s) (e := pairEq xs ys) ⟨_, h1, h2, _, h3⟩ ⟨_, k1, k2, _, k3⟩ hu' hi
      rw [l1, l2, eqvAll_eq xs ys] at q
      exact q
    | dict => rw [L2.nd] at hb; cases hb
  | dict => rw [L2.nd] at ha; cases ha
theorem rcNe_own {da db : PyData} {A : Around} {s : Shared} {a b : Value} {as bs : List Addr} (ra : Reads s.heap a da as) (rb : Reads s.heap b db bs) (ha : nd da = true) (hb : nd db = true) (hu : A.units + min da.depth db.depth < cLine) : RcNeAt A s a b (!PyData.eqv da db) := by
  cases ra with
  | none =>
    cases rb with
    | none => exact RcNeAt.none_none
    | bool y => exact RcNeAt.none_bool y
    | int y u => exact RcNeAt.none_int y u
    | str y u => exact RcNeAt.none_str y u
    | @list l2 o2 ws n2 ys bs k1 k2 k3 k4 => exact RcNeAt.none_list ⟨_, k1, k2, _, k3⟩ (room_here hu)
    | @tuple l2 o2 ws n2 ys bs k1 k2 k3 k4 => exact RcNeAt.none_tuple ⟨_, k1, k2, _, k3⟩ (room_here hu)
    | dict => rw [L2.nd] at hb; cases hb
  | bool x =>
    cases rb with
    | none => exact RcNeAt.bool_none x
    | bool y => exact RcNeAt.bool_bool x y
    | int y u => exact RcNeAt.bool_int x y u
    | str y u => exact RcNeAt.bool_str x y u
    | @list l2 o2 ws n2 ys bs k1 k2 k3 k4 => exact RcNeAt.bool_list x ⟨_, k1, k2, _, k3⟩ (room_here hu)
    | @tuple l2 o2 ws n2 ys bs k1 k2 k3 k4 => exact RcNeAt.bool_tuple x ⟨_, k1, k2, _, k3⟩ (room_here hu)
    | dict => rw [L2.nd] at hb; cases hb
  | int x t =>
    cases rb with
    | none => exact RcNeAt.int_none x t
    | bool y => exact RcNeAt.int_bool x t y
    | int y u => exact RcNeAt.int_int x t y u
    | str y u => exact RcNeAt.int_str x t y u
    | @list l2 o2 ws n2 ys bs k1 k2 k3 k4 => exact RcNeAt.int_list x t ⟨_, k1, k2, _, k3⟩ (room_here hu)
    | @tuple l2 o2 ws n2 ys bs k1 k2 k3 k4 => exact RcNeAt.int_tuple x t ⟨_, k1, k2, _, k3⟩ (room_here hu)
    | dict => rw [L2.nd] at hb; cases hb
  | str x t =>
    cases rb with
    | none => exact RcNeAt.str_none x t
    | bool y => exact RcNeAt.str_bool x t y
    | int y u => exact RcNeAt.str_int x t y u
    | str y u => exact RcNeAt.str_str x t y u
    | @list l2 o2 ws n2 ys bs k1 k2 k3 k4 => exact RcNeAt.str_list x t ⟨_, k1, k2, _, k3⟩ (room_here hu)
    | @tuple l2 o2 ws n2 ys bs k1 k2 k3 k4 => exact RcNeAt.str_tuple x t ⟨_, k1, k2, _, k3⟩ (room_here hu)
    | dict => rw [L2.nd] at hb; cases hb
  | @list l o vs n xs as h1 h2 h3 h4 =>
    cases rb with
    | none => exact RcNeAt.list_none ⟨_, h1, h2, _, h3⟩ (room_here hu)
    | bool y => exact RcNeAt.list_bool y ⟨_, h1, h2, _, h3⟩ (room_here hu)
    | int y u => exact RcNeAt.list_int y u ⟨_, h1, h2, _, h3⟩ (room_here hu)
    | str y u => exact RcNeAt.list_str y u ⟨_, h1, h2, _, h3⟩ (room_here hu)
    | @list l2 o2 ws n2 ys bs k1 k2 k3 k4 =>
      have l1 : vs.size = xs.length := by simpa using readsAll_len h4
      have l2 : ws.size = ys.length := by simpa using readsAll_len k4
      rw [L2.nd] at ha hb
      rw [PyData.depth, PyData.depth] at hu
      have hi : ∀ j (h1 : j < vs.size) (h2 : j < ws.size), EqAt A.in1 s vs[j] ws[j] (pairEq xs ys j) := fun j h1 h2 => by
        have q := eqAt_items xs ys A.in1 s _ _ _ _ h4 k4 ha hb (room_in hu) j (by simpa using h1) (by simpa using h2)
        rw [Array.getElem_toList, Array.getElem_toList] at q
        exact q
      have hu' : A.units < cLine := room_here hu
      rw [show PyData.eqv (.list xs) (.list ys) = PyData.eqvAll xs ys by rw [PyData.eqv]]
      by_cases hz : xs.length = ys.length
      · have q := RcNeAt.lists (A := A) (s := s) (e := pairEq xs ys) ⟨_, h1, h2, _, h3⟩ ⟨_, k1, k2, _, k3⟩ (by omega) hu' hi
        rw [l1, eqvAll_same_length hz] at q
        exact q
      · rw [eqvAll_other_length hz]
        exact RcNeAt.lists_lengths ⟨_, h1, h2, _, h3⟩ ⟨_, k1, k2, _, k3⟩ (by simp; omega) hu'
    | @tuple l2 o2 ws n2 ys bs k1 k2 k3 k4 => exact RcNeAt.list_tuple ⟨_, h1, h2, _, h3⟩ ⟨_, k1, k2, _, k3⟩ (room_here hu)
    | dict => rw [L2.nd] at hb; cases hb
  | @tuple l o vs n xs as h1 h2 h3 h4 =>
    cases rb with
    | none => exact RcNeAt.tuple_none ⟨_, h1, h2, _, h3⟩ (room_here hu)
    | bool y => exact RcNeAt.tuple_bool y ⟨_, h1, h2, _, h3⟩ (room_here hu)
    | int y u => exact RcNeAt.tuple_int y u ⟨_, h1, h2, _, h3⟩ (room_here hu)
    | str y u => exact RcNeAt.tuple_str y u ⟨_, h1, h2, _, h3⟩ (room_here hu)
    | @list l2 o2 ws n2 ys bs k1 k2 k3 k4 => exact RcNeAt.tuple_list ⟨_, h1, h2, _, h3⟩ ⟨_, k1, k2, _, k3⟩ (room_here hu)
    | @tuple l2 o2 ws n2 ys bs k1 k2 k3 k4 =>
      have l1 : vs.size = xs.length := by simpa using readsAll_len h4
      have l2 : ws.size = ys.length := by simpa using readsAll_len k4
      rw [L2.nd] at ha hb
      rw [PyData.depth, PyData.depth] at hu
      have hi : ∀ j (h1 : j < vs.size) (h2 : j < ws.size), EqAt A.in1 s vs[j] ws[j] (pairEq xs ys j) := fun j h1 h2 => by
        have q := eqAt_items xs ys A.in1 s _ _ _ _ h4 k4 ha hb (room_in hu) j (by simpa using h1) (by simpa using h2)
        rw [Array.getElem_toList, Array.getElem_toList] at q
        exact q
      have hu' : A.units < cLine := room_here hu
      rw [show PyData.eqv (.tuple xs) (.tuple ys) = PyData.eqvAll xs ys by rw [PyData.eqv]]
      have q := RcNeAt.tuples (A := A) (s := s) (e := pairEq xs ys) ⟨_, h1, h2, _, h3⟩ ⟨_, k1, k2, _, k3⟩ hu' hi
      rw [l1, l2, eqvAll_eq xs ys] at q
      exact q
    | dict => rw [L2.nd] at hb; cases hb
  | dict => rw [L2.nd] at ha; cases ha
end L2
namespace L2
open PySem PySem.Spec PyProof.Rows PySem.SeqAt
section
variable {X : Cx}
theorem u190 {k : Nat} {A : Around} (r : Room k A) : A.units + 190 < cLine := by have := r.un; omega
def rEqA (K : PySem.W.Frag) : R2 := fun x y H Q => rEq x y H Q ∨ ∃ d e, Dv K H d x ∧ Dv K H e y ∧ min d.depth e.depth ≤ 190 ∧ Q (.bl (PyData.eqv d e)) H
def rNeA (K : PySem.W.Frag) : R2 := fun x y H Q => rNe x y H Q ∨ ∃ d e, Dv K H d x ∧ Dv K H e y ∧ min d.depth e.depth ≤ 190 ∧ Q (.bl (!PyData.eqv d e)) H
theorem op_eqA (hu : X.A.units + 190 < cLine) : OpR X (compareOp .Eq) (rEqA X.K) := by
  refine op_eq.or ?_
  intro pins s σ H x y v u Q I rx ry h
  obtain ⟨d, e, hx, hy, hz, q⟩ := h
  obtain ⟨as, ra⟩ := Dv.reads I d x v hx rx
  obtain ⟨bs, rb⟩ := Dv.reads I e y u hy ry
  have hroom : X.A.units + min d.depth e.depth < cLine := Nat.lt_of_le_of_lt (Nat.add_le_add_left hz _) hu
  exact rc_own ra rb (Dv.nd d x hx) (Dv.nd e y hy) hroom X.prog X.w X.xe _ ⟨.bl _, H, I, rfl, q⟩
theorem op_neA (hu : X.A.units + 190 < cLine) : OpR X (compareOp .NotEq) (rNeA X.K) := by
  refine op_ne.or ?_
  intro pins s σ H x y v u Q I rx ry h
  obtain ⟨d, e, hx, hy, hz, q⟩ := h
  obtain ⟨as, ra⟩ := Dv.reads I d x v hx rx
  obtain ⟨bs, rb⟩ := Dv.reads I e y u hy ry
  have hroom : X.A.units + min d.depth e.depth < cLine := Nat.lt_of_le_of_lt (Nat.add_le_add_left hz _) hu
  exact rcNe_own ra rb (Dv.nd d x hx) (Dv.nd e y hy) hroom X.prog X.w X.xe _ ⟨.bl _, H, I, rfl, q⟩
def rAddA (K : PySem.W.Frag) : R2 := fun x y H Q => rI0 (fun i j => .int (i + j)) x y H Q ∨ (∃ i j, x = .str i ∧ y = .str j ∧ i.length + j.length ≤ sizeLine ∧ Q (.str (i ++ j)) H) ∨ rCat x y H Q ∨ rCatT K x y H Q
theorem op_addA : OpR X (binaryOp .Add) (rAddA X.K) := op_add.or (op_add_str.or (op_cat.or op_catT))
def rMulS : R2 := fun x y H Q => ∃ z n, x = .str z ∧ y = .int n ∧ 0 ≤ n ∧ n ≤ 1000 ∧ z.length ≤ 1000 ∧ Q (.str (PySem.Txt.mul z n)) H
theorem op_mul_str : OpR X (binaryOp .Mult) rMulS := by
  intro pins s σ H x y v u Q I rx ry h
  obtain ⟨z, n, rfl, rfl, h0, h1, h2, q⟩ := h
  obtain ⟨t, rfl⟩ := rx
  obtain ⟨t', rfl⟩ := ry
  refine wpAny_with_toks (n := 1) I.tk (SB.mul ⟨?_, fun hn _ => ?_, fun hn _ => ?_⟩ fun t' k ht => ⟨.str _, H, I.tok _ ht, ⟨_, rfl⟩, q⟩)
  · rw [decide_eq_false (by omega), decide_eq_false (by omega)]; rfl
  · have e1 : (2 ^ 63 - 1 : Int) / n ≥ (2 ^ 63 - 1) / 1000 := by
      have hp : (0 : Int) < n := by omega
      apply Int.le_ediv_of_mul_le hp
      have : (2 ^ 63 - 1 : Int) / 1000 * n ≤ (2 ^ 63 - 1) / 1000 * 1000 := Int.mul_le_mul_of_nonneg_left h1 (by decide)
      have e : (2 ^ 63 - 1 : Int) / 1000 * 1000 ≤ 2 ^ 63 - 1 := by decide
      omega
    have e2 : (2 ^ 63 - 1 : Int) / 1000 ≥ 1000 := by decide
    omega
  · have : z.length * n.toNat ≤ 1000 * 1000 := Nat.mul_le_mul h2 (by omega)
    have hs : sizeLine = 16777216 := sizeLine_eq
    unfold Builtin.Str.tooLong
    exact decide_eq_false (by omega)
def rMulA : R2 := fun x y H Q => rI CMul (fun i j => .int (i * j)) x y H Q ∨ rMulS x y H Q ∨ rRep x y H Q
theorem op_mulA : OpR X (binaryOp .Mult) rMulA := op_mul.or (op_mul_str.or op_rep)
def rLtS : R2 := fun x y H Q => ∃ i j : Str, x = .str i ∧ y = .str j ∧ Q (.bl (decide (i.cps.toList < j.cps.toList))) H
def rLeS : R2 := fun x y H Q => ∃ i j : Str, x = .str i ∧ y = .str j ∧ Q (.bl (!decide (j.cps.toList < i.cps.toList))) H
def rGtS : R2 := fun x y H Q => ∃ i j : Str, x = .str i ∧ y = .str j ∧ Q (.bl (decide (j.cps.toList < i.cps.toList))) H
theorem op_le_str : OpR X (compareOp .LtE) rLeS := by
  intro pins s σ H x y v u Q I rx ry h
  obtain ⟨i, j, rfl, rfl, q⟩ := h
  obtain ⟨t, rfl⟩ := rx
  obtain ⟨t', rfl⟩ := ry
  exact PySem.P.le_str ⟨.bl _, H, I, rfl, q⟩
theorem op_gt_str : OpR X (compareOp .Gt) rGtS := by
  intro pins s σ H x y v u Q I rx ry h
  obtain ⟨i, j, rfl, rfl, q⟩ := h
  obtain ⟨t, rfl⟩ := rx
  obtain ⟨t', rfl⟩ := ry
  exact PySem.P.gt_str ⟨.bl _, H, I, rfl, q⟩
def rLtA : R2 := fun x y H Q => rI0 (fun i j => .bl (decide (i < j))) x y H Q ∨ rLtS x y H Q
def rLeA : R2 := fun x y H Q => rI0 (fun i j => .bl (decide (i ≤ j))) x y H Q ∨ rLeS x y H Q
def rGtA : R2 := fun x y H Q => rI0 (fun i j => .bl (decide (j < i))) x y H Q ∨ rGtS x y H Q
theorem op_ltA : OpR X (compareOp .Lt) rLtA := op_lt.or op_lt_str
theorem op_leA : OpR X (compareOp .LtE) rLeA := op_le.or op_le_str
theorem op_gtA : OpR X (compareOp .Gt) rGtA := op_gt.or op_gt_str
def rInS (neg : Bool) : R2 := fun x y H Q => ∃ i j : Str, x = .str i ∧ y = .str j ∧ Q (.bl (if neg then !(!(Builtin.Str.occurrences j i 0 j.length 1).isEmpty) else !(Builtin.Str.occurrences j i 0 j.length 1).isEmpty)) H
def rInA (K : PySem.W.Frag) (neg : Bool) : R2 := fun x y H Q => rIn K neg x y H Q ∨ rInS neg x y H Q
theorem op_inA : OpR X (compareOp .In) (rInA X.K false) := op_in_seq.or op_in_str
theorem op_notinA : OpR X (compareOp .NotIn) (rInA X.K true) := op_notIn_seq.or op_notIn_str
def rLenA (K : PySem.W.Frag) : List V → Hp → VK → Prop := fun xs H Q => (∃ p ys, xs = [.ref p] ∧ (SqL K H p ys ∨ SqT K H p ys) ∧ Q (.int ys.length) H) ∨ (∃ z, xs = [.str z] ∧ z.length ≤ sizeLine ∧ Q (.int z.length) H) ∨
  ∃ a kvs, xs = [V.ref a] ∧ H a = some (.dK kvs) ∧ Q (.int kvs.length) H
theorem call_lenA : CallR X (.builtin "len") (rLenA X.K) := call_len_seq.or (call_len_str.or call_lenD)
def rListA (K : PySem.W.Frag) : List V → Hp → VK → Prop := fun xs H Q => ∃ p ys, xs = [.ref p] ∧ (SqL K H p ys ∨ SqT K H p ys) ∧ ∀ l, H l = none → Q (.ref l) (upd H l (.lst ys))
theorem call_listA : CallR X (.type "list") (rListA X.K) := call_list_of
def rTupleA (K : PySem.W.Frag) : List V → Hp → VK → Prop := fun xs H Q => ∃ p ys, xs = [.ref p] ∧ ((SqL K H p ys ∧ ∀ l, H l = none → Q (.ref l) (upd H l (.tup ys))) ∨ (SqT K H p ys ∧ Q (.ref p) H))
theorem call_tupleA : CallR X (.type "tuple") (rTupleA X.K) := call_tuple_of
def rIntA : List V → Hp → VK → Prop := fun xs H Q => (∃ i, xs = [.int i] ∧ Q (.int i) H) ∨ ∃ k, xs = [.bl k] ∧ Q (.int (if k then 1 else 0)) H
theorem call_intA : CallR X (.type "int") rIntA := call_int1
theorem strs_are : ∀ {xs : List Str} {us : List Value}, Vals (strV xs) us → StrsAre us xs
  | [], _, h => by cases h; exact .nil
  | x :: xs, _, h => by
    have h : Vals (V.str x :: strV xs) _ := h
    cases h with
    | cons r t =>
      obtain ⟨t', rfl⟩ := r
      exact .cons x t' (strs_are t)
theorem vals_strs : ∀ {xs : List Str} {us : List Value}, StrsAre us xs → Vals (strV xs) us
  | _, _, .nil => .nil
  | _, _, .cons y t h => .cons ⟨t, rfl⟩ (vals_strs h)
def rSortedS (K : PySem.W.Frag) : List V → Hp → VK → Prop := fun xs H Q => ∃ p ys, xs = [.ref p] ∧ SqL K H p (strV ys) ∧ ys.length < 64 ∧
  ∀ l ys', ys'.Perm ys → sortedS ys' = true → H l = none → Q (.ref l) (upd H l (.lst (strV ys')))
theorem call_sortedA : CallR X (.builtin "sorted") (rSortedS X.K) := by
  intro pins s σ H xs us Q I r h
  obtain ⟨p, ys, rfl, hq, hl, q⟩ := h
  obtain ⟨u, rfl, rx⟩ := vals1 r
  cases rx
  obtain ⟨its, rv, pl, hz⟩ := I.list hq
  have hlen := rv.length
  have hn : (strV ys).length = ys.length := List.length_map _
  refine sorted_strs pl.isList (strs_are rv) (by omega) fun out ss' h1 h2 h3 => ?_
  have kp : ∀ b o, s.heap.get? b = some o → (sortedAll s.heap its out).get? b = some o := fun b o e => sortedAll_old e
  obtain ⟨e, he⟩ := sortedAll_at s.heap its out
  have hf : H (s.heap.objs.size + 1) = none := I.hok.fresh (Nat.le_succ _)
  have hz' : (strV ss').length ≤ sizeLine := by
    have := h2.length_eq
    show (ss'.map V.str).length ≤ _
    rw [List.length_map]; rw [hn] at hz; omega
  refine ⟨.ref (s.heap.objs.size + 1), _, I.laid (t' := s.toks) (o := .lst (strV ss')) kp (Nat.le_succ _) ?_, rfl, q _ _ h2 h3 hf⟩
  exact ⟨hz', out.toList, e, vals_strs h1, by simpa [seqObj] using he⟩
def rJoin (K : PySem.W.Frag) : V → List V → Hp → VK → Prop := fun x vs H Q => ∃ z p ys, x = .str z ∧ vs = [.ref p] ∧ (SqL K H p (strV ys) ∨ SqT K H p (strV ys)) ∧ (ys.map (·.length)).sum + ys.length * z.length ≤ 16777216 ∧ Q (.str (PySem.Txt.join z ys)) H
theorem mt_join : MtR X "str.join" (rJoin X.K) := by
  intro pins s σ H x vs v us Q I rx rv h
  obtain ⟨z, p, ys, rfl, rfl, hq, hs, q⟩ := h
  obtain ⟨t, rfl⟩ := rx
  obtain ⟨u, rfl, ru⟩ := rv.one
  cases ru
  rcases hq with hq | hq
  · obtain ⟨its, r, pl, hz⟩ := I.list hq
    exact wpAny_with_toks (n := 1) I.tk (join_list pl.isList (by simpa using strs_are r) hs fun t' k ht => ⟨.str _, H, I.tok _ ht, ⟨_, rfl⟩, q⟩)
  · obtain ⟨its, r, pl, hz⟩ := I.tuple hq
    exact wpAny_with_toks (n := 1) I.tk (join_tuple pl (by simpa using strs_are r) hs fun t' k ht => ⟨.str _, H, I.tok _ ht, ⟨_, rfl⟩, q⟩)
def insAt {α : Type} (xs : List α) (k : Nat) (y : α) : List α := xs.take k ++ y :: xs.drop k
def rInsert : V → List V → Hp → VK → Prop := fun x vs H Q => ∃ (l : Addr) (xs : List V) (i : Int) (y : V), x = .ref l ∧ vs = [.int i, y] ∧ H l = some (.lst xs) ∧ 0 ≤ i ∧ i ≤ xs.length ∧ xs.length < sizeLine ∧ Q .non (upd H l (.lst (insAt xs i.toNat y)))
theorem mt_insert : MtR X "list.insert" rInsert := by
  intro pins s σ H x vs v us Q I rx rv h
  obtain ⟨l, xs, i, y, rfl, rfl, hH, h0, h1, hz, q⟩ := h
  cases rx
  obtain ⟨u, w', rfl, ru, rw'⟩ := rv.two
  obtain ⟨t, rfl⟩ := ru
  obtain ⟨z, its, n, r, hl, e⟩ := I.lstM hH
  have hs : sizeLine = 16777216 := sizeLine_eq
  refine call_meets F.slot_list_insert ⟨_, e, rfl⟩ F.entry_list_insert (F.args_list_insert_3 _ _ _) (AutoListH.list_insert_list_int_val_1 l its.toArray n i t w' (by rw [fitsIndex_both (by omega) (by omega)]; exact Bool.false_ne_true) (by rw [List.size_toArray]; omega)) ⟨e, ?_⟩
  refine ⟨.non, _, I.lset (its' := insAt its i.toNat w') (t' := s.toks) hH e ?_ ?_ ?_, rfl, q⟩
  · have hi : ¬ i < 0 := by omega
    have hm : min i.toNat its.length = i.toNat := by omega
    simp only [hi, if_false, List.size_toArray, hm]
    unfold insAt
    apply Array.toList_inj.mp
    simp
    exact List.take_of_length_le (by rw [List.length_drop]; exact Nat.le_refl _)
  · exact Vals.append (r.take i.toNat) (.cons rw' (r.drop i.toNat))
  · unfold insAt
    rw [List.length_append, List.length_cons, List.length_take, List.length_drop]
    omega
end
end L2
namespace L2
open PySem PySem.Spec PyProof.Rows PySem.SeqAt
def iAny (K : PySem.W.Frag) (tl : TE) : TI := fun σ H R => tl σ H fun x H1 => ∃ a, x = .ref a ∧ (((∃ xs, SqL K H1 a xs) ∧ R (Itl K a) H1) ∨ ((∃ xs, SqT K H1 a xs) ∧ R (Itt K a) H1))
theorem pi_any {X : Cx} {tg l : Expr} {tl : TE} (hl : PE X l tl) : PI X tg l (iAny X.K tl) := by
  intro pins s σ H R I h
  refine thn (hl pins s σ H _ I h) fun v s1 ⟨x, H1, I1, r1, q1⟩ => ?_
  obtain ⟨a, e, q⟩ := q1
  subst e
  cases r1
  rcases q with ⟨⟨xs, hq⟩, q⟩ | ⟨⟨xs, hq⟩, q⟩
  · obtain ⟨its, rv, p, hz⟩ := I1.list hq
    refine wpAny_pyIter_list p.isList ?_
    refine ⟨s1.heap.objs.size, [s1.heap.objs.size], _, _, H1, rfl, I1.kept (t' := s1.toks) fun b o e => Heap.get?_push_of_some _ e, turn_list a _, ⟨_, Heap.get?_push_size _ rfl, rfl, rfl⟩, fun b hb => ?_, q⟩
    have e : b = s1.heap.objs.size := by simpa using hb
    subst e
    exact I1.fpOk (Nat.le_refl _) (I1.hok.fresh (Nat.le_refl _))
  · obtain ⟨its, rv, p, hz⟩ := I1.tuple hq
    refine wpAny_pyIter_tuple (show s1.heap.IsTuple a its.toArray from p) ?_
    refine ⟨s1.heap.objs.size, [s1.heap.objs.size], _, _, H1, rfl, I1.kept (t' := s1.toks) fun b o e => Heap.get?_push_of_some _ e, turn_tuple a _, ⟨_, Heap.get?_push_size _ rfl, rfl, rfl⟩, fun b hb => ?_, q⟩
    have e : b = s1.heap.objs.size := by simpa using hb
    subst e
    exact I1.fpOk (Nat.le_refl _) (I1.hok.fresh (Nat.le_refl _))
theorem st_for {wi : TI} {g : TG} {tb : TS} {D : Ends} {σ : St} {H : Hp} (h : wi σ H fun J H1 => ∃ W : Nat → Nat → St → Hp → Prop, (∃ m, W 0 m σ H1) ∧ ∀ i m σ H, W i m σ H →
  (J.stop i H ∧ D.nx σ H) ∨ (J.go i H ∧ ∃ N : St → Hp → Prop, (∀ σ' H', N σ' H' → ∃ m', m' < m ∧ W (i + 1) m' σ' H') ∧ ∀ x H', J.yld i H x H' → g x σ H' fun σ2 H2 => tb { D with nx := N, ct := N, bk := D.nx } σ2 H2)) : tFor wi g tb D σ H := h
abbrev ForW (g : TG) (tb : TS) (D : Ends) (σ : St) (J : It) (H1 : Hp) : Prop := ∃ W : Nat → Nat → St → Hp → Prop, (∃ m, W 0 m σ H1) ∧ ∀ i m σ H, W i m σ H →
  (J.stop i H ∧ D.nx σ H) ∨ (J.go i H ∧ ∃ N : St → Hp → Prop, (∀ σ' H', N σ' H' → ∃ m', m' < m ∧ W (i + 1) m' σ' H') ∧ ∀ x H', J.yld i H x H' → g x σ H' fun σ2 H2 => tb { D with nx := N, ct := N, bk := D.nx } σ2 H2)
theorem rng1_for {g : TG} {tb : TS} {D : Ends} {σ : St} {H : Hp} {n : Int} (h0 : 0 ≤ n) (hn : n < 2 ^ 62) (Pv : Nat → St → Hp → Prop) (p0 : Pv 0 σ H)
    (hs : ∀ (i : Nat) σ H, (i : Int) < n → Pv i σ H → g (.int i) σ H fun σ2 H2 => tb { D with nx := PAt Pv (i + 1), ct := PAt Pv (i + 1), bk := D.nx } σ2 H2) (hd : ∀ σ H, Pv n.toNat σ H → D.nx σ H) :
    ∃ j : Int, [V.int n] = [.int j] ∧ -(2 ^ 62) ≤ j ∧ j < 2 ^ 62 ∧ ForW g tb D σ (Itr 0 j.toNat) H :=
  ⟨n, rfl, by omega, hn, for_range (lo := 0) (n := n.toNat) Pv p0 (fun i σ H hi p => by rw [Int.zero_add]; exact hs i σ H (by omega) p) hd⟩
abbrev CompW (g : TG) (tt : TT) (te : TE) (σ' : St) (Q : VK) (J : It) (H1 : Hp) : Prop := ∃ W : Nat → Nat → List V → Hp → Prop, (∃ m, W 0 m [] H1) ∧ ∀ i m ys H, W i m ys H → ys.length ≤ sizeLine ∧
    ((J.stop i H ∧ ∀ p, H p = none → Q (.ref p) (upd H p (.lst ys))) ∨
     (J.go i H ∧ ∃ NN : List V → Hp → Prop, (∀ ys' H', NN ys' H' → ∃ m', m' < m ∧ W (i + 1) m' ys' H') ∧ ∀ x H', J.yld i H x H' → g x σ' H' fun σ2 H2 => tt σ2 H2 fun b H3 =>
        if b = true then te σ2 H3 fun y H4 => NN (ys ++ [y]) H4 else NN ys H3))
theorem st_comp {fr : List (Option Nat)} {wi : TI} {g : TG} {tt : TT} {te : TE} {σ : St} {H : Hp} {Q : VK} (h : wi σ H (CompW g tt te (grab fr σ) Q)) : tComp fr wi g tt te σ H Q := h
theorem comp_of {J : It} {n : Nat} {g : TG} {tt : TT} {te : TE} {σ' : St} {H : Hp} {Q : VK} (item : Nat → V → Prop) (Pv : Nat → List V → Hp → Prop) (h0 : Pv 0 [] H) (hlen : ∀ i ys H, i ≤ n → Pv i ys H → ys.length ≤ sizeLine)
    (hgo : ∀ i ys H, i < n → Pv i ys H → J.go i H) (hy : ∀ i ys H x H', i < n → Pv i ys H → J.yld i H x H' → H' = H ∧ item i x) (hst : ∀ ys H, Pv n ys H → J.stop n H)
    (hs : ∀ i x ys H, i < n → item i x → Pv i ys H → g x σ' H fun σ2 H2 => tt σ2 H2 fun b H3 => if b = true then te σ2 H3 fun y H4 => PAt Pv (i + 1) (ys ++ [y]) H4 else PAt Pv (i + 1) ys H3)
    (hd : ∀ ys H, Pv n ys H → ∀ p, H p = none → Q (.ref p) (upd H p (.lst ys))) : CompW g tt te σ' Q J H := by
  refine ⟨fun i m ys H => m = n - i ∧ i ≤ n ∧ Pv i ys H, ⟨n, by simp, Nat.zero_le _, h0⟩, ?_⟩
  rintro i m ys H ⟨rfl, hi, p⟩
  refine ⟨hlen i ys H hi p, ?_⟩
  by_cases hlt : i < n
  · refine .inr ⟨hgo i ys H hlt p, Pv (i + 1), fun ys' H' q => ⟨n - (i + 1), by omega, rfl, hlt, q⟩, fun x H' y => ?_⟩
    obtain ⟨rfl, hx⟩ := hy i ys H x H' hlt p y
    exact hs i x ys _ hlt hx p
  · have e : i = n := by omega
    subst e
    exact .inl ⟨hst ys H p, hd ys H p⟩
theorem any_compL {K : PySem.W.Frag} {g : TG} {tt : TT} {te : TE} {σ' : St} {H : Hp} {Q : VK} {a : Addr} {xs : List V} (hq : SqL K H a xs) (Pv : Nat → List V → Hp → Prop) (h0 : Pv 0 [] H) (hlen : ∀ i ys H, i ≤ xs.length → Pv i ys H → ys.length ≤ sizeLine)
    (hl : ∀ i ys H, i ≤ xs.length → Pv i ys H → SqL K H a xs)
    (hs : ∀ i x ys H, xs[i]? = some x → Pv i ys H → g x σ' H fun σ2 H2 => tt σ2 H2 fun b H3 => if b = true then te σ2 H3 fun y H4 => PAt Pv (i + 1) (ys ++ [y]) H4 else PAt Pv (i + 1) ys H3)
    (hd : ∀ ys H, Pv xs.length ys H → ∀ p, H p = none → Q (.ref p) (upd H p (.lst ys))) :
    ∃ b, V.ref a = .ref b ∧ (((∃ xs, SqL K H b xs) ∧ CompW g tt te σ' Q (Itl K b) H) ∨ ((∃ xs, SqT K H b xs) ∧ CompW g tt te σ' Q (Itt K b) H)) := by
  refine ⟨a, rfl, .inl ⟨⟨xs, hq⟩, comp_of (n := xs.length) (fun i x => xs[i]? = some x) Pv h0 hlen (fun i ys H hi p => ?_) (fun i ys H x H' hi p y => ?_) (fun ys H p => ?_) (fun i x ys H _ hx p => hs i x ys H hx p) hd⟩⟩
  · exact ⟨xs, xs[i], hl i ys H (Nat.le_of_lt hi) p, by simp [hi]⟩
  · exact ⟨y.1, y.2 xs (hl i ys H (Nat.le_of_lt hi) p)⟩
  · exact ⟨xs, hl _ ys H (Nat.le_refl _) p, Nat.le_refl _⟩
theorem any_forL {K : PySem.W.Frag} {g : TG} {tb : TS} {D : Ends} {σ : St} {H : Hp} {a : Addr} {xs : List V} (hq : SqL K H a xs) (Pv : Nat → St → Hp → Prop) (h0 : Pv 0 σ H)
    (hl : ∀ i σ H, i ≤ xs.length → Pv i σ H → SqL K H a xs)
    (hs : ∀ i x σ H, xs[i]? = some x → Pv i σ H → g x σ H fun σ2 H2 => tb { D with nx := PAt Pv (i + 1), ct := PAt Pv (i + 1), bk := D.nx } σ2 H2) (hd : ∀ σ H, Pv xs.length σ H → D.nx σ H) :
    ∃ b, V.ref a = .ref b ∧ (((∃ xs, SqL K H b xs) ∧ ForW g tb D σ (Itl K b) H) ∨ ((∃ xs, SqT K H b xs) ∧ ForW g tb D σ (Itt K b) H)) :=
  ⟨a, rfl, .inl ⟨⟨xs, hq⟩, for_list Pv h0 hl hs hd⟩⟩
theorem rng1_comp {g : TG} {tt : TT} {te : TE} {σ' : St} {H : Hp} {Q : VK} {n : Int} (h0 : 0 ≤ n) (hn : n < 2 ^ 62) (Pv : Nat → List V → Hp → Prop) (p0 : Pv 0 [] H) (hlen : ∀ (i : Nat) ys H, (i : Int) ≤ n → Pv i ys H → ys.length ≤ sizeLine)
    (hs : ∀ (i : Nat) ys H, (i : Int) < n → Pv i ys H → g (.int i) σ' H fun σ2 H2 => tt σ2 H2 fun b H3 => if b = true then te σ2 H3 fun y H4 => PAt Pv (i + 1) (ys ++ [y]) H4 else PAt Pv (i + 1) ys H3)
    (hd : ∀ ys H, Pv n.toNat ys H → ∀ p, H p = none → Q (.ref p) (upd H p (.lst ys))) :
    ∃ j : Int, [V.int n] = [.int j] ∧ -(2 ^ 62) ≤ j ∧ j < 2 ^ 62 ∧ CompW g tt te σ' Q (Itr 0 j.toNat) H :=
  ⟨n, rfl, by omega, hn, comp_of (n := n.toNat) (fun i x => x = .int i) Pv p0 (fun i ys H hi p => hlen i ys H (by omega) p) (fun i ys H hi _ => hi) (fun i ys H x H' hi _ y => ⟨y.1, by rw [y.2, Int.zero_add]⟩) (fun ys H _ => Nat.le_refl _)
    (fun i x ys H hi hx p => by subst hx; exact hs i ys H (by omega) p) hd⟩
theorem rng2_comp {g : TG} {tt : TT} {te : TE} {σ' : St} {H : Hp} {Q : VK} {lo hi : Int} (h1 : -(2 ^ 62) ≤ lo) (h2 : lo ≤ hi) (h3 : hi < 2 ^ 62) (Pv : Nat → List V → Hp → Prop) (p0 : Pv 0 [] H) (hlen : ∀ (i : Nat) ys H, lo + i ≤ hi → Pv i ys H → ys.length ≤ sizeLine)
    (hs : ∀ (i : Nat) ys H, lo + i < hi → Pv i ys H → g (.int (lo + i)) σ' H fun σ2 H2 => tt σ2 H2 fun b H3 => if b = true then te σ2 H3 fun y H4 => PAt Pv (i + 1) (ys ++ [y]) H4 else PAt Pv (i + 1) ys H3)
    (hd : ∀ ys H, Pv (hi - lo).toNat ys H → ∀ p, H p = none → Q (.ref p) (upd H p (.lst ys))) :
    ∃ i j : Int, [V.int lo, V.int hi] = [.int i, .int j] ∧ (-(2 ^ 62) ≤ i ∧ i < 2 ^ 62 ∧ -(2 ^ 62) ≤ j ∧ j < 2 ^ 62) ∧ CompW g tt te σ' Q (Itr i (j - i).toNat) H :=
  ⟨lo, hi, rfl, ⟨h1, by omega, by omega, h3⟩, comp_of (n := (hi - lo).toNat) (fun i x => x = .int (lo + i)) Pv p0 (fun i ys H hi' p => hlen i ys H (by omega) p) (fun i ys H hi' _ => hi') (fun i ys H x H' hi' _ y => y) (fun ys H _ => Nat.le_refl _)
    (fun i x ys H hi' hx p => by subst hx; exact hs i ys H (by omega) p) hd⟩
section
variable {σ : St} {H : Hp} {Q : VK} {D : Ends}
theorem st_seq {t u : TS} (h : t { D with nx := u D } σ H) : tSeq t u D σ H := h
theorem st_next (h : D.nx σ H) : tNext D σ H := h
theorem st_asg {te : TE} {g : TG} (h : te σ H fun x H1 => g x σ H1 D.nx) : tAsg te g D σ H := h
theorem st_name {i : Nat} {v : V} {R : St → Hp → Prop} (h : R (σ.set i (some v)) H) : gName i v σ H R := h
theorem st_var {i : Nat} {v : V} (e : σ[i]? = some (some v)) (h : Q v H) : tVar i σ H Q := ⟨v, e, h⟩
theorem st_C {v : V} (h : Q v H) : tC v σ H Q := h
theorem st_op {r : R2} {ta tb : TE} (h : ta σ H fun x H1 => tb σ H1 fun y H2 => r x y H2 Q) : tOp r ta tb σ H Q := h
theorem st_un {r : V → Hp → VK → Prop} {ta : TE} (h : ta σ H fun x H1 => r x H1 Q) : tUn r ta σ H Q := h
theorem st_ret {te : TE} (h : te σ H D.rt) : tRet te D σ H := h
theorem st_drop {te : TE} (h : te σ H fun _ H1 => D.nx σ H1) : tDrop te D σ H := h
theorem st_if {c : TT} {t u : TS} (h : c σ H fun b H1 => if b = true then t D σ H1 else u D σ H1) : tIfS c t u D σ H := h
theorem st_ifE {c : TT} {ta tb : TE} (h : c σ H fun b H1 => if b = true then ta σ H1 Q else tb σ H1 Q) : tIf c ta tb σ H Q := h
theorem st_test {t : TE} {R : Bool → Hp → Prop} (h : t σ H fun x H' => ∃ k, x = .bl k ∧ R k H') : tTest t σ H R := h
theorem st_B {t : TE} {R : Bool → Hp → Prop} (h : t σ H fun x H' => ∃ k, x = .bl k ∧ R k H') : tB t σ H R := h
theorem st_bl {b : Bool} {R : Bool → Prop} (h : R b) : ∃ k, V.bl b = .bl k ∧ R k := ⟨b, rfl, h⟩
theorem st_and {t u : TT} {R : Bool → Hp → Prop} (h : t σ H fun c H1 => if c = true then u σ H1 R else R false H1) : tAnd t u σ H R := h
theorem st_or {t u : TT} {R : Bool → Hp → Prop} (h : t σ H fun c H1 => if c = true then R true H1 else u σ H1 R) : tOr t u σ H R := h
theorem st_not {t : TT} {R : Bool → Hp → Prop} (h : t σ H fun c H1 => R (!c) H1) : tNot t σ H R := h
theorem st_andV {ta tb : TE} (h : ta σ H fun x H1 => ∃ c, x = .bl c ∧ if c = true then tb σ H1 Q else Q (.bl false) H1) : tAndV ta tb σ H Q := h
theorem st_notV {ta : TE} (h : ta σ H fun x H1 => ∃ c, x = .bl c ∧ Q (.bl (!c)) H1) : tNotV ta σ H Q := h
theorem st_nil {R : List V → Hp → Prop} (h : R [] H) : tNil σ H R := h
theorem st_cons {ta : TE} {tr : TA} {R : List V → Hp → Prop} (h : ta σ H fun x H1 => tr σ H1 fun xs H2 => R (x :: xs) H2) : tCons ta tr σ H R := h
theorem st_tup {t : TA} (h : t σ H fun xs H1 => xs.length ≤ sizeLine ∧ ∀ p, H1 p = none → Q (.ref p) (upd H1 p (.tup xs))) : tTup t σ H Q := h
theorem st_lst {t : TA} (h : t σ H fun xs H1 => xs.length ≤ sizeLine ∧ ∀ p, H1 p = none → Q (.ref p) (upd H1 p (.lst xs))) : tLst t σ H Q := h
theorem st_call {sp : Sp} {dvs : List V} {E : XK} {t : TA} (h : t σ H fun vs H1 => sp (vs ++ dvs) H1 Q E) : tCall sp dvs E t σ H Q := h
theorem st_CB {r : List V → Hp → VK → Prop} {t : TA} (h : t σ H fun vs H1 => r vs H1 Q) : tCB r t σ H Q := h
theorem st_tt {R : Bool → Hp → Prop} (h : R true H) : tTT σ H R := h
theorem st_any {K : PySem.W.Frag} {tl : TE} {R : It → Hp → Prop} (h : tl σ H fun x H1 => ∃ a, x = .ref a ∧ (((∃ xs, SqL K H1 a xs) ∧ R (Itl K a) H1) ∨ ((∃ xs, SqT K H1 a xs) ∧ R (Itt K a) H1))) : iAny K tl σ H R := h
theorem st_rng1 {ta : TA} {R : It → Hp → Prop} (h : ta σ H fun vs H1 => ∃ j : Int, vs = [.int j] ∧ -(2 ^ 62) ≤ j ∧ j < 2 ^ 62 ∧ R (Itr 0 j.toNat) H1) : iRng1 ta σ H R := h
theorem st_rng2 {ta : TA} {R : It → Hp → Prop} (h : ta σ H fun vs H1 => ∃ i j : Int, vs = [.int i, .int j] ∧ (-(2 ^ 62) ≤ i ∧ i < 2 ^ 62 ∧ -(2 ^ 62) ≤ j ∧ j < 2 ^ 62) ∧ R (Itr i (j - i).toNat) H1) : iRng2 ta σ H R := h
theorem st_sub {to ti : TE} {t : TSet} {v : V} {R : St → Hp → Prop} (h : to σ H fun o H1 => ti σ H1 fun i H2 => t o i v H2 fun H3 => R σ H3) : gSub to ti t v σ H R := h
theorem st_bm {K : PySem.W.Frag} {T : String} {r : V → List V → Hp → VK → Prop} {to : TE} {t : TA} (h : to σ H fun x H1 => tyV K T x H1 ∧ t σ H1 fun xs H2 => r x xs H2 Q) : tBM K T r to t σ H Q := h
theorem st_chain {r r' : R2} {ta tb tc : TE} (h : ta σ H fun x H1 => tb σ H1 fun y H2 => r x y H2 fun z H3 => ∃ k, z = .bl k ∧ (if k = true then tc σ H3 fun w' H4 => r' y w' H4 Q else Q (.bl false) H3)) : tChain r r' ta tb tc σ H Q := h
end
section
variable {H : Hp} {Q : VK} {K : PySem.W.Frag}
theorem v_addI {i j : Int} (h : Q (.int (i + j)) H) : rAddA K (.int i) (.int j) H Q := .inl ⟨i, j, rfl, rfl, h⟩
theorem v_addS {i j : Str} (hz : i.length + j.length ≤ sizeLine) (h : Q (.str (i ++ j)) H) : rAddA K (.str i) (.str j) H Q := .inr (.inl ⟨i, j, rfl, rfl, hz, h⟩)
theorem v_cat {a b : Addr} {xs ys : List V} (h1 : H a = some (.lst xs)) (h2 : H b = some (.lst ys)) (hz : xs.length + ys.length ≤ sizeLine) (h : ∀ p, H p = none → Q (.ref p) (upd H p (.lst (xs ++ ys)))) : rAddA K (.ref a) (.ref b) H Q := .inr (.inr (.inl ⟨a, b, xs, ys, rfl, rfl, h1, h2, hz, h⟩))
theorem v_subI {i j : Int} (h : Q (.int (i - j)) H) : rI0 (fun i j => .int (i - j)) (.int i) (.int j) H Q := ⟨i, j, rfl, rfl, h⟩
theorem v_mulI {i j : Int} (c : CMul i j) (h : Q (.int (i * j)) H) : rMulA (.int i) (.int j) H Q := .inl ⟨i, j, rfl, rfl, c, h⟩
theorem v_mulS {z : Str} {n : Int} (h0 : 0 ≤ n) (h1 : n ≤ 1000) (h2 : z.length ≤ 1000) (h : Q (.str (PySem.Txt.mul z n)) H) : rMulA (.str z) (.int n) H Q := .inr (.inl ⟨z, n, rfl, rfl, h0, h1, h2, h⟩)
theorem v_fdiv {i j : Int} (c : CDiv i j) (h : Q (.int (i / j)) H) : rI CDiv (fun i j => .int (i / j)) (.int i) (.int j) H Q := ⟨i, j, rfl, rfl, c, h⟩
theorem v_mod {i j : Int} (c : 0 < j) (h : Q (.int (i % j)) H) : rI (fun _ j => 0 < j) (fun i j => .int (i % j)) (.int i) (.int j) H Q := ⟨i, j, rfl, rfl, c, h⟩
theorem v_ltI {i j : Int} (h : Q (.bl (decide (i < j))) H) : rLtA (.int i) (.int j) H Q := .inl ⟨i, j, rfl, rfl, h⟩
theorem v_leI {i j : Int} (h : Q (.bl (decide (i ≤ j))) H) : rLeA (.int i) (.int j) H Q := .inl ⟨i, j, rfl, rfl, h⟩
theorem v_gtI {i j : Int} (h : Q (.bl (decide (j < i))) H) : rGtA (.int i) (.int j) H Q := .inl ⟨i, j, rfl, rfl, h⟩
theorem v_eq {x y : V} (c : scal x y = true) (h : Q (.bl (decide (x = y))) H) : rEqA K x y H Q := .inl ⟨c, h⟩
theorem v_ne {x y : V} (c : scal x y = true) (h : Q (.bl (!decide (x = y))) H) : rNeA K x y H Q := .inl ⟨c, h⟩
theorem v_eqD {x y : V} {d e : PyData} (h1 : Dv K H d x) (h2 : Dv K H e y) (hz : d.depth ≤ 64) (h : Q (.bl (PyData.eqv d e)) H) : rEqA K x y H Q := .inr ⟨d, e, h1, h2, by omega, h⟩
theorem v_eqM {x y : V} {d e : PyData} (h1 : Dv K H d x) (h2 : Dv K H e y) (hz : min d.depth e.depth ≤ 190) (h : Q (.bl (PyData.eqv d e)) H) : rEqA K x y H Q := .inr ⟨d, e, h1, h2, hz, h⟩
theorem v_neD {x y : V} {d e : PyData} (h1 : Dv K H d x) (h2 : Dv K H e y) (hz : d.depth ≤ 64) (h : Q (.bl (!PyData.eqv d e)) H) : rNeA K x y H Q := .inr ⟨d, e, h1, h2, by omega, h⟩
theorem v_neM {x y : V} {d e : PyData} (h1 : Dv K H d x) (h2 : Dv K H e y) (hz : min d.depth e.depth ≤ 190) (h : Q (.bl (!PyData.eqv d e)) H) : rNeA K x y H Q := .inr ⟨d, e, h1, h2, hz, h⟩
theorem v_ixL {p : Addr} {xs : List V} {i : Int} {v : V} (h1 : SqL K H p xs) (e : atI xs i = some v) (h : Q v H) : rIx K (.ref p) (.int i) H Q := .inl ⟨p, xs, i, v, rfl, rfl, h1, e, h⟩
theorem v_ixT {p : Addr} {xs : List V} {i : Int} {v : V} (h1 : SqT K H p xs) (e : atI xs i = some v) (h : Q v H) : rIx K (.ref p) (.int i) H Q := .inr (.inl ⟨p, xs, i, v, rfl, rfl, h1, e, h⟩)
theorem v_ixS {z : Str} {i : Int} {c : Nat} (hz : z.length ≤ sizeLine) (e : atI z.cps.toList i = some c) (h : Q (.str ⟨#[c]⟩) H) : rIx K (.str z) (.int i) H Q := .inr (.inr ⟨z, i, c, rfl, rfl, hz, e, h⟩)
theorem v_in {x : V} {p : Addr} {xs : List V} (h1 : SqL K H p xs ∨ SqT K H p xs) (fx : flatV x = true) (fs : xs.all flatV = true) (h : Q (.bl (inV x xs)) H) : rInA K false x (.ref p) H Q := .inl ⟨p, xs, rfl, h1, fx, fs, h⟩
theorem v_notin {x : V} {p : Addr} {xs : List V} (h1 : SqL K H p xs ∨ SqT K H p xs) (fx : flatV x = true) (fs : xs.all flatV = true) (h : Q (.bl (!inV x xs)) H) : rInA K true x (.ref p) H Q := .inl ⟨p, xs, rfl, h1, fx, fs, h⟩
theorem v_lenQ {p : Addr} {xs : List V} (h1 : SqL K H p xs ∨ SqT K H p xs) (h : Q (.int xs.length) H) : rLenA K [.ref p] H Q := .inl ⟨p, xs, rfl, h1, h⟩
theorem v_lenS {z : Str} (hz : z.length ≤ sizeLine) (h : Q (.int z.length) H) : rLenA K [.str z] H Q := .inr (.inl ⟨z, rfl, hz, h⟩)
theorem v_setL {p : Addr} {xs : List V} {k : Int} {v : V} {j : Nat} {R : Hp → Prop} (h1 : H p = some (.lst xs)) (e : ixN xs.length k = some j) (h : R (upd H p (.lst (xs.set j v)))) : rSetL (.ref p) (.int k) v H R := ⟨p, xs, k, j, rfl, rfl, h1, e, h⟩
theorem v_append {p : Addr} {xs : List V} {y : V} (h1 : H p = some (.lst xs)) (hz : xs.length < sizeLine) (h : Q .non (upd H p (.lst (xs ++ [y])))) : rAppend (.ref p) [y] H Q := ⟨p, xs, y, rfl, rfl, h1, hz, h⟩
theorem v_insert {p : Addr} {xs : List V} {i : Int} {y : V} (h1 : H p = some (.lst xs)) (h0 : 0 ≤ i) (hi : i ≤ xs.length) (hz : xs.length < sizeLine) (h : Q .non (upd H p (.lst (insAt xs i.toNat y)))) : rInsert (.ref p) [.int i, y] H Q := ⟨p, xs, i, y, rfl, rfl, h1, h0, hi, hz, h⟩
end
end L2
namespace L2
open PySem PySem.Spec PyProof.Rows PySem.SeqAt
section
variable {prog : Program} {w : World} {A : Around} {E : Value → Shared → Prop} {s : Shared}
end
def Itv (n : Nat) : It := ⟨fun i _ => i < n, fun i H x H' => H' = H ∧ x = .int ((n : Int) - 1 - i), fun i _ => n ≤ i⟩
theorem turn_rev {P : Program} {w : World} {K : PySem.W.Frag} {tg : Expr} (it : Addr) (n : Nat) : Turn P w K tg (Itv n) [it] it (fun i h => IsRangeIter h it ((n : Int) - 1 + (i : Nat) * (-1)) ((n : Int) - (i : Nat)) (-1)) where
  mem := by simp
  obj := fun i h st b hb => by
    have e : b = it := by simpa using hb
    subst e
    exact ⟨_, st, fun v z => by
      have z' : Data.fields _ = Data.cell v := z
      cases z'⟩
  keep := fun i h h' st k => k it (by simp) _ st
  item := by
    intro X hP hw hK hc i pins s σ H E I hf st hg
    subst hP hw hK
    obtain ⟨f0, f1, f2, f3, f4, f5⟩ := hf it (by simp)
    have W := Walks.range (prog := X.prog) (w := X.w) (I.ok.hd hc) it ((n : Int) - 1) (-1) n
    refine wpAny_with_toks (n := 1) I.tk (W.item i s _ _ hg st fun v h' tk hv st' kk ht => ?_)
    have ht : 0 < tk := ht
    obtain ⟨t, rfl⟩ := hv
    have I1 : Inv X pins σ H { s with heap := h', toks := tk } := I.turned (fun b o hb e => kk b o (by simpa using hb) e) f0 f1 f3 f4 f5
    refine ⟨_, rfl, go_of (s := { s with heap := h', toks := tk }) (n := "range_iterator") st' rfl rfl (by decide) ⟨.int ((n : Int) - 1 - i), H, I1, ⟨t, ?_⟩, ⟨rfl, rfl⟩, st', fun b hb => (hf b hb).1⟩⟩
    have e : (n : Int) - 1 + (i : Int) * (-1) = (n : Int) - 1 - i := by omega
    rw [e]
  done := by
    intro X hP hw hK hc i pins s σ H E I hf st hg
    subst hP hw hK
    obtain ⟨f0, f1, f2, f3, f4, f5⟩ := hf it (by simp)
    exact wpAny_pyNext_range_end (I.ok.hd hc) st (by have : n ≤ i := hg; omega) fun h' eb => ⟨rfl, I.turned (t' := s.toks) (fun b o hb e => eb b o hb e) f0 f1 f3 f4 f5⟩
  self := fun _ _ _ _ _ st h => wpAny_pyIter_rangeiter st h
section
variable {X : Cx}
def rSetA : TSet := fun o i v H Q => rSetL o i v H Q ∨ ∃ a H', o = .ref a ∧ DPut H a i v H' ∧ Q H'
theorem set_any' (hu : X.A.units + 1 < cLine) : PSet X rSetA := by
  intro pins s σ H o i v ov iv u Q I ro ri rv h
  rcases h with h | ⟨a, H', rfl, g, q⟩
  · exact set_list pins s σ H o i v ov iv u Q I ro ri rv h
  · cases ro
    exact d_setItem hu I g ri rv fun s' I' => ⟨H', I', q⟩
def rIxA (K : PySem.W.Frag) : R2 := rIx K
theorem ix_any' (hu : X.A.units + 1 < cLine) : IxR X (rIxA X.K) := ix_seq
def rInD (neg : Bool) : R2 := fun x y H Q => ∃ a o, y = .ref a ∧ DGet H a x o ∧ Q (.bl (if neg then !o.isSome else o.isSome)) H
def rInB (K : PySem.W.Frag) (neg : Bool) : R2 := fun x y H Q => rInA K neg x y H Q ∨ rInD neg x y H Q
theorem op_inB (hu : X.A.units + 1 < cLine) : OpR X (compareOp .In) (rInB X.K false) := by
  refine op_inA.or ?_
  intro pins s σ H x y v u Q I rx ry h
  obtain ⟨a, o, rfl, g, q⟩ := h
  cases ry
  exact d_in hu I g rx fun s' I' => ⟨.bl o.isSome, H, I', rfl, q⟩
theorem op_notinB (hu : X.A.units + 1 < cLine) : OpR X (compareOp .NotIn) (rInB X.K true) := by
  refine op_notinA.or ?_
  intro pins s σ H x y v u Q I rx ry h
  obtain ⟨a, o, rfl, g, q⟩ := h
  cases ry
  exact d_notIn hu I g rx fun s' I' => ⟨.bl (!o.isSome), H, I', rfl, q⟩
def rIsi (K : PySem.W.Frag) : List V → Hp → VK → Prop := fun xs H Q => (∃ (x : V) (T : String) (t : Value) (b : Bool), xs = [x, .ty T] ∧ TyOf K H x t ∧ PySem.W.kitOne K t (.type T) = some b ∧ Q (.bl b) H) ∨
  ∃ (a : Addr) (ys : List V) (T : String) (b : Bool), xs = [.ref a, .ty T] ∧ SqT K H a ys ∧ PySem.W.kitOne K (.type "tuple") (.type T) = some b ∧ Q (.bl b) H
theorem call_isinstanceA : CallR X (.builtin "isinstance") (rIsi X.K) := by
  intro pins s σ H xs us Q I r h
  rcases h with ⟨x, T, t, b, rfl, ty, e, q⟩ | ⟨a, ys, T, b, rfl, hq, e, q⟩
  · obtain ⟨u, w', rfl, r1, r2⟩ := vals2 r
    cases r2
    exact wpAny_with_toks (n := 1) I.tk (isinst_ok I r1 ty e fun tk ht => ⟨.bl b, H, I.tok _ ht, rfl, q⟩)
  · obtain ⟨u, w', rfl, r1, r2⟩ := vals2 r
    cases r2
    cases r1
    obtain ⟨its, rv, pl, hz⟩ := I.tuple hq
    obtain ⟨o, h1, h2, _⟩ := pl
    exact wpAny_with_toks (n := 1) I.tk (PySem.W.kia_one PySem.W.kitx_tuple I.kIn ⟨o, h1, h2⟩ e (fun z => nomatch z) fun tk ht => ⟨.bl b, H, I.tok _ ht, rfl, q⟩)
theorem v_isi {K : PySem.W.Frag} {H : Hp} {Q : VK} {x : V} {T : String} {t : Value} {b : Bool} (ty : TyOf K H x t) (e : PySem.W.kitOne K t (.type T) = some b) (h : Q (.bl b) H) : rIsi K [x, .ty T] H Q := .inl ⟨x, T, t, b, rfl, ty, e, h⟩
theorem v_isiT {K : PySem.W.Frag} {H : Hp} {Q : VK} {a : Addr} {ys : List V} {T : String} {b : Bool} (hq : SqT K H a ys) (e : PySem.W.kitOne K (.type "tuple") (.type T) = some b) (h : Q (.bl b) H) : rIsi K [.ref a, .ty T] H Q := .inr ⟨a, ys, T, b, rfl, hq, e, h⟩
example (K : PySem.W.Frag) : PySem.W.kitOne K (.type "str") (.type "str") = some true := by rfl
example (K : PySem.W.Frag) : PySem.W.kitOne K (.type "bool") (.type "int") = some true := by rfl
example (K : PySem.W.Frag) : PySem.W.kitOne K (.type "int") (.type "bool") = some false := by rfl
example (K : PySem.W.Frag) : PySem.W.kitOne K (.type "list") (.type "list") = some true := by rfl
end
end L2
namespace L2
open PySem PySem.Spec PyProof.Rows PySem.SeqAt
section
variable {X : Cx} {pins : List (Addr × Obj)} {σ : List (Option V)} {H : Hp} {s : Shared} {h' : Heap}
end
section
variable {X : Cx} {pins : List (Addr × Obj)} {σ : List (Option V)} {H : Hp} {s : Shared} {h' : Heap}
end
def cutS (x : Str) (lo hi : Option Int) : Str := ⟨((x.cps.toList.drop (HT.sIx x.cps.toList.length 0 lo)).take (HT.sIx x.cps.toList.length x.cps.toList.length hi - HT.sIx x.cps.toList.length 0 lo)).toArray⟩
def rSlS : V → Option Int → Option Int → Hp → VK → Prop := fun x lo hi H Q => ∃ z, x = .str z ∧ z.length ≤ sizeLine ∧ Q (.str (cutS z lo hi)) H
theorem pick_cutS (x : Str) (lo hi : Option Int) : (⟨((Builtin.Str.strSliceIndices lo hi 1 x.length).filterMap (x.cps[·]?)).toArray⟩ : Str) = cutS x lo hi := by
  obtain ⟨h1, h2, h3⟩ := slice_bounds lo hi x.length
  have e : Builtin.Str.strSliceIndices lo hi 1 x.length = sliceRange (sliceBounds lo hi none x.length).1 (sliceBounds lo hi none x.length).2.1 (sliceBounds lo hi none x.length).2.2 := rfl
  rw [e, h1, h2, h3]
  unfold cutS
  rw [sliceRange_one, pick_run]
  rfl
theorem sIx_le (n d : Nat) (o : Option Int) (h : d ≤ n) : HT.sIx n d o ≤ n := by
  cases o with
  | none => exact h
  | some v =>
    show (if v < 0 then (v + (n : Int)).toNat else min v.toNat n) ≤ n
    split <;> omega
theorem sl_str {X : Cx} : SlR X rSlS := by
  intro pins s σ H x v vl vu lo hi sl Q I rx hs pl pu h
  obtain ⟨z, rfl, hz, q⟩ := h
  obtain ⟨t, rfl⟩ := rx
  refine ⟨"str", _, PySem.F.slot_str_getitem.lookup, typeIs_str _ _ _, ?_⟩
  have part : ∀ {v : Value} {k : Option Int}, IsPart v k → ∃ l : Option (Int × Tok), v = partValue l ∧ l.map (·.1) = k := fun {v k} h => by
    cases h with
    | none => exact ⟨none, rfl, rfl⟩
    | int i t => exact ⟨some (i, t), rfl, rfl⟩
  obtain ⟨l, rfl, el⟩ := part pl
  obtain ⟨u, rfl, eu⟩ := part pu
  refine wpAny_getItem_str_slice (l := l) (u := u) (st := none) hs rfl ?_
  have ep : slicePicked z l u none = Builtin.Str.strSliceIndices lo hi 1 z.length := by unfold slicePicked; rw [el, eu]; rfl
  have ec := pick_cutS z lo hi
  unfold sliceMade
  rw [ep]
  split
  · rename_i hc
    have hlen : (Builtin.Str.strSliceIndices lo hi 1 z.length).length = z.length := by simpa using hc
    have : cutS z lo hi = z := by
      obtain ⟨h1, h2, h3⟩ := slice_bounds lo hi z.length
      have e : Builtin.Str.strSliceIndices lo hi 1 z.length = sliceRange (sliceBounds lo hi none z.length).1 (sliceBounds lo hi none z.length).2.1 (sliceBounds lo hi none z.length).2.2 := rfl
      rw [e, h1, h2, h3, sliceRange_one, List.length_map, List.length_range] at hlen
      have hb := sIx_le z.length z.length hi (Nat.le_refl _)
      have el : z.cps.toList.length = z.length := Array.length_toList
      obtain ⟨⟨l⟩⟩ := z
      unfold cutS
      rw [el, hlen]
      by_cases h0 : HT.sIx (Str.length ⟨⟨l⟩⟩) 0 lo = 0
      · rw [h0, List.drop_zero, List.take_of_length_le (Nat.le_of_eq el)]
      · have : Str.length ⟨⟨l⟩⟩ = 0 := by omega
        rw [this, List.take_zero]
        have : l = [] := List.eq_nil_of_length_eq_zero (by rw [← this]; exact el.symm ▸ rfl)
        rw [this]
    rw [this] at q
    exact ⟨.str z, H, I, ⟨_, rfl⟩, q⟩
  · rw [ec]
    refine ⟨?_, .str _, H, I.tok _, ⟨_, rfl⟩, q⟩
    have : (cutS z lo hi).length ≤ z.length := by
      unfold cutS Str.length
      simp only [List.size_toArray, List.length_take, List.length_drop, Array.length_toList]
      omega
    omega
def rSlA (K : PySem.W.Frag) : V → Option Int → Option Int → Hp → VK → Prop := fun x lo hi H Q => rSlS x lo hi H Q ∨ rSlT K x lo hi H Q ∨ rSlL K x lo hi H Q
theorem sl_any {X : Cx} : SlR X (rSlA X.K) := sl_str.or (sl_tup.or sl_list)
section
variable {K : PySem.W.Frag} {σ : St} {H : Hp} {Q : VK}
theorem v_slL {a : Addr} {xs : List V} {lo hi : Option Int} (hx : SqL K H a xs) (h : ∀ p, H p = none → Q (.ref p) (upd H p (.lst (cutV xs lo hi)))) : rSlA K (.ref a) lo hi H Q := .inr (.inr ⟨a, xs, rfl, hx, h⟩)
theorem st_sl {r : V → Option Int → Option Int → Hp → VK → Prop} {te : TE} {tl th : TO} (h : te σ H fun x H1 => tl σ H1 fun l H2 => th σ H2 fun u H3 => r x l u H3 Q) : tSl r te tl th σ H Q := h
theorem st_part {t : TE} {R : Option Int → Hp → Prop} (h : t σ H fun x H1 => ∃ i, x = .int i ∧ R (some i) H1) : tPart t σ H R := h
theorem st_nopart {R : Option Int → Hp → Prop} (h : R none H) : tNoPart σ H R := h
theorem st_int {i : Int} {R : Int → Prop} (h : R i) : ∃ j, V.int i = .int j ∧ R j := ⟨i, rfl, h⟩
theorem v_eqS {x y : Str} (h : Q (.bl (decide (x = y))) H) : rEqA K (.str x) (.str y) H Q := by
  refine v_eq rfl ?_
  have e : (decide ((V.str x) = V.str y)) = decide (x = y) := by simp
  rw [e]; exact h
theorem v_eqI {x y : Int} (h : Q (.bl (decide (x = y))) H) : rEqA K (.int x) (.int y) H Q := by
  refine v_eq rfl ?_
  have e : (decide ((V.int x) = V.int y)) = decide (x = y) := by simp
  rw [e]; exact h
theorem v_neI {x y : Int} (h : Q (.bl (!decide (x = y))) H) : rNeA K (.int x) (.int y) H Q := by
  refine v_ne rfl ?_
  have e : (decide ((V.int x) = V.int y)) = decide (x = y) := by simp
  rw [e]; exact h
end
def tStrs (xs : List Str) : TA := fun _ H R => R (strV xs) H
theorem pa_s0 {X : Cx} : PA X [] (tStrs []) := pa_nil
theorem pa_s1 {X : Cx} {es : List Expr} {xs : List Str} {x : Str} {j : Nat} {p : Pos} (h : PA X es (tStrs xs)) : PA X (.Constant (.str x) j p :: es) (tStrs (x :: xs)) := pa_cons (te := tC (.str x)) pe_str h
theorem st_strs {σ : St} {H : Hp} {xs : List Str} {R : List V → Hp → Prop} (h : R (strV xs) H) : tStrs xs σ H R := h
end L2
namespace L2
open PySem PySem.Spec PyProof.Rows PySem.SeqAt PySem.Builtin PySem.Builtin.Str
section
variable {X : Cx}
section
variable {K : PySem.W.Frag} {σ : St} {H : Hp} {Q : VK}
end
end
end L2
namespace L2
open PySem PySem.Spec PyProof.Rows PySem.SeqAt
theorem range_rev (n : Nat) : ((List.range n).map fun (k : Nat) => ((n : Int) - 1 + -1 * (k : Int)).toNat) = (List.range n).reverse := by
  apply List.ext_getElem
  · simp
  · intro i h1 h2
    simp only [List.getElem_map, List.getElem_range, List.getElem_reverse, List.length_range]
    simp only [List.length_map, List.length_range] at h1
    omega
theorem pick_range {α : Type} (xs : List α) : (List.range xs.length).filterMap (xs[·]?) = xs := by
  induction xs with
  | nil => rfl
  | cons x xs ih =>
    rw [List.length_cons, List.range_succ_eq_map, List.filterMap_cons, List.filterMap_map]
    show x :: _ = _
    congr 1
theorem slicePick_rev (items : List Value) : slicePick items.toArray none none (some (-1)) = items.reverse.toArray := by
  unfold slicePick sliceBounds sliceRange
  simp only [Option.getD_some, List.size_toArray]
  have h : ¬ ((-1 : Int) > 0) := by decide
  simp only [if_neg h]
  have ec : (if (items.length : Int) - 1 > -1 then ((items.length : Int) - 1 - -1 - -1 - 1) / (- -1) else 0).toNat = items.length := by
    by_cases h0 : (items.length : Int) - 1 > -1
    · rw [if_pos h0]
      have : (- -1 : Int) = 1 := by decide
      rw [this, Int.ediv_one]; omega
    · rw [if_neg h0]; omega
  rw [ec, range_rev, List.filterMap_reverse]
  congr 2
  have : (fun (x : Nat) => (items.toArray)[x]?) = fun (x : Nat) => items[x]? := by funext x; simp
  rw [this, pick_range]
section
variable {X : Cx}
def tRev3 (K : PySem.W.Frag) (te : TE) : TE := fun σ H Q => te σ H fun x H1 => ∃ a xs, x = .ref a ∧ SqL K H1 a xs ∧ ∀ p, H1 p = none → Q (.ref p) (upd H1 p (.lst xs.reverse))
theorem pe_rev3 {e k : Expr} {te : TE} {p2 pos : Pos} (he : PE X e te) (hk : PE X k (tUn (rU fun i => .int (-i)) (tC (.int 1)))) : PE X (.Subscript e (.Slice none none (some k) p2) pos) (tRev3 X.K te) := by
  intro pins s σ H Q I h
  refine Subscript_ (thn (he pins s σ H _ I h) fun v s1 ⟨x, H1, I1, r1, q1⟩ => ?_)
  obtain ⟨a, xs, rfl, hx, q⟩ := q1
  refine wpAny_Slice ?_
  rw [evalPart_none]
  refine wpAny_pure (wpAny_pure ?_)
  rw [evalPart_some]
  refine thn (hk pins s1 σ H1 (fun y H2 => y = .int (-1) ∧ H2 = H1) I1 ⟨1, rfl, rfl, rfl⟩) fun vk s2 ⟨y, H2, I2, r2, ey, eH⟩ => ?_
  subst ey
  subst eH
  obtain ⟨tk, rfl⟩ := r2
  have I4 : Inv X pins σ H2 { s2 with heap := s2.heap.push { cls := .type "slice", data := .fields #[.none, .none, .int (-1) tk] } } := I2.kept (t' := s2.toks) fun b ob q => Heap.get?_push_of_some _ q
  cases r1
  obtain ⟨its, r, ht, hz⟩ := I4.list hx
  have hlen := r.length
  refine tail_any (ops := [.ref a, .ref s2.heap.objs.size]) ht.isList.typeIs slot_list_getitem.lookup ?_ (by with_unfolding_all rfl)
  refine wpAny_getItem_list_slice ht.isList (Heap.IsSliceOf.new ..) .none .none (.int (-1) tk) (by simp) ?_ (by rw [List.size_toArray] <;> omega)
  rw [slicePick_rev]
  refine ⟨.ref _, _, I4.laid (t' := s2.toks) (o := .lst xs.reverse) (fun b ob q => Heap.get?_push_of_some _ q) (Nat.le_refl _) ?_, rfl, q _ (I4.hok.fresh (Nat.le_refl _))⟩
  exact ⟨by rw [List.length_reverse]; exact hz, _, 0, Vals.reverse r, Heap.get?_push_size _ rfl⟩
end
section
variable {σ : St} {H : Hp} {Q : VK} {K : PySem.W.Frag}
theorem st_rev3 {te : TE} (h : te σ H fun x H1 => ∃ a xs, x = .ref a ∧ SqL K H1 a xs ∧ ∀ p, H1 p = none → Q (.ref p) (upd H1 p (.lst xs.reverse))) : tRev3 K te σ H Q := h
theorem st_bm0 {T : String} {r : V → List V → Hp → VK → Prop} {to : TE} (h : to σ H fun x H1 => tyV K T x H1 ∧ r x [] H1 Q) : tBM0 K T r to σ H Q := h
theorem v_pop {p : Addr} {xs : List V} {y : V} (h1 : H p = some (.lst (xs ++ [y]))) (h : Q y (upd H p (.lst xs))) : rPop (.ref p) [] H Q :=
  ⟨p, xs ++ [y], y, rfl, rfl, h1, by simp, by rw [List.dropLast_concat]; exact h⟩
end
section
variable {prog : Program} {w : World} {A : Around} {E : Value → Shared → Prop} {s : Shared}
end
section
variable {X : Cx}
def rCat0 (K : PySem.W.Frag) : R2 := fun x y H Q => ∃ a b ys, x = .ref a ∧ y = .ref b ∧ SqT K H a [] ∧ SqT K H b ys ∧ Q (.ref b) H
theorem op_cat0 : OpR X (binaryOp .Add) (rCat0 X.K) := by
  intro pins s σ H x y v u Q I rx ry h
  obtain ⟨a, b, ys, rfl, rfl, ha, hb, q⟩ := h
  cases rx
  cases ry
  obtain ⟨its, r1, p1, _⟩ := I.tuple ha
  obtain ⟨its2, r2, p2, _⟩ := I.tuple hb
  cases r1
  obtain ⟨⟨cls, dd, data, sl⟩, ho, hc, n, hd⟩ := id p1
  obtain ⟨⟨cls2, dd2, data2, sl2⟩, ho2, hc2, n2, hd2⟩ := id p2
  simp only at hc hd hc2 hd2
  subst hc hd hc2 hd2
  exact concat_meets ⟨_, ho, rfl⟩ ⟨_, ho2, rfl⟩ noFill_tuple_add seq_tuple_add PySem.F.slot_tuple_add PySem.F.entry_tuple_add (PySem.F.args_tuple_add_2 _ _)
      (tuple_addW0 a b _ its2.toArray n n2 dd dd2 sl sl2 (by simp)) ⟨ho, ho2, ⟨.ref b, H, I, rfl, q⟩⟩
def rAddB (K : PySem.W.Frag) : R2 := fun x y H Q => rAddA K x y H Q ∨ rCat0 K x y H Q
theorem op_addB : OpR X (binaryOp .Add) (rAddB X.K) := op_addA.or op_cat0
end
section
variable {H : Hp} {Q : VK} {K : PySem.W.Frag}
theorem v_catT {a b : Addr} {xs ys : List V} (h1 : SqT K H a xs) (h2 : SqT K H b ys) (hz : xs.length + ys.length ≤ sizeLine) (h : ∀ p H', Same H H' → SqT K H' p (xs ++ ys) → Q (.ref p) H') : rAddB K (.ref a) (.ref b) H Q := by
  by_cases hx : xs = []
  · subst hx
    exact .inr ⟨a, b, ys, rfl, rfl, h1, h2, h b H (fun _ _ e => e) h2⟩
  · refine .inl (.inr (.inr (.inr ⟨a, b, xs, ys, rfl, rfl, h1, h2, hx, hz, fun hy => ?_, fun hy p hp => h p _ (Same.new hp _) (SqT.of upd_same)⟩)))
    subst hy
    exact h a H (fun _ _ e => e) (by rw [List.append_nil]; exact h1)
end
def iRng3 (ta : TA) : TI := fun σ H R => ta σ H fun vs H1 => ∃ n : Nat, vs = [.int ((n : Int) - 1), .int (-1), .int (-1)] ∧ (n : Int) < 2 ^ 62 ∧ R (Itv n) H1
theorem size_down (n : Nat) : Builtin.Range.rangeSize ((n : Int) - 1) (-1) (-1) = n := by
  unfold Builtin.Range.rangeSize
  rw [if_neg (by decide)]
  have e : (- (-1) : Int) = 1 := by decide
  rw [e, Int.ediv_one]
  split <;> omega
theorem pi_range3 {X : Cx} {tg : Expr} {a b c : Expr} {ta : TA} {p pos : Pos} (hg : Gl X "range") (hm : X.mg "range" = none) (ha : PA X [a, b, c] ta)
    (hs : starEach [a, b, c] X.env = (false, eval a X.env) :: starEach [b, c] X.env := by rfl) (hs2 : starEach [b, c] X.env = [(false, eval b X.env), (false, eval c X.env)] := by rfl) :
    PI X tg (.Call (.Name "range" p) [a, b, c] [] pos) (iRng3 ta) := by
  intro pins s σ H R I h
  refine Call_ (ld_blt I hg hm boot_range (PyProof.Rows.callWith_type1 (thn (ha pos pins s σ H _ I h) fun us s1 ⟨vs, H1, I1, r1, q1⟩ => ?_) hs (by rw [hs2]; rfl)))
  obtain ⟨n, e, q1, q⟩ := q1
  subst e
  cases r1 with
  | cons r rr =>
    cases rr with
    | cons r' rr =>
      cases rr with
      | cons r'' rr =>
        cases rr
        obtain ⟨t, rfl⟩ := r
        obtain ⟨t', rfl⟩ := r'
        obtain ⟨t'', rfl⟩ := r''
        refine call_range_3 (by decide) ?_ (Or.inl (PyProof.noPylong_small (by decide)))
        have I2 : Inv X pins σ H1 { s1 with heap := s1.heap.push { cls := .type "range", data := .fields #[.int ((n : Int) - 1) t, .int (-1) t', .int (-1) t''] }, toks := s1.toks } := I1.kept (t' := s1.toks) fun b o e => Heap.get?_push_of_some _ e
        refine wpAny_pyIter_range (IsRange.new ..) ?_ ?_
        · unfold Builtin.Range.small
          rw [size_down]
          simp only [Builtin.Range.rangeFitsLong, Bool.and_eq_true, Bool.or_eq_true, decide_eq_true_eq, beq_iff_eq, show ¬ ((-1 : Int) > 0) by decide, if_false]
          omega
        refine ⟨_, [_], _, _, H1, rfl, I2.kept (t' := s1.toks) fun b o e => Heap.get?_push_of_some _ e, turn_rev _ n, ?_, fun b hb => ?_, q⟩
        · have e1 : (n : Int) - 1 + ((0 : Nat) : Int) * (-1) = (n : Int) - 1 := by simp
          have e2 : (n : Int) - ((0 : Nat) : Int) = n := by simp
          rw [e1, e2]
          have := Heap.get?_push_size (s1.heap.push { cls := .type "range", data := .fields #[.int ((n : Int) - 1) t, .int (-1) t', .int (-1) t''] }) (o := { cls := .type "range_iterator", data := .fields #[rawInt ((n : Int) - 1), rawInt (Builtin.Range.rangeSize ((n : Int) - 1) (-1) (-1)), rawInt (-1)] }) rfl
          rw [size_down] at this ⊢
          exact this
        · have e : b = (s1.heap.push { cls := .type "range", data := .fields #[.int ((n : Int) - 1) t, .int (-1) t', .int (-1) t''] }).objs.size := by simpa using hb
          subst e
          exact I2.fpOk (Nat.le_refl _) (I2.hok.fresh (Nat.le_refl _))
section
variable {σ : St} {H : Hp}
theorem st_rng3 {ta : TA} {R : It → Hp → Prop} (h : ta σ H fun vs H1 => ∃ n : Nat, vs = [.int ((n : Int) - 1), .int (-1), .int (-1)] ∧ (n : Int) < 2 ^ 62 ∧ R (Itv n) H1) : iRng3 ta σ H R := h
end
section
variable {prog : Program} {w : World} {A : Around} {E : Value → Shared → Prop} {s : Shared}
end
section
variable {σ : St} {H : Hp} {K : PySem.W.Frag}
end
section
variable {prog : Program} {w : World} {A : Around} {E : Value → Shared → Prop} {s : Shared}
end
end L2
namespace L2
open PySem PySem.Spec PyProof.Rows PySem.SeqAt
theorem intVals : ∀ {js : List Int} {us : List Value}, Vals (js.map V.int) us → ∃ ps : List (Int × Tok), us = ps.map (fun p => Value.int p.1 p.2) ∧ ps.map (·.1) = js
  | [], _, h => by cases h; exact ⟨[], rfl, rfl⟩
  | j :: js, _, h => by
    have h : Vals (V.int j :: js.map V.int) _ := h
    cases h with
    | cons r t =>
      obtain ⟨k, rfl⟩ := r
      obtain ⟨ps, rfl, e⟩ := intVals t
      exact ⟨(j, k) :: ps, rfl, by simp [e]⟩
section
variable {X : Cx}
def r_sum (K : PySem.W.Frag) : List V → Hp → VK → Prop := fun xs H Q => ∃ (p : Addr) (js : List Int), xs = [.ref p] ∧ SqL K H p (js.map V.int) ∧ ∀ j : Int, Q (.int j) H
theorem call_sumA (hc : X.calm = true) : CallR X (.builtin "sum") (r_sum X.K) := by
  intro pins s σ H xs us Q I r h
  obtain ⟨p, js, rfl, hq, q⟩ := h
  obtain ⟨u, rfl, ru⟩ := vals1 r
  cases ru
  obtain ⟨its, rv, pl, hz⟩ := I.list hq
  obtain ⟨ps, rfl, e⟩ := intVals rv
  have hl : s.heap.IsList p (intItems ps.toArray) := by
    have := pl.isList
    rw [show intItems ps.toArray = (ps.map (fun p => Value.int p.1 p.2)).toArray by unfold intItems; simp]
    exact this
  refine wpAny_with_toks (n := 1) I.tk (sum_intListG (I.ok.hd hc) hl fun h' tk t' hk ht => ?_)
  exact ⟨.int _, H, I.kept hk ht, ⟨_, rfl⟩, q _⟩
end
section
variable {H : Hp} {Q : VK} {K : PySem.W.Frag}
theorem v_sum {p : Addr} {js : List Int} (h : SqL K H p (js.map V.int)) (q : ∀ j : Int, Q (.int j) H) : r_sum K [.ref p] H Q := ⟨p, js, rfl, h, q⟩
theorem v_pop0 {p : Addr} {xs : List V} {y : V} (h1 : H p = some (.lst (y :: xs))) (h : Q y (upd H p (.lst xs))) : rPopAt (.ref p) [.int 0] H Q :=
  ⟨p, y :: xs, 0, 0, y, rfl, rfl, h1, by decide, by decide, by unfold seqIndex?; simp, rfl, h⟩
theorem v_extend {p b : Addr} {xs zs : List V} (h1 : H p = some (.lst xs)) (h2 : H b = some (.lst zs)) (hz : xs.length + zs.length ≤ sizeLine) (h : Q .non (upd H p (.lst (xs ++ zs)))) : rExtend (.ref p) [.ref b] H Q := ⟨p, b, xs, zs, rfl, rfl, h1, h2, hz, h⟩
theorem v_clear {p : Addr} {xs : List V} (h1 : H p = some (.lst xs)) (h : Q .non (upd H p (.lst []))) : rClear (.ref p) [] H Q := ⟨p, xs, rfl, rfl, h1, h⟩
end
def CDivW (i j : Int) : Prop := 0 < j ∧ j < 2 ^ 200
theorem op_fdivW {X : Cx} : OpR X (binaryOp .FloorDiv) (rI CDivW fun i j => .int (i / j)) := opI fun i j _ _ _ _ _ hc q => by
  have h1 : (0 : Int) < j := hc.1
  have h2 : j < 2 ^ 200 := hc.2
  refine floordiv_int (by omega) (by rw [Int.fdiv_eq_ediv_of_nonneg i (by omega)]; exact q) (.inl (PyProof.noPylong_of_log2 ?_))
  refine Nat.lt_trans ((Nat.log2_lt (by omega)).mpr (?_ : j.natAbs < 2 ^ 200)) (by decide)
  have : ((j.natAbs : Nat) : Int) < ((2 ^ 200 : Nat) : Int) := by
    rw [Int.natAbs_of_nonneg (by omega)]
    have e : ((2 ^ 200 : Nat) : Int) = (2 : Int) ^ 200 := by decide +kernel
    rw [e]; exact h2
  exact Int.ofNat_lt.mp this
theorem v_fdivW {H : Hp} {Q : VK} {i j : Int} (c : CDivW i j) (h : Q (.int (i / j)) H) : rI CDivW (fun i j => .int (i / j)) (.int i) (.int j) H Q := ⟨i, j, rfl, rfl, c, h⟩
theorem plain_ci : plainId "proto.contains_iter" = true := by decide +kernel
theorem entry_ci : entryFor table "proto.contains_iter" = some Builtin.«proto.contains_iter» := entryFor_of_fast (by kernel_rfl)
theorem vv_no_contains : typeLookup (.type "dict_values") "__contains__" = pure none := by rw [typeLookup_type, builtinLookup_eq_fast]; kernel_rfl
section
variable {prog : Program} {w : World} {A : Around} {E : Value → Shared → Prop} {s : Shared} {κ : Type} [DecidableEq κ] {knd : KeyKind prog w κ}
theorem code_ci {it d : Addr} {kvs : List (κ × Value)} {ep : Nat} {x : Int} {tx : Tok} {R : Result → Shared → Prop} {js : List Int} (hne : it ≠ d) (hh : A.in1.handled = none) (hj : ∀ (i : Nat) (k : κ) (v : Value), kvs[i]? = some (k, v) → ∃ (j : Int) (t : Tok), js[i]? = some j ∧ v = Value.int j t) (hl : js.length = kvs.length) :
    ∀ (m i : Nat) (s : Shared), kvs.length - i = m → i ≤ kvs.length → s.heap.IsValIter it d i kvs.length ep → s.heap.DictAt knd d kvs ep →
      (∀ h', Heap.ExtBut it s.heap h' → R (.ok (.ret (.bool (decide (x ∈ js.drop i))))) { s with heap := h' }) → codeAny (model prog w) A (.builtin "proto.contains_iter" ⟨[.ref it, .int x tx], []⟩) R s := by
  intro m
  induction m with
  | zero =>
    intro i s hm hi st hd hR
    refine codeAny_builtin entry_ci ?_
    rw [Around.under_plainId plain_ci _]
    show wpAny _ A.in1 (pyNext (.ref it) >>= _) _ _ s
    refine wpAny_bind (wpAny_pyNext_values_end hh st hd (by rw [List.getElem?_eq_none]; omega) fun h' hb => ?_)
    refine wpAny_bind (wpAny_rule (wpAny_pure ?_))
    have := hR h' hb
    rw [List.drop_eq_nil_of_le (by omega)] at this
    simpa using this
  | succ m ih =>
    intro i s hm hi st hd hR
    have hlt : i < kvs.length := by omega
    refine codeAny_builtin entry_ci ?_
    rw [Around.under_plainId plain_ci _]
    show wpAny _ A.in1 (pyNext (.ref it) >>= _) _ _ s
    obtain ⟨⟨k, v⟩, hkv⟩ : ∃ p, kvs[i]? = some p := ⟨_, List.getElem?_eq_getElem hlt⟩
    obtain ⟨j, t, ej, rfl⟩ := hj i k v hkv
    refine wpAny_bind (wpAny_pyNext_values_item st hd hkv fun h' st' sb => ?_)
    refine wpAny_bind (wpAny_eqBool_int ?_)
    have ed : js.drop i = j :: js.drop (i + 1) := by
      obtain ⟨hi', e⟩ := List.getElem?_eq_some_iff.mp ej
      rw [← e, ← List.drop_eq_getElem_cons]
    by_cases e : j = x
    · subst e
      rw [show (j == j) = true by simp, if_pos rfl]
      refine wpAny_bind (wpAny_rule (wpAny_pure ?_))
      have := hR h' sb.extBut
      rw [ed] at this
      simpa using this
    · rw [show (j == x) = false by simpa using e, if_neg (by decide)]
      refine wpAny_pure ⟨plainId_quiet plain_ci _, ih (i + 1) _ (by omega) hlt st' ?_ fun h'' hb => ?_⟩
      · obtain ⟨o, es, ho, r⟩ := hd
        exact ⟨o, es, sb.extBut d o (Ne.symm hne) ho, r⟩
      · have := hR h'' (fun b o hb' e' => hb b o hb' (sb.extBut b o hb' e'))
        rw [ed] at this
        have e' : ¬ x = j := fun z => e z.symm
        simpa [e'] using this
theorem wp_in_vals {v d : Addr} {kvs : List (κ × Value)} {ep : Nat} {x : Int} {tx : Tok} {js : List Int} {Q : Bool → Shared → Prop} (hh : A.in1.handled = none) (hv : s.heap.IsValuesView v d) (hd : s.heap.DictAt knd d kvs ep) (hj : ∀ (i : Nat) (k : κ) (v : Value), kvs[i]? = some (k, v) → ∃ (j : Int) (t : Tok), js[i]? = some j ∧ v = Value.int j t) (hl : js.length = kvs.length)
    (h : ∀ h', (∀ b o, s.heap.get? b = some o → h'.get? b = some o) → Q (decide (x ∈ js)) { s with heap := h' }) : wpAny (model prog w) A (contains (.ref v) (.int x tx)) Q E s := by
  unfold contains
  refine wpAny_holding ?_
  rw [stdlibNamesSay?_of_typeIs hv.typeIs]
  refine wpAny_bind (wpAny_specialOf hv.typeIs vv_no_contains ?_)
  show wpAny _ A (if ((none : Option Value) == some Value.none) = true then _ else _) Q E s
  rw [if_neg (by simp)]
  refine wpAny_bind (wpAny_callSpecialUnlessNone?_none hv.typeIs vv_no_contains ?_)
  refine wpAny_bind (wpAny_rule ?_)
  refine wpAny_bind (wpAny_tryCatch (wpAny_pyIter_values hv hd ?_))
  refine wpAny_bind (wpAny_runValue ?_)
  have dlt : d < s.heap.objs.size := by obtain ⟨o, es, ho, _⟩ := hd; exact Heap.lt_size ho
  refine code_ci (knd := knd) (js := js) (Nat.ne_of_gt dlt) hh hj hl _ 0 _ rfl (Nat.zero_le _) ⟨_, Heap.get?_push_size _ rfl, rfl, rfl⟩ ?_ fun h' hb => ?_
  · obtain ⟨o, es, ho, r⟩ := hd
    exact ⟨o, es, Heap.get?_push_of_some _ ho, r⟩
  · refine wpAny_pure ?_
    exact h h' fun b o e => hb b o (Nat.ne_of_lt (Heap.lt_size e)) (Heap.get?_push_of_some _ e)
end
section
variable {X : Cx} {e o : Expr} {apos cpos pos : Pos} {tx td : TE}
def tInV (neg : Bool) (tx td : TE) : TE := fun σ H Q => tx σ H fun x H1 => td σ H1 fun y H2 => ∃ (i : Int) (a : Addr) (kvs : List (Key × V)) (js : List Int), x = .int i ∧ y = .ref a ∧ H2 a = some (.dK kvs) ∧ kvs.map (·.2) = js.map V.int ∧ Q (.bl (if neg then !decide (i ∈ js) else decide (i ∈ js))) H2
theorem kv_ints : ∀ {kvs : List (Key × V)} {vs : List (Key × Value)} {js : List Int}, KV kvs vs → kvs.map (·.2) = js.map V.int → js.length = vs.length ∧ ∀ (i : Nat) (k : Key) (v : Value), vs[i]? = some (k, v) → ∃ (j : Int) (t : Tok), js[i]? = some j ∧ v = Value.int j t
  | [], vs, js, h, e => by
    cases h
    cases js with
    | nil => exact ⟨rfl, fun i k v h => by simp at h⟩
    | cons _ _ => cases e
  | (k0, v0) :: kvs, vs, js, h, e => by
    cases h with
    | cons r t =>
      rename_i q qs
      cases js with
      | nil => cases e
      | cons j js =>
        injection e with e1 e2
        obtain ⟨h1, h2⟩ := kv_ints t e2
        refine ⟨by simp [h1], fun i k v h => ?_⟩
        cases i with
        | zero =>
          have h : q = (k, v) := by simpa using h
          subst h
          obtain ⟨_, r⟩ := r
          have e1 : v0 = V.int j := e1
          rw [e1] at r
          obtain ⟨t, rfl⟩ := r
          exact ⟨j, t, rfl, rfl⟩
        | succ i => exact h2 i k v (by simpa using h)
theorem in_vals_go {pins : List (Addr × Obj)} {s : Shared} {σ : St} {H : Hp} {Q : Bool → Shared → Prop} (hc : X.calm = true) (I : Inv X pins σ H s) {i : Int} {t : Tok} {a : Addr} {kvs : List (Key × V)} {js : List Int} (e : H a = some (.dK kvs)) (ej : kvs.map (·.2) = js.map V.int)
    (q : ∀ s', Inv X pins σ H s' → Q (decide (i ∈ js)) s') : wpAny (model X.prog X.w) X.A (call (.builtin "dict.values") [.ref a]) (fun u s1 => wpAny (model X.prog X.w) X.A (contains u (.int i t)) Q X.xe s1) X.xe s := by
  obtain ⟨z, hm, vs, kv, dd⟩ := dk_of I.hok e
  obtain ⟨o, es, ep, ho, hx, hdat, hk, hp, hn⟩ := id dd
  refine call_meetsIn PySem.F.slot_dict_values dd.typeIs PySem.F.entry_dict_values (PySem.F.args_dict_values_1 _) (meets_dict_values (mixKind X.prog X.w) a hm) ⟨⟨vs, dd⟩, ?_⟩
  obtain ⟨h1, h2⟩ := kv_ints kv ej
  refine wp_in_vals (knd := mixKind X.prog X.w) (d := a) (kvs := vs) (ep := ep) (js := js) (show X.A.in1.handled = none from I.ok.hd hc) ⟨_, Heap.get?_push_size _ rfl, rfl, rfl⟩ ⟨o, es, Heap.get?_push_of_some _ ho, hx, hdat, hk, hp, hn⟩ h2 h1 fun h' hb => ?_
  exact q _ (I.kept (t' := s.toks) (h' := h') fun b o e => hb b o (Heap.get?_push_of_some _ e))
theorem isD_ty {K : PySem.W.Frag} {H : Hp} {a : Addr} {kvs : List (Key × V)} (e : H a = some (.dK kvs)) : tyV K "dict" (.ref a) H := .inr (.inr (.inl ⟨rfl, .inl ⟨kvs, e⟩⟩))
theorem pe_inV (hc : X.calm = true) (hx : PE X e tx) (ho : PE X o td) (hm : behindInMarks .In (.Call (.Attribute o "values" apos) [] [] cpos) = false := by with_unfolding_all rfl)
    (hbase : attributeBase o "values" X.env (eval o X.env) = eval o X.env := by rfl) (hline : (apos.endLine == cpos.line) = true := by rfl) : PE X (.Compare e [.In] [.Call (.Attribute o "values" apos) [] [] cpos] pos) (tInV false tx td) := by
  intro pins s σ H Q I h
  refine wpAny_Compare1 (thn (hx pins s σ H _ I h) fun v s1 ⟨x, H1, I1, r1, q1⟩ => ?_) hm
  refine wpAny_Call_method0_late hbase hline (thn (ho pins s1 σ H1 _ I1 q1) fun u s2 ⟨y, H2, I2, r2, i, a, kvs, js, ex, ey, ed, ej, q⟩ => ?_)
  subst ex ey
  obtain ⟨t, rfl⟩ := r1
  obtain ⟨h1, h2⟩ := tyV_is I2 r2 (isD_ty ed)
  cases r2
  refine ⟨"dict", _, PySem.F.plainAttrs_dict, PySem.F.slot_dict_values, PySem.F.type_dict_values, h1, h2, Calls.callWith_builtin rfl (PySem.evalArgs_none ?_)⟩
  exact thn (in_vals_go (Q := fun bb s' => EP X pins σ Q (.bool bb) s') hc I2 ed ej fun s' I' => ⟨.bl _, H2, I', rfl, q⟩) fun u s3 hu => wpAny_bind (wpAny_mono hu (fun bb s4 h4 => wpAny_pure h4) fun _ _ z => z)
theorem pt_notinV (hc : X.calm = true) (hx : PE X e tx) (ho : PE X o td) (hm : behindInMarks .NotIn (.Call (.Attribute o "values" apos) [] [] cpos) = false := by with_unfolding_all rfl)
    (hbase : attributeBase o "values" X.env (eval o X.env) = eval o X.env := by rfl) (hline : (apos.endLine == cpos.line) = true := by rfl) : PT X (.Compare e [.NotIn] [.Call (.Attribute o "values" apos) [] [] cpos] pos) (tTest (tInV true tx td)) := by
  intro pins s σ H Q I h
  refine wpAny_isTrue_Compare1 (thn (hx pins s σ H _ I h) fun v s1 ⟨x, H1, I1, r1, q1⟩ => ?_) hm
  refine wpAny_Call_method0_late hbase hline (thn (ho pins s1 σ H1 _ I1 q1) fun u s2 ⟨y, H2, I2, r2, i, a, kvs, js, ex, ey, ed, ej, kk, ek, q⟩ => ?_)
  subst ex ey
  obtain ⟨t, rfl⟩ := r1
  obtain ⟨h1, h2⟩ := tyV_is I2 r2 (isD_ty ed)
  cases r2
  refine ⟨"dict", _, PySem.F.plainAttrs_dict, PySem.F.slot_dict_values, PySem.F.type_dict_values, h1, h2, Calls.callWith_builtin rfl (PySem.evalArgs_none ?_)⟩
  exact thn (in_vals_go (Q := fun bb s' => TP X pins σ Q (!bb) s') hc I2 ed ej fun s' I' => ⟨H2, I', by injection ek with ek; subst ek; exact q⟩) fun u s3 hu => wpAny_bind (wpAny_mono hu (fun bb s4 h4 => wpAny_pure (wpAny_truthy_bool h4)) fun _ _ z => z)
end
section
variable {σ : St} {H : Hp} {Q : VK}
theorem st_dget {td ty : TE} (h : td σ H fun x H1 => ty σ H1 fun y H2 => ∃ a v, x = .ref a ∧ DGet H2 a y (some v) ∧ Q v H2) : tDGet td ty σ H Q := h
theorem st_inV {neg : Bool} {tx td : TE} (h : tx σ H fun x H1 => td σ H1 fun y H2 => ∃ (i : Int) (a : Addr) (kvs : List (Key × V)) (js : List Int), x = .int i ∧ y = .ref a ∧ H2 a = some (.dK kvs) ∧ kvs.map (·.2) = js.map V.int ∧ Q (.bl (if neg then !decide (i ∈ js) else decide (i ∈ js))) H2) : tInV neg tx td σ H Q := h
end
end L2
namespace L2
open PySem PySem.Spec PyProof.Rows PySem.SeqAt
section
variable {σ : St} {H : Hp} {Q : VK} {K : PySem.W.Frag}
theorem v_catH {a b : Addr} {xs ys : List V} (h1 : H a = some (.tup xs)) (h2 : H b = some (.tup ys)) (hz : xs.length + ys.length ≤ sizeLine) (h : ∀ p H', Same H H' → H' p = some (.tup (xs ++ ys)) → Q (.ref p) H') : rAddB K (.ref a) (.ref b) H Q := by
  by_cases hx : xs = []
  · subst hx
    exact .inr ⟨a, b, ys, rfl, rfl, SqT.of h1, SqT.of h2, h b H (fun _ _ e => e) h2⟩
  · refine .inl (.inr (.inr (.inr ⟨a, b, xs, ys, rfl, rfl, SqT.of h1, SqT.of h2, hx, hz, fun hy => ?_, fun hy p hp => h p _ (Same.new hp _) upd_same⟩)))
    subst hy
    exact h a H (fun _ _ e => e) (by rw [List.append_nil]; exact h1)
end
end L2
namespace L2
open PySem PySem.Spec PyProof.Rows PySem.SeqAt
section
variable {σ : St} {H : Hp} {Q : VK} {K : PySem.W.Frag}
end
section
variable {X : Cx}
end
section
variable {H : Hp} {Q : VK} {K : PySem.W.Frag}
end
end L2
namespace L2
open PySem PySem.Spec PyProof.Rows
section
variable {P : Program} {w : World} {H H' : Hp} {h h1 h2 : Heap} {a b T : Addr} {o : HO} {l : List Env}
theorem ObjOk.lies (x : ObjOk P w H h a o) : ∃ u, h.get? a = some u := by
  cases o with
  | lst xs => obtain ⟨_, _, _, _, e⟩ := x; exact ⟨_, e⟩
  | tup xs => obtain ⟨_, _, _, _, e, _⟩ := x; exact ⟨_, e⟩
  | dK kvs => obtain ⟨_, _, _, _, o, _, _, e, _⟩ := x; exact ⟨_, e⟩
  | dT kvs => obtain ⟨_, _, _, _, o, _, _, e, _⟩ := x; exact ⟨_, e⟩
  | set S n => obtain ⟨o, _, _, _, e, _⟩ := x; exact ⟨_, e⟩
  | ins C dx fs => obtain ⟨_, _, _, e, _⟩ := x; exact ⟨_, e⟩
  | own y => obtain ⟨_, e⟩ := x; exact ⟨_, e⟩
  | xd fs => obtain ⟨_, ⟨_, _, _, e, _⟩, _⟩ := x; exact ⟨_, e⟩
  | rng lo hi => obtain ⟨_, _, _, e⟩ := x; exact ⟨_, e⟩
  | frz ob u => obtain ⟨e, _⟩ := x; exact ⟨_, e⟩
  | tbl ps => exact ⟨_, (show h.get? a = some _ from x)⟩
  | met f y => exact ⟨_, (show h.get? a = some _ from x)⟩
  | ext φ => obtain ⟨_, ⟨_, e⟩, _⟩ := x; exact ⟨_, e⟩
theorem HOk.gone (x : HOk P w H h) (e : h.get? a = none) : H a = none := by
  cases q : H a with
  | none => rfl
  | some u =>
    obtain ⟨v, z⟩ := (x a u q).lies
    rw [e] at z; cases z
structure Aw (l : List Env) (a T : Addr) (h h' : Heap) : Prop where
  keep : ∀ b o, h.get? b = some o → b ≠ a → b ≠ T → b ∉ frs l → h'.get? b = some o
  slot : ∀ b o, h.get? b = some o → b ∈ frs l → ∃ sl, h'.get? b = some { o with slots := sl }
theorem Un.away (u : Un (frs l) [] H H' h h1) (na : h.get? a = none) (nT : h.get? T = none) (w : Aw l a T h1 h2) : Un (frs l) [] H H' h h2 := by
  have ne : ∀ {b o c}, h.get? b = some o → h.get? c = none → b ≠ c := fun e n z => by rw [z, n] at e; cases e
  refine ⟨fun b o q n hb hx => w.keep b o (u.keep b o q n hb hx) (ne q na) (ne q nT) hb, fun b o q n hb hx => ?_, u.free, fun b o q hx => ?_, u.tups, u.frzs, u.tbls⟩
  · obtain ⟨sl, e⟩ := u.slot b o q n hb hx
    obtain ⟨sl', e'⟩ := w.slot b _ e hb
    exact ⟨sl', e'⟩
  · obtain ⟨o', e⟩ := u.there b o q hx
    by_cases hb : b ∈ frs l
    · obtain ⟨sl, e'⟩ := w.slot b o' e hb
      exact ⟨_, e'⟩
    · exact ⟨o', w.keep b o' e (ne q na) (ne q nT) hb⟩
theorem HOk.away (x : HOk P w H h1) (nf : ∀ b ∈ frs l, H b = none) (na : H a = none) (nT : H T = none) (y : Aw l a T h1 h2) : HOk P w H h2 := fun b u e => by
  have ne : ∀ {b o c}, H b = some o → H c = none → b ≠ c := fun e n z => by rw [z, n] at e; cases e
  refine (x b u e).stay (fun c v hc q => ?_) (fun _ q => q) fun _ _ q => q
  have hs : ∃ o, H c = some o := by
    rcases hc with rfl | hc
    · exact ⟨_, e⟩
    · exact ⟨_, hc⟩
  obtain ⟨o, e'⟩ := hs
  exact y.keep c v q (ne e' na) (ne e' nT) fun hb => by rw [nf c hb] at e'; cases e'
theorem ff_of {base B : Heap} : ∀ {l : List Env}, h.FunFrames base l → (∀ b ∈ frs l, B.get? b = none) → (∀ b o, h.get? b = some o → b ∈ frs l → ∃ sl, h1.get? b = some { o with slots := sl }) → h1.FunFrames B l := by
  intro l
  induction l with
  | nil => intro _ _ _; trivial
  | cons env r ih =>
    intro hl hB hs
    obtain ⟨hk, ⟨L, o, hf, hn, ho, hd⟩, hr⟩ := hl
    have sub : ∀ b ∈ frs r, b ∈ frs (env :: r) := fun b hb => by unfold frs; rw [List.filterMap_cons, hf]; exact List.mem_cons_of_mem _ hb
    have hL : L ∈ frs (env :: r) := by unfold frs; rw [List.filterMap_cons, hf]; exact List.mem_cons_self
    obtain ⟨sl, e⟩ := hs L o ho hL
    exact ⟨hk, ⟨L, _, hf, hB L hL, e, hd⟩, ih hr (fun b hb => hB b (sub b hb)) fun b o q hb => hs b o q (sub b hb)⟩
structure Trc (h h' : Heap) (H : Hp) (a : Addr) (cls : Value) : Prop where
  new : h.get? a = none
  nH : H a = none
  ex : ∃ oe vs a0 T oT ts, h'.get? a = some oe ∧ oe.cls = cls ∧ vs[0]? = some a0 ∧ oe.data = Data.fields vs ∧ vs[1]? = some (Value.ref T) ∧ T ≠ a ∧ h'.get? T = some oT ∧ oT.data = Data.fields ts ∧ ts[3]? = some Value.none ∧ h.get? T = none ∧ H T = none
def Fly (P : Program) (w : World) : CXT := fun outer H s E e s' =>
  ∃ a cls H', e = Value.ref a ∧ 0 < s'.toks ∧ s'.os = s.os ∧ AllBare s'.gens ∧ Un (frs outer) [] H H' s.heap s'.heap ∧ HOk P w H' s'.heap ∧ Trc s.heap s'.heap H' a cls ∧ E cls none H'
abbrev hidX (h : Heap) (a T : Addr) (l : List Env) : Heap := PySem.W.hideAll h (a :: T :: frs l)
theorem hidX_stays (h : Heap) (a T : Addr) (l : List Env) : (hidX h a T l).StaysIn h := fun b o e => PySem.W.of_hideAll _ e
theorem hidX_a : (hidX h a T l).get? a = none := PySem.W.hideAll_none _ (by simp)
theorem hidX_T : (hidX h a T l).get? T = none := PySem.W.hideAll_none _ (by simp)
theorem hidX_fr : ∀ b ∈ frs l, (hidX h a T l).get? b = none := fun b hb => PySem.W.hideAll_none _ (by simp [hb])
theorem aw_of (hs : (hidX h a T l).StaysIn h2) (hf : ∀ b o, h.get? b = some o → (∀ vs : Array Value, o.data ≠ Data.fields vs) → ∃ sl, h2.get? b = some { cls := o.cls, dict := o.dict, data := o.data, slots := sl })
    {base : Heap} (ff : h.FunFrames base l) : Aw l a T h h2 := by
  refine ⟨fun b o e n1 n2 n3 => hs b o (PySem.W.hideAll_get _ e (by simp [n1, n2, n3])), fun b o e hb => ?_⟩
  obtain ⟨_, o', e', d⟩ := ff.mem hb
  rw [e] at e'; cases e'
  exact hf b _ e d
theorem trc_of {cls a0 : Value} {h0 base : Heap} (new : h0.get? a = none) (nH : H a = none) (nT0 : h0.get? T = none) (nT : H T = none) (hu : ∀ b o, h0.get? b = some o → ∃ o', h.get? b = some o') (hok : HOk P w H h)
    (ff : h2.FunFrames base l) (t : h2.TracedW (hidX h a T l) a cls a0) : Trc h0 h2 H a cls := by
  obtain ⟨oe, vs, T', oT, ts, e1, ⟨e2, e3⟩, e4, e5, e6, e7, e8, e9, e10⟩ := t
  have q : h0.get? T' = none ∧ H T' = none := by
    by_cases z : T' = T
    · rw [z]; exact ⟨nT0, nT⟩
    · have hb : T' ∉ frs l := fun hb => by
        obtain ⟨_, o, eo, d⟩ := ff.mem hb
        rw [e8] at eo; cases eo
        exact d _ e9
      have hh : h.get? T' = none := by
        cases q : h.get? T' with
        | none => rfl
        | some u =>
          have := PySem.W.hideAll_get (a :: T :: frs l) q (by simp [z, e7, hb])
          rw [e6] at this; cases this
      refine ⟨?_, hok.gone hh⟩
      cases q : h0.get? T' with
      | none => rfl
      | some u =>
        obtain ⟨_, r⟩ := hu _ _ q
        rw [hh] at r; cases r
  exact ⟨new, nH, oe, vs, a0, T', oT, ts, e1, e2, e3, e4, e5, e7, e8, e9, e10, q.1, q.2⟩
end
section
variable {X : Cx} {pins : List (Addr × Obj)} {σ : St} {H H' : Hp} {s s' : Shared} {a : Addr} {cls : Value} {E : XK}
theorem stk_none (I : Inv X pins σ H s) {h' : Heap} (u : Un (frs X.stack) [] H H' s.heap h') : ∀ b ∈ frs X.stack, H' b = none := fun b hb => by
  obtain ⟨_, o, e, _⟩ := I.stack.mem hb
  exact u.free b o e (I.stkFree b hb) (by simp)
theorem stk_ff (I : Inv X pins σ H s) {h' B : Heap} (u : Un (frs X.stack) [] H H' s.heap h') (hB : ∀ b ∈ frs X.stack, B.get? b = none) : h'.FunFrames B X.stack :=
  ff_of I.stack hB fun b o e hb => u.slot b o e (I.stkFree b hb) hb (by simp)
theorem Inv.landed {h2 : Heap} {T : Addr} {g : Array GenState} {d : Drawn} {t : Nat} (I : Inv X pins σ H s) (u : Un (frs X.stack) [] H H' s.heap s'.heap) (hok : HOk X.prog X.w H' s'.heap) (hg : AllBare g) (ht : 0 < t)
    (na : s.heap.get? a = none) (nT : s.heap.get? T = none) (ha : H' a = none) (hT : H' T = none) (w : Aw X.stack a T s'.heap h2) : Inv X pins σ H' { s with heap := h2, gens := g, drawn := d, toks := t } :=
  I.call (ch := []) (u.away na nT w) (hok.away (stk_none I u) ha hT w) hg (fun b z => absurd z (by simp)) ht
def Throws (X : Cx) (E : XK) : Prop := ∀ (pins : List (Addr × Obj)) (σ : St) (H : Hp) (s : Shared) (h' : Heap) (a : Addr) (cls : Value) (vs : List Value), Inv X pins σ H s → s.heap.MadeExcOf h' a cls vs → E cls none H → X.xe (.ref a) { s with heap := h' }
theorem fly_first {Q' : Value → Shared → Prop} {h' : Heap} {vs : List Value} (hst : X.stack = X.env :: X.outer) (hex : X.ex = []) (hf : X.env.frame = some X.env.locals) (I : Inv X pins σ H s) (m : s.heap.MadeExcOf h' a cls vs) (hE : E cls none H) :
    wpAny (model X.prog X.w) X.A (leaving X.env (.ref a)) (fun _ s'' => Fly X.prog X.w X.outer X.H₀ X.s₀ E (.ref a) s'') Q' { s with heap := h' } := by
  obtain ⟨t, e1, e2, e3⟩ := m.there
  have u : Un (frs X.stack) [] H H s.heap h' := Un.kept m.keeps
  have ff : h'.FunFrames (hidX h' a a X.stack) X.stack := stk_ff I u hidX_fr
  have hok : HOk X.prog X.w H h' := I.hok.kept m.keeps
  have na : H a = none := I.hok.gone m.new
  refine wpAny_leaving_firstW (base := hidX h' a a X.stack) (outer := X.outer) (L := X.env.locals) (a0 := Value.ref t) (by rw [I.ok.frames, hst]) (by rw [← hst]; exact ff) hf e1 (hidX_stays _ _ _ _) hidX_a rfl rfl rfl fun h2 L => ?_
  rw [← hst] at L
  obtain ⟨L1, L2, L3, L4⟩ := L
  have aw : Aw X.stack a a h' h2 := aw_of L1 L4 ff
  have J : Inv X pins σ H { s with heap := h2, gens := s.gens, drawn := s.drawn, toks := s.toks } := I.landed (s' := { s with heap := h' }) u hok I.bare I.tk m.new m.new na na aw
  have hs0 : ∀ b o, X.s₀.heap.get? b = some o → ∃ o', s.heap.get? b = some o' := fun b o e => I.base.there b o e (by rw [hex]; simp)
  have new0 : X.s₀.heap.get? a = none := by
    cases q : X.s₀.heap.get? a with
    | none => rfl
    | some o => obtain ⟨_, r⟩ := hs0 a o q; rw [m.new] at r; cases r
  refine ⟨a, cls, H, rfl, I.tk, I.os, I.bare, ?_, J.hok, trc_of new0 na new0 na (fun b o e => ?_) hok L2 L3, hE⟩
  · have := J.base; rw [hex] at this; exact this
  · obtain ⟨o', r⟩ := hs0 b o e
    exact ⟨o', m.keeps b o' r⟩
theorem fly_next {Q' : Value → Shared → Prop} {e : Value} (hst : X.stack = X.env :: X.outer) (hex : X.ex = []) (hf : X.env.frame = some X.env.locals) (I : Inv X pins σ H s) (F : Fly X.prog X.w X.stack H s E e s') :
    wpAny (model X.prog X.w) X.A (leaving X.env e) (fun _ s'' => Fly X.prog X.w X.outer X.H₀ X.s₀ E e s'') Q' s' := by
  obtain ⟨a, cls, H', rfl, tk, os, bare, u, hok, tr, hE⟩ := F
  obtain ⟨oe, vs, a0, T, oT, ts, e1, e2, e3, e4, e5, e6, e7, e8, e9, e10, e11⟩ := tr.ex
  have ff : s'.heap.FunFrames (hidX s'.heap a T X.stack) X.stack := stk_ff I u hidX_fr
  refine wpAny_leaving_nextW (base := hidX s'.heap a T X.stack) (outer := X.outer) (L := X.env.locals) (cls := cls) (a0 := a0) (by rw [I.ok.frames, hst]) (by rw [← hst]; exact ff) hf ⟨oe, vs, T, oT, ts, e1, ⟨e2, e3⟩, e4, e5, hidX_T, e6, e7, e8, e9⟩ (hidX_stays _ _ _ _) hidX_a fun h2 L => ?_
  rw [← hst] at L
  obtain ⟨L1, L2, L3, L4⟩ := L
  have aw : Aw X.stack a T s'.heap h2 := aw_of L1 L4 ff
  have J : Inv X pins σ H' { s with heap := h2, gens := s'.gens, drawn := s'.drawn, toks := s'.toks } := I.landed u hok bare tk tr.new e10 tr.nH e11 aw
  have hs0 : ∀ b o, X.s₀.heap.get? b = some o → ∃ o', s.heap.get? b = some o' := fun b o e => I.base.there b o e (by rw [hex]; simp)
  have new0 : ∀ c, s.heap.get? c = none → X.s₀.heap.get? c = none := fun c n => by
    cases q : X.s₀.heap.get? c with
    | none => rfl
    | some o => obtain ⟨_, r⟩ := hs0 c o q; rw [n] at r; cases r
  refine ⟨a, cls, H', rfl, tk, os.trans I.os, bare, ?_, J.hok, trc_of (new0 a tr.new) tr.nH (new0 T e10) e11 (fun b o e => ?_) hok L2 L3, hE⟩
  · have := J.base; rw [hex] at this; exact this
  · obtain ⟨o', r⟩ := hs0 b o e
    exact u.there b o' r (by simp)
end
section
variable {P : Program} {w : World} {K : PySem.W.Frag} {mg : Str → Option Value} {base : Heap} {N : List Str} {qual : Str} {scope : Scope} {f : Addr} {cd : Value} {A : Around} {outer : List Env} {s : Shared} {H : Hp} {E : XK}
theorem throws_cx : Throws (cxOf (Fly P w) P w K mg base N qual scope f cd A outer s H E) E := fun pins σ H1 s1 h' a cls vs I m hE =>
  fly_first (X := cxOf (Fly P w) P w K mg base N qual scope f cd A outer s H E) rfl rfl rfl I m hE
theorem passes_cx : Passes (Fly P w) (cxOf (Fly P w) P w K mg base N qual scope f cd A outer s H E) E := fun pins σ H1 s1 e s' I F =>
  fly_next (X := cxOf (Fly P w) P w K mg base N qual scope f cd A outer s H E) rfl rfl rfl I F
theorem own_cx : PassesOwn (model P w) (cxOf (Fly P w) P w K mg base N qual scope f cd A outer s H E).A (cxOf (Fly P w) P w K mg base N qual scope f cd A outer s H E).env (cxOf (Fly P w) P w K mg base N qual scope f cd A outer s H E).xe :=
  PassesOwn.leaving
theorem Fun.okX {x : Str} {st : Stmt} {fd : FuncData} {ps : List Str} {k : Nat} {sp : Sp} (F : Fun K x qual st f fd) (S : FnScope N ps (defScope st)) (len : ∀ vs H Q E, sp vs H Q E → vs.length = ps.length)
    (hbody : ∀ (cdv : Value) (A : Around) (outer : List Env) (s : Shared) (H : Hp) (vs : List V) (Q : VK) (E : XK), Room k (A.deeper (envOfC qual (defScope st) s.heap.objs.size f cdv)) → sp vs H Q E →
      ∃ t, PSs (cxOf (Fly P w) P w K mg base N qual (defScope st) f cdv A outer s H E) (defBody st) t ∧ t { nx := fun _ H' => Q .non H', rt := Q } (start N vs) H) : FnOk P w K mg base (Fly P w) (k + 1) f fd ps sp := by
  obtain ⟨oc, od, kV, doc, pm, an, cdv, ct, osl, rfl, lk, hcd⟩ := F.ex
  exact fn_of lk hcd S len fun A outer s H vs Q E hr hsp => hbody cdv A outer s H vs Q E hr hsp
end
end L2
namespace L2
open PySem PySem.Spec PyProof.Rows
abbrev bmV : List Value := [Value.type "ValueError", Value.type "Exception", Value.type "BaseException", Value.type "object"]
structure OwnX (K : PySem.W.Frag) (mg : Str → Option Value) (x : Str) (C : Addr) : Prop where
  mx : mg x = some (.ref C)
  ix : PySem.W.excIn K C bmV "ValueError.__new__" = true
theorem exc_cls {K : PySem.W.Frag} {h : Heap} {C : Addr} {bmB : List Value} {newId : String} (X : K.In h) (q : PySem.W.excIn K C bmB newId = true) :
    ∃ bm N nm qn bs hd sn sub ab col dd k0 k1 k2 k3 k5 mN, h.get? C = some (excClassObj nm qn C N bs bm hd sn sub ab col dd k0 k1 k2 k3 k5 newId) ∧ h.Ns N mN ∧ mN "__init__" = none ∧ OwnTail h bmB bm := by
  revert q
  unfold PySem.W.excIn
  split
  next dd cd sl ho =>
    split
    next C' bm k0 k1 k2 k3 n k5 hm hs =>
      intro q
      simp only [Bool.and_eq_true, beq_iff_eq, Bool.not_eq_true'] at q
      obtain ⟨⟨⟨⟨⟨q1, q2⟩, q3⟩, q4⟩, q5⟩, q6⟩ := q
      subst q1 q2
      cases cd
      simp only at hm q3 q5 q6
      subst hm q3
      obtain ⟨sl⟩ := sl
      simp only at hs
      subst hs
      exact ⟨bm, _, _, _, _, _, _, _, _, _, dd, k0, k1, k2, k3, k5, _, X _ _ ho, .of_isNs (PySem.W.isNs_of_in X q5), PySem.W.nsMap_none_of_in X q5 q6, PySem.W.tail_of_in X q4⟩
    next => intro q; cases q
  next => intro q; cases q
section
variable {X : Cx} {C : Addr} {x : Str} {np cpos pos : Pos} {e₀ : Expr} {es : List Expr} {t : TA} {E : XK}
def tRaise (C : Addr) (E : XK) (t : TA) : TS := fun _ σ H => t σ H fun vs H1 => vs.length ≤ sizeLine ∧ E (.ref C) none H1
theorem ps_raise (hx : Throws X E) (hg : Gl X x) (O : OwnX X.K X.mg x C) (hc : X.calm = true) (ha : PA X (e₀ :: es) t)
    (hdb : (x == ("__debug__" : Str)) = false := by decide) (he : starEach (e₀ :: es) X.env = (false, eval e₀ X.env) :: starEach es X.env := by rfl) (hpl : (backTo cpos (starEach es X.env)).any (·.1) = false := by rfl) :
    PS X (.Raise (some (.Call (.Name x np) (e₀ :: es) [] cpos)) none pos) (tRaise C E t) := by
  intro pins s σ H D I h
  obtain ⟨bm, N, nm, qn, bs, hd, sn, sub, ab, col, dd, k0, k1, k2, k3, k5, mN, c1, c2, c3, c4⟩ := exc_cls I.ok.mod.kin O.ix
  refine wpAny_Raise_call_subT (k5 := k5) (k3 := k3) (k2 := k2) (k1 := k1) (k0 := k0) (dd := dd) (col := col) (ab := ab) (sub := sub) (sn := sn) (hdct := hd) (bs := bs) (nm := nm) (q := qn) (C := C) (N := N) (bm := bm) (mN := mN) F.excBase_ValueError (c4.hasType F.excBase_ValueError.hasBase) (I.ok.hd hc) (by rw [he]; show (false || (backTo cpos (starEach es X.env)).any (·.1)) = false; rw [hpl]; rfl) c3 (ld_glob I hg O.mx ⟨rfl, ?_⟩ hdb)
  have A := ha cpos pins s σ H _ I h
  rw [he] at A ⊢
  refine Calls.evalArgs_plain (thn A fun us s1 ⟨vs, H1, I1, r, q1, q2⟩ => ?_)
  exact ⟨rfl, by rw [← r.length]; exact q1, I1.bk _ _ c1, c2.keeps I1.bk, c4.keeps I1.bk, fun h' a m => hx pins σ H1 s1 h' a _ us I1 m q2⟩
end
abbrev Cx.held (X : Cx) (a : Addr) (E : Value → Shared → Prop) : Cx := { X with A := X.A.mark (some (.ref a)), calm := false, xe := E }
theorem Cx.Ok.held {X : Cx} (ok : X.Ok) (a : Addr) (E : Value → Shared → Prop) : (X.held a E).Ok :=
  ⟨ok.mod, ok.kind, ok.glob, ok.blt, ok.above, ok.inj, ok.has, ok.cab, (fun z => Bool.noConfusion z), ok.frames, ok.stk, ok.exf, ok.bs, ok.bsz, ok.noex, ok.exfs, ok.funs, ok.frf⟩
section
variable {X : Cx} {pins : List (Addr × Obj)} {σ : St} {H : Hp} {s : Shared} {E : Value → Shared → Prop} {a : Addr}
theorem Inv.held (I : Inv X pins σ H s) (a : Addr) (E : Value → Shared → Prop) : Inv (X.held a E) pins σ H s := ⟨I.ok.held a E, I.os, I.bare, I.base, I.loc, I.cell, I.free, I.freeC, I.pin, I.hok, I.len, I.tk⟩
theorem Inv.unheld (ok : X.Ok) (I : Inv (X.held a E) pins σ H s) : Inv X pins σ H s := ⟨ok, I.os, I.bare, I.base, I.loc, I.cell, I.free, I.freeC, I.pin, I.hok, I.len, I.tk⟩
theorem SP.unheld {D : Ends} {f : Flow} {s' : Shared} (ok : X.Ok) (h : SP (X.held a E) pins D f s') : SP X pins D f s' := by
  cases f with
  | next => obtain ⟨σ', H', I, q⟩ := h; exact ⟨σ', H', I.unheld ok, q⟩
  | brk => obtain ⟨σ', H', I, q⟩ := h; exact ⟨σ', H', I.unheld ok, q⟩
  | cont => obtain ⟨σ', H', I, q⟩ := h; exact ⟨σ', H', I.unheld ok, q⟩
  | ret u => obtain ⟨v, σ', H', I, r, q⟩ := h; exact ⟨v, σ', H', I.unheld ok, r, q⟩
end
def PX (X : Cx) (e : Expr) (t : XK → TE) : Prop :=
  ∀ (pins : List (Addr × Obj)) (s : Shared) (σ : St) (H : Hp) (Q : VK) (E : XK) (xe' : Value → Shared → Prop), Inv X pins σ H s → (∀ H1 s1 e s2, Inv X pins σ H1 s1 → Fly X.prog X.w X.stack H1 s1 E e s2 → xe' e s2) → t E σ H Q →
    wpAny (model X.prog X.w) X.A (eval e X.env) (EP X pins σ Q) xe' s
section
variable {X : Cx} {k : Nat} {f C D : Addr} {fd : FuncData} {ps : List Str} {sp : Sp} {dvs : List V} {ds : List Value} {x : Str} {p pos cpos : Pos} {e : Expr} {es : List Expr} {t : TA}
theorem px_call (F : FnOk X.prog X.w X.K X.mg X.base (Fly X.prog X.w) k f fd ps sp) (hr : Room k X.A) (hg : Gl X x) (hm : X.mg x = some (.ref f)) (hk : PySem.W.keepIn X.K (.ref f) = true) (hb : Binds X.K fd ps ds) (hd : Vals dvs ds)
    (ha : ∀ xe', PA (X.wish xe') (e :: es) t) (hdb : (x == ("__debug__" : Str)) = false := by decide) (he : starEach (e :: es) X.env = (false, eval e X.env) :: starEach es X.env := by rfl) (hpl : (backTo pos (starEach es X.env)).any (·.1) = false := by rfl) :
    PX X (.Call (.Name x p) (e :: es) [] pos) (fun E => tCall sp dvs E t) := by
  intro pins s σ H Q E xe' I hx h
  refine wpAny_Call_Name_kw (ld_glob I hg hm ?_ hdb)
  refine PySem.W.callWith_K (h₀ := X.base) I.ok.mod.kin hk (thn (ha xe' pos pins s σ H _ (I.wish xe') h) fun us s1 ⟨vs, H1, I1, r, q⟩ => ⟨I1.kIn, ?_⟩) he hpl
  have J := I1.unwish
  have r2 : Vals (vs ++ dvs) (us ++ ds) := r.append hd
  have hl : (us ++ ds).length = ps.length := by rw [← r2.length]; exact F.len _ _ _ _ q
  refine wpAny_call (codeAny_mono (F.run X.A X.stack s1 H1 ⟨us, []⟩ (us ++ ds) (vs ++ dvs) Q E hr J.env0 (hb s1 us J.kIn hl) r2 q) fun r s' hq => ?_)
  cases r with
  | error e => exact hx H1 s1 e s' J hq
  | ok fl =>
    cases fl with
    | ret u => exact J.after hq
    | next => exact False.elim hq
    | brk => exact False.elim hq
    | cont => exact False.elim hq
theorem lands {pins : List (Addr × Obj)} {σ : St} {H : Hp} {s s' : Shared} {E : XK} {e : Value} {hs : List ExceptHandler} {Q : Flow → Shared → Prop} {E' : Value → Shared → Prop} (hst : X.stack = X.env :: X.outer) (hf : X.env.frame = some X.env.locals)
    (I : Inv X pins σ H s) (F : Fly X.prog X.w X.stack H s E e s')
    (k : ∀ a cls H' s2, e = .ref a → s.heap.get? a = none → E cls none H' → Inv X pins σ H' s2 → (∃ oe, s2.heap.get? a = some oe ∧ oe.cls = cls) →
      (∀ (A : Around) (E2 : Value → Shared → Prop) (Q2 : Unit → Shared → Prop), (∀ s3, Inv X pins σ H' s3 → (∃ oe, s3.heap.get? a = some oe ∧ oe.cls = cls ∧ ∃ vs, oe.data = Data.fields vs) → H' a = none → Q2 () s3) → wpAny (model X.prog X.w) A (setFlight (.ref a) none) Q2 E2 s2) →
      wpAny (model X.prog X.w) X.A (handleBy (.ref a) X.env hs) Q E' s2) :
    wpAny (model X.prog X.w) X.A (noteFrame e X.env) (fun _ s₂ => wpAny (model X.prog X.w) X.A (setFlight e none) (fun _ s₃ => wpAny (model X.prog X.w) X.A (handleBy e X.env hs) Q E' s₃) E' s₂) E' s' := by
  obtain ⟨a, cls, H', rfl, tk, os, bare, u, hok, tr, hE⟩ := F
  obtain ⟨oe, vs, a0, T, oT, ts, e1, e2, e3, e4, e5, e6, e7, e8, e9, e10, e11⟩ := tr.ex
  have ff : s'.heap.FunFrames (hidX s'.heap a T X.stack) X.stack := stk_ff I u hidX_fr
  have W : (hidX s'.heap a T X.stack).FlyingW X.stack a cls a0 s'.heap := ⟨hidX_stays _ _ _ _, hidX_a, ff, oe, vs, T, oT, ts, e1, ⟨e2, e3⟩, e4, e5, hidX_T, e6, e7, e8, e9⟩
  have inv : ∀ {h2 : Heap}, (hidX s'.heap a T X.stack).FlyingW X.stack a cls a0 h2 → s'.heap.UpToSlots h2 → Inv X pins σ H' { s' with heap := h2 } := fun {h2} W2 U2 => by
    have aw : Aw X.stack a T s'.heap h2 := aw_of W2.1 U2 ff
    have J := I.landed (g := s'.gens) (d := s'.drawn) (t := s'.toks) u hok bare tk tr.new e10 tr.nH e11 aw
    obtain ⟨hh, g, d, t, os'⟩ := s'
    obtain rfl : os' = s.os := os
    exact J
  refine wpAny_looks_onW (base := hidX s'.heap a T X.stack) (outer := X.outer) (by rw [I.ok.frames, hst]) hf (by rw [← hst]; exact W) fun h1 W1 U1 => ?_
  refine wpAny_landsW W1 fun h2 W2 U2 => ?_
  rw [← hst] at W2
  have U12 := U1.trans U2
  refine k a cls H' _ rfl tr.new hE (inv W2 U12) ?_ fun A E2 Q2 hQ => lands_againW W2 fun h3 W3 U3 => hQ _ (inv W3 (U12.trans U3)) ?_ tr.nH
  · obtain ⟨oe', vs', T', oT', ts', f1, ⟨f2, f3⟩, _⟩ := W2.2.2.2
    exact ⟨oe', f1, f2⟩
  · obtain ⟨oe', vs', T', oT', ts', f1, ⟨f2, f3⟩, f4, _⟩ := W3.2.2.2
    exact ⟨oe', f1, f2, vs', f4⟩
end
end L2
namespace L2
open PySem PySem.Spec PyProof.Rows
structure ExcK (K : PySem.W.Frag) (C : Addr) : Prop where
  ga : PySem.W.findIn K (.ref C) "__getattribute__" = some (some (.builtin "BaseException.__getattribute__"))
  gn : PySem.W.findIn K (.ref C) "__getattr__" = some none
  cl : PySem.W.findIn K (.ref C) "__class__" = some (some (.builtin "object.__class__"))
  bx : PySem.W.subIn K (.ref C) (.type "BaseException") = some true
  ob : PySem.W.subIn K (.ref C) (.type "object") = some true
section
variable {prog : Program} {w : World} {A : Around} {E : Value → Shared → Prop} {h : Heap} {g : Array GenState} {d : Drawn} {t : Nat} {os : OsState} {a C : Addr} {o : Obj} {K : PySem.W.Frag}
theorem xcls_get {R : Result → Shared → Prop} (X : K.In h) (Z : ExcK K C) (hx : h.get? a = some o) (hc : o.cls = .ref C) (hq : R (.ok (.ret (.ref C))) ⟨h, g, d, t, os⟩) :
    codeAny (model prog w) A (.call (.builtin "getset_descriptor.__get__") ⟨[.builtin "object.__class__", .ref a, .ref C], []⟩) R ⟨h, g, d, t, os⟩ := by
  have hT5 : (⟨h, g, d, t, os⟩ : Shared).TypeIs (.builtin "object.__class__") "getset_descriptor" := F.typeOf_object_class
  have L := PySem.W.looks_subIn (M := model prog w) X Z.ob
  rw [← F.owner_object_class] at L
  refine codeAny_call_builtin F.slot_gs_get.plain F.entry_gs_get (F.slot_gs_get.check _ _ _ _ _ _ _ _ hT5 (F.args_gs_get _ _ _) ?_)
  repeat (any_goals (first | assumption | (with_reducible refine wpAny_loadPart_at hx ?_; rw [hc]) | with_reducible refine L.at ?_ | wp_step))
  refine ⟨Code.quiet_builtin _ (by decide +kernel), codeAny_builtin F.entry_object_class ?_⟩
  repeat (any_goals (first | assumption | (with_reducible refine wpAny_loadPart_at hx ?_; rw [hc]) | wp_step))
theorem xcls_check {M : Model} {nameV : Value} {Q : Unit → Shared → Prop} (X : K.In h) (Z : ExcK K C) (hx : h.get? a = some o) (hc : o.cls = .ref C) (hq : Q () ⟨h, g, d, t, os⟩) :
    wpAny M A (checkBuiltinCall "BaseException.__getattribute__" ⟨[.ref a, nameV], []⟩) Q E ⟨h, g, d, t, os⟩ := by
  have hk : builtinKind "BaseException.__getattribute__" = some .slot := by decide +kernel
  have hs : splitId "BaseException.__getattribute__" = some ("BaseException", "__getattribute__") := by decide +kernel
  have L := PySem.W.looks_subIn (M := M) X Z.bx
  have ha := F.args_bexc_ga (.ref a) nameV
  simp only [checkBuiltinCall, hk, hs]
  refine wpAny_bind ?_
  · unfold isInstance
    repeat (first | (with_reducible refine wpAny_loadPart_at hx ?_; rw [hc]) | with_reducible refine L.at ?_ | wp_step)
    exact hq
theorem xcls_entry {tk : Tok} {Q : Fin → Shared → Prop} (X : K.In h) (Z : ExcK K C) (hx : h.get? a = some o) (hc : o.cls = .ref C) (hq : Q (.done (.ret (.ref C))) ⟨h, g, d, t, os⟩) :
    wpAny (model prog w) A (Builtin.«object.__getattribute__» ⟨[.ref a, .str "__class__" tk], []⟩) Q E ⟨h, g, d, t, os⟩ := by
  have hT5 : (⟨h, g, d, t, os⟩ : Shared).TypeIs (.builtin "object.__class__") "getset_descriptor" := F.typeOf_object_class
  have f5 := F.typeOf_object_class
  have f6 := F.slot_gs_get.lookup
  have f7 := F.slot_gs_set.lookup
  have L := PySem.W.looks_findIn (M := model prog w) X Z.cl
  repeat (any_goals (first | assumption | (with_reducible refine wpAny_loadPart_at hx ?_; rw [hc]) | with_reducible refine L.at ?_ | wp_step))
  refine xcls_get X Z hx hc ?_
  repeat (any_goals (first | assumption | wp_step))
theorem xcls_call {B : String} {tk : Tok} {R : Result → Shared → Prop} (FB : ExcAttrFacts B) (X : K.In h) (Z : ExcK K C) (hx : h.get? a = some o) (hc : o.cls = .ref C) (hq : R (.ok (.ret (.ref C))) ⟨h, g, d, t, os⟩) :
    codeAny (model prog w) A (.call (.builtin "BaseException.__getattribute__") ⟨[.ref a, .str "__class__" tk], []⟩) R ⟨h, g, d, t, os⟩ :=
  codeAny_call_builtin FB.ga.plain F.entry_bexc_ga (xcls_check X Z hx hc (xcls_entry X Z hx hc hq))
theorem xcls_by {B : String} {tk : Tok} {Q : Value → Shared → Prop} (FB : ExcAttrFacts B) (X : K.In h) (Z : ExcK K C) (hx : h.get? a = some o) (hc : o.cls = .ref C) (hq : Q (.ref C) ⟨h, g, d, t, os⟩) :
    wpAny (model prog w) A (getAttrBy (.ref a) (.str "__class__" tk) false) Q E ⟨h, g, d, t, os⟩ := by
  have f3 := FB.ga.bind (.ref a)
  have hx0 : (false && onTheHeap (Value.builtin "BaseException.__getattribute__")) = false := rfl
  have hx2 : (Value.builtin "BaseException.__getattribute__" == Value.builtin "object.__getattribute__") = false := by decide +kernel
  have hx1 : (onTheHeap (Value.ref C) && Value.builtin "BaseException.__getattribute__" == Value.builtin "object.__getattribute__") = false := by rw [hx2]; rfl
  have L1 := PySem.W.looks_findIn (M := model prog w) X Z.ga
  have L2 := PySem.W.looks_findIn (M := model prog w) X Z.gn
  repeat (any_goals (first | assumption | (with_reducible refine wpAny_loadPart_at hx ?_; rw [hc]) | with_reducible refine L1.at ?_ | with_reducible refine L2.at ?_ | wp_step))
  refine xcls_call FB X Z hx hc ?_
  repeat (any_goals (first | assumption | wp_step))
theorem xcls_attr {B : String} {Q : Option Value → Shared → Prop} (FB : ExcAttrFacts B) (X : K.In h) (Z : ExcK K C) (hx : h.get? a = some o) (hc : o.cls = .ref C) (hq : Q (some (.ref C)) ⟨h, g, d, t + 1, os⟩) :
    wpAny (model prog w) A (getAttr? (.ref a) "__class__") Q E ⟨h, g, d, t, os⟩ := by
  unfold getAttr? getAttrBy?
  repeat (any_goals (first | assumption | with_reducible apply xcls_by FB X Z hx hc | wp_step))
end
section
variable {X : Cx} {pins : List (Addr × Obj)} {σ : St} {H : Hp} {s : Shared}
theorem gone_ok {M : Model} {A : Around} {E : Value → Shared → Prop} {i : Nat} {n : Str} {pos : Pos} {Q : Unit → Shared → Prop} (I : Inv X pins σ H s) (hN : X.N.Nodup) (hi : X.N[i]? = some n) (hk : X.env.scope.names.lookup n = some .local)
    (h : ∀ s', Inv X pins (σ.set i none) H s' → Q () s') : wpAny M A (do bindName X.env n .none; unbindBehindTheSuite X.env n pos) Q E s := by
  obtain ⟨m, hn, hl⟩ := id I.loc
  have hp : (X.env.scope.kind == .class || (X.env.scope.kind == .module && X.env.locals != X.env.globals)) = false := by rw [I.ok.kind]; rfl
  refine wpAny_nameGoes_keeps hk hn hp fun h' v hn' hs => h _ ?_
  have other : ∀ {b : Addr} {o : Obj}, b ≠ X.env.locals → s.heap.get? b = some o → h'.get? b = some o := fun nb e => (hs.2 _ nb).trans e
  have low : ∀ {b : Addr} {o : Obj}, X.s₀.heap.get? b = some o → b ≠ X.env.locals := fun e => Nat.ne_of_lt (Nat.lt_of_lt_of_le (Heap.lt_size e) I.ok.above)
  have trk : ∀ {b : Addr} {u : HO}, H b = some u → b ≠ X.env.locals := fun e z => by rw [z, I.free] at e; cases e
  refine ⟨I.ok, I.os, I.bare, ⟨fun b o e z hb hx => other (low e) (I.base.keep b o e z hb hx), fun b o e z hb hx => ?_, I.base.free, fun b o e hx => ?_, I.base.tups, I.base.frzs, I.base.tbls⟩, ⟨_, hn', fun j y w e1 e2 e3 => ?_⟩, fun y c e => ?_, I.free, I.freeC, fun p hp => ?_, fun b u e => ?_, ?_, Nat.succ_pos _⟩
  · obtain ⟨sl, q⟩ := I.base.slot b o e z hb hx
    exact ⟨sl, other (low e) q⟩
  · obtain ⟨o', q⟩ := I.base.there b o e hx
    exact ⟨o', other (low e) q⟩
  · by_cases hj : j = i
    · subst hj
      have := List.getElem?_set_self (l := σ) (a := (none : Option V)) (i := j) (by rw [I.len]; exact (List.getElem?_eq_some_iff.mp hi).1)
      rw [this] at e2; cases e2
    · rw [List.getElem?_set_ne (Ne.symm hj)] at e2
      obtain ⟨u, r, q⟩ := hl j y w e1 e2 e3
      refine ⟨u, r, ?_⟩
      rcases q with ⟨k, e⟩ | ⟨k, c, e, z⟩
      · have : y ≠ n := fun e => hj (nodup_ix hN e1 (e ▸ hi))
        exact .inl ⟨k, by simp [this, e]⟩
      · exact .inr ⟨k, c, e, z.sameBut hs (I.cne y c e)⟩
  · obtain ⟨w, z⟩ := I.cell y c e
    exact ⟨w, z.sameBut hs (I.cne y c e)⟩
  · obtain ⟨e, z, ne, nf, d⟩ := I.pin p hp
    exact ⟨other ne e, z, ne, nf, d⟩
  · refine (I.hok b u e).stay (fun c w hc q => other ?_ q) (fun _ q => q) fun _ _ q => q
    rcases hc with rfl | hc
    · exact trk e
    · exact trk hc
  · rw [List.length_set]; exact I.len
end
end L2
namespace L2
open PySem PySem.Spec PyProof.Rows
def ErrO (a C : Addr) : HO := .ext fun h => ∃ o, h.get? a = some o ∧ o.cls = .ref C
section
variable {X : Cx} {pins : List (Addr × Obj)} {σ : St} {H H' : Hp} {s s2 : Shared} {a C : Addr}
theorem err_ok {P : Program} {w : World} {h : Heap} {o : Obj} (e : h.get? a = some o) (c : o.cls = .ref C) : ObjOk P w H h a (ErrO a C) :=
  ⟨⟨o, e, c⟩, ⟨o, e⟩, fun h1 h2 ⟨u, e1, c1⟩ k => ⟨u, k u e1, c1⟩⟩
theorem Inv.track {o : HO} (I1 : Inv X pins σ H s) (na : s.heap.get? a = none) (I : Inv X pins σ H' s2) (ha : H' a = none) (hex : X.ex = []) (new : ObjOk X.prog X.w (upd H' a o) s2.heap a o) : Inv X pins σ (upd H' a o) s2 := by
  have ne : ∀ {b : Addr} {u : Obj}, s.heap.get? b = some u → b ≠ a := fun e z => by rw [z, na] at e; cases e
  have nH : ∀ {b : Addr} {u : HO}, H' b = some u → b ≠ a := fun e z => by rw [z, ha] at e; cases e
  have n0 : ∀ {b : Addr} {u : Obj}, X.s₀.heap.get? b = some u → b ≠ a := fun {b u} e => by
    obtain ⟨u', q⟩ := I1.base.there b u e (by rw [hex]; simp)
    exact ne q
  refine ⟨I.ok, I.os, I.bare, ⟨I.base.keep, I.base.slot, fun b u e z hx => ?_, I.base.there, fun b xs e => ?_, fun b u xs e => ?_, fun b ps e => ?_⟩, I.loc, I.cell, ?_, fun y c e => ?_, fun p hp => ?_, fun b u e => ?_, I.len, I.tk⟩
  · rw [upd_ne (n0 e)]; exact I.base.free b u e z hx
  · have := I.base.tups b xs e; rw [upd_ne (nH this)]; exact this
  · have := I.base.frzs b u xs e; rw [upd_ne (nH this)]; exact this
  · obtain ⟨m, q⟩ := I.base.tbls b ps e
    exact ⟨m, by rw [upd_ne (nH q)]; exact q⟩
  · obtain ⟨m, ⟨u, _, _, q, _⟩, _⟩ := I1.loc
    rw [upd_ne (ne q)]; exact I.free
  · obtain ⟨v, u, q, _⟩ := I1.cell y c e
    rw [upd_ne (ne q)]; exact I.freeC y c e
  · obtain ⟨e, z, n1, nf, d⟩ := I.pin p hp
    exact ⟨e, by rw [upd_ne (ne (I1.pin p hp).1)]; exact z, n1, nf, d⟩
  · by_cases hb : b = a
    · subst hb; rw [upd_same] at e; cases e; exact new
    · rw [upd_ne hb] at e
      exact (I.hok b u e).stay (fun c v _ q => q) (fun c q => by rw [upd_ne (nH q)]; exact q) fun c xs q => by rw [upd_ne (nH q)]; exact q
end
def tTryA (C : Addr) (i : Nat) (te : XK → TE) (ts : TS) : TS := fun D σ H =>
  te (fun cls _ H' => cls = .ref C ∧ ∀ a, H' a = none → ts { nx := fun σ' H2 => D.nx (σ'.set i none) H2, rt := D.rt, bk := fun σ' H2 => D.bk (σ'.set i none) H2, ct := fun σ' H2 => D.ct (σ'.set i none) H2 } (σ.set i (some (.ref a))) (upd H' a (ErrO a C))) σ H fun _ H' => D.nx σ H'
section
variable {X : Cx} {C D : Addr} {pos : Pos} {e : Expr}
theorem ps_tryA {te : XK → TE} {ts : TS} {b₀ : Stmt} {suite : List Stmt} {ep hp np : Pos} {y n : Str} {i : Nat} (he : PX X e te) (hg : Gl X y) (hm : X.mg y = some (.ref D)) (hx : PySem.W.exmOne X.K (.ref C) (.ref D) = some true)
    (hN : X.N.Nodup) (hi : X.N[i]? = some n) (hk : X.env.scope.names.lookup n = some .local) (hs : ∀ a xe', PSs (X.held a xe') (b₀ :: suite) ts) (hex : X.ex = [] := by rfl) (hst : X.stack = X.env :: X.outer := by rfl) (hf : X.env.frame = some X.env.locals := by rfl)
    (hsw : swapsWith e none ep.line X.env = pure false := by rfl) (hdb : (y == ("__debug__" : Str)) = false := by decide) :
    PS X (.Try [.Expr e ep] [.ExceptHandler (some (.Name y np)) (some n) (b₀ :: suite) hp] [] [] pos) (tTryA C i te ts) := by
  intro pins s σ H D I h
  refine wpAny_Try_except (wpAny_execs_cons (wpAny_Expr_any (thn (he pins s σ H _ _ _ I (fun H1 s1 e s2 I1 F => ?_) h) fun v s1 ⟨v', H1, I1, r1, q1⟩ => ?_) I.quiet hsw))
  · refine lands hst hf I1 F fun a cls H' s3 e1 na hE J ⟨oe, o1, o2⟩ k => ?_
    obtain ⟨rfl, q⟩ := hE
    refine wpAny_handleBy_cons (codeAny_handlers_test (ld_glob (J.held a fun _ _ => False) hg hm ?_ hdb)) (by intro q; cases q)
    have lk : PySem.W.Looks (model X.prog X.w) s3.heap (typeOf (.ref a)) (.ref C) := o2 ▸ (PySem.W.Looks.ld o1).andThen .now
    refine (PySem.W.exm_one J.kIn lk hx).here ?_
    refine codeAny_handlers_suite_as (k _ _ _ fun s4 J4 ⟨oe4, p1, p2, _⟩ nH => ?_)
    have J5 := Inv.track I1 na J4 nH hex (err_ok p1 p2)
    refine store_ok J5 hN hi (.inl hk) (v := .ref a) rfl (fun s5 J6 => ?_) (.inr hk)
    refine wpAny_mono (hs a _ pins s5 _ _ _ (J6.held a _) (q a nH)) (fun f s6 z => ?_) fun _ _ z => z
    have z := z.unheld I.ok
    cases f with
    | next => obtain ⟨σ', H2, J7, q7⟩ := z; exact gone_ok J7 hN hi hk fun s7 J8 => ⟨_, H2, J8, q7⟩
    | brk => obtain ⟨σ', H2, J7, q7⟩ := z; exact gone_ok J7 hN hi hk fun s7 J8 => ⟨_, H2, J8, q7⟩
    | cont => obtain ⟨σ', H2, J7, q7⟩ := z; exact gone_ok J7 hN hi hk fun s7 J8 => ⟨_, H2, J8, q7⟩
    | ret u => obtain ⟨v, σ', H2, J7, r7, q7⟩ := z; exact gone_ok J7 hN hi hk fun s7 J8 => ⟨v, _, H2, J8, r7, q7⟩
  · exact wpAny_execs_nil (wpAny_execs_nil ⟨σ, H1, I1, q1⟩)
end
end L2
namespace L2
open PySem PySem.Spec PyProof.Rows
structure ClsK (K : PySem.W.Frag) (D : Addr) : Prop where
  c : PySem.W.isClsIn K D = true
  t : PySem.W.typeIn K (.ref D) = some (.type "type")
section
variable {K : PySem.W.Frag} {C D a : Addr} {b : Bool}
theorem kit_ref (hs : PySem.W.subIn K (.ref C) (.ref C) = some true) (hc : ClsK K D) (h : PySem.W.subIn K (.ref C) (.ref D) = some b) : PySem.W.kitOne K (.ref C) (.ref D) = some b := by
  unfold PySem.W.kitOne
  by_cases e : C = D
  · subst e
    rw [hs] at h; cases h
    rw [if_pos (by simp)]
  · rw [if_neg (by simpa using e)]
    unfold PySem.W.kitCls
    dsimp only
    have h1 : (PySem.W.clsIn K D).isSome = true := hc.c
    rw [if_pos (by rw [h1, hc.t]; rfl)]
    exact h
theorem kit_ty {T : String} (hm : PySem.W.kitMeta T = true) (h : PySem.W.subIn K (.ref C) (.type T) = some b) : PySem.W.kitOne K (.ref C) (.type T) = some b := by
  unfold PySem.W.kitOne
  rw [if_neg (by simp)]
  unfold PySem.W.kitCls
  dsimp only
  rw [if_pos hm]
  exact h
theorem kitx_exc (Z : ExcK K C) (hc : ClsK K C) : PySem.W.KitX K (.ref a) (.ref C) (fun h => ∃ o, h.get? a = some o ∧ o.cls = .ref C) where
  ty := fun M h X ⟨o, e, c⟩ => c ▸ (PySem.W.Looks.ld e).andThen .now
  it := fun M h X _ => by
    have z : (PySem.W.clsIn K C).isSome = true := hc.c
    unfold PySem.W.clsIn at z
    split at z
    next o1 o2 cd o3 ho =>
      intro A' Q' E' s' k q
      unfold isType loadHead
      exact wpAny_bind (wpAny_loadPart (k _ _ (X _ _ ho)) (wpAny_pure q))
    next => cases z
  ne := fun h tp dd its n sl X e => by
    have z : (PySem.W.clsIn K C).isSome = true := hc.c
    unfold PySem.W.clsIn at z
    split at z
    next o1 o2 cd o3 ho =>
      refine Bool.eq_false_iff.mpr fun q => ?_
      obtain rfl : C = tp := Value.ref.inj (beq_iff_eq.mp q)
      have := (X _ _ ho).symm.trans e
      cases this
    next => cases z
  ca := fun {prog w A E Q s} X ⟨o, e, c⟩ q => by
    obtain ⟨h, g, d, t, os⟩ := s
    exact xcls_attr F.excAttr_ValueError X Z e c q
end
structure ErrK (K : PySem.W.Frag) (C : Addr) : Prop where
  z : ExcK K C
  c : ClsK K C
  s : PySem.W.subIn K (.ref C) (.ref C) = some true
def rIsiE (K : PySem.W.Frag) : List V → Hp → VK → Prop := fun xs H Q => rIsi K xs H Q ∨
  (∃ (a C : Addr) (y : V) (c : Value) (b : Bool), xs = [.ref a, y] ∧ H a = some (ErrO a C) ∧ ErrK K C ∧ (∀ u, RelV y u → u = c) ∧ PySem.W.kitOne K (.ref C) c = some b ∧ Q (.bl b) H) ∨
  ∃ (a C p : Addr) (cs : List Addr) (b : Bool), xs = [.ref a, .ref p] ∧ H a = some (ErrO a C) ∧ ErrK K C ∧ SqT K H p (cs.map V.ref) ∧ PySem.W.kitAny K (.ref C) (cs.map Value.ref) = some b ∧ Q (.bl b) H
theorem vals_refs : ∀ {cs : List Addr} {us : List Value}, Vals (cs.map V.ref) us → us = cs.map Value.ref
  | [], _, .nil => rfl
  | c :: cs, _, .cons r t => by
    have e := vals_refs t
    cases (show _ = Value.ref c from r)
    rw [e]; rfl
theorem call_isinstanceE {X : Cx} : CallR X (.builtin "isinstance") (rIsiE X.K) := by
  intro pins s σ H xs us Q I r h
  rcases h with h | ⟨a, C, y, c, b, rfl, ha, E, hu, e, q⟩ | ⟨a, C, p, cs, b, rfl, ha, E, hq, e, q⟩
  · exact call_isinstanceA pins s σ H xs us Q I r h
  · obtain ⟨u, w', rfl, r1, r2⟩ := vals2 r
    cases r1
    obtain rfl := hu _ r2
    obtain ⟨φ, _, _⟩ := (show ObjOk X.prog X.w H s.heap a (ErrO a C) from I.hok a _ ha)
    exact wpAny_with_toks (n := 1) I.tk (PySem.W.kia_one (kitx_exc E.z E.c) I.kIn φ e (fun z => nomatch z) fun tk ht => ⟨.bl b, H, I.tok _ ht, rfl, q⟩)
  · obtain ⟨u, w', rfl, r1, r2⟩ := vals2 r
    cases r1
    cases r2
    obtain ⟨φ, _, _⟩ := (show ObjOk X.prog X.w H s.heap a (ErrO a C) from I.hok a _ ha)
    obtain ⟨its, rv, ⟨o, h1, h2, n, h3⟩, hz⟩ := I.tuple hq
    obtain ⟨oc, od, odt, osl⟩ := o
    simp only at h2 h3
    subst h2 h3
    rw [vals_refs rv] at h1
    exact wpAny_with_toks (n := 1) I.tk (PySem.W.kia_tup (kitx_exc E.z E.c) I.kIn φ h1 e (fun z => nomatch z) fun tk ht => ⟨.bl b, H, I.tok _ ht, rfl, q⟩)
section
variable {K : PySem.W.Frag} {H : Hp} {Q : VK} {a C D p : Addr} {b : Bool}
theorem v_isiE (ha : H a = some (ErrO a C)) (E : ErrK K C) (hc : ClsK K D) (h : PySem.W.subIn K (.ref C) (.ref D) = some b) (q : Q (.bl b) H) : rIsiE K [.ref a, .ref D] H Q :=
  .inr (.inl ⟨a, C, .ref D, .ref D, b, rfl, ha, E, fun u r => r, kit_ref E.s hc h, q⟩)
theorem v_isiET {T : String} (ha : H a = some (ErrO a C)) (E : ErrK K C) (hm : PySem.W.kitMeta T = true) (h : PySem.W.subIn K (.ref C) (.type T) = some b) (q : Q (.bl b) H) : rIsiE K [.ref a, .ty T] H Q :=
  .inr (.inl ⟨a, C, .ty T, .type T, b, rfl, ha, E, fun u r => r, kit_ty hm h, q⟩)
theorem kit_none {cs : List Addr} (E : ErrK K C) (h : ∀ D ∈ cs, ClsK K D ∧ PySem.W.subIn K (.ref C) (.ref D) = some false) : PySem.W.kitAny K (.ref C) (cs.map Value.ref) = some false := by
  induction cs with
  | nil => rfl
  | cons D cs ih =>
    obtain ⟨h1, h2⟩ := h D List.mem_cons_self
    rw [List.map_cons, PySem.W.kitAny, kit_ref E.s h1 h2]
    exact ih fun D' hD => h D' (List.mem_cons_of_mem _ hD)
theorem v_isiEN {cs : List Addr} (ha : H a = some (ErrO a C)) (E : ErrK K C) (hq : SqT K H p (cs.map V.ref)) (h : ∀ D ∈ cs, ClsK K D ∧ PySem.W.subIn K (.ref C) (.ref D) = some false) (q : Q (.bl false) H) : rIsiE K [.ref a, .ref p] H Q :=
  .inr (.inr ⟨a, C, p, cs, false, rfl, ha, E, hq, kit_none E h, q⟩)
end
theorem boot_ValueError : bootBuiltins ("ValueError" : Str) = some (.type "ValueError") := PyProof.Rows.Boot.«ValueError»
end L2
local macro_rules | `(tactic| walk_at "or") => `(tactic| first | exact .inl rfl | exact .inr rfl)
local macro_rules | `(tactic| walk_at "le") => `(tactic| first | decide | omega)
local macro_rules | `(tactic| walk_at "step") => `(tactic| (repeat (first | (with_reducible first | refine L2.st_seq ?_ | refine L2.iteT ?_ | refine L2.iteF ?_ | refine L2.st_asg ?_ | refine L2.st_name ?_ | refine L2.st_C ?_ | refine L2.st_op ?_ | refine L2.st_un ?_ | refine L2.st_ret ?_ | refine L2.st_retN ?_ | refine L2.st_drop ?_ | refine L2.st_if ?_ | refine L2.st_ifE ?_ | refine L2.st_test ?_ | refine L2.st_B ?_ | refine L2.st_bl ?_ | refine L2.st_and ?_ | refine L2.st_or ?_ | refine L2.st_not ?_ | refine L2.st_andV ?_ | refine L2.st_orV ?_ | refine L2.st_notV ?_ | refine L2.st_nil ?_ | refine L2.st_cons ?_ | refine L2.st_tup ?_ | refine L2.st_lst ?_ | refine L2.st_call ?_ | refine L2.st_CB ?_ | refine L2.st_tt ?_ | refine L2.st_break ?_ | refine L2.st_cont ?_ | refine L2.st_next ?_ | refine L2.st_sub ?_ | refine L2.st_bm ?_ | refine L2.st_chain ?_ | refine L2.st_for ?_ | refine L2.st_comp ?_ | refine L2.st_any ?_ | refine L2.st_rng1 ?_ | refine L2.st_rng2 ?_ | refine L2.st_rev ?_ | refine L2.st_sl ?_ | refine L2.st_part ?_ | refine L2.st_nopart ?_ | refine L2.st_int ?_ | refine L2.st_repl ?_ | refine L2.st_enumS ?_ | refine L2.st_iStr ?_ | refine L2.st_bm0 ?_ | refine L2.st_rng3 ?_ | refine L2.st_enumT ?_ | refine L2.st_rev2 ?_ | refine L2.st_rev3 ?_ | refine L2.st_inV ?_ | refine L2.st_dget ?_ | refine L2.st_orT ?_ | refine L2.st_revL ?_ | refine L2.v_min ?_ | refine L2.v_max ?_ | refine L2.st_strs ?_ | refine L2.v_addI ?_ | refine L2.v_subI ?_ | refine L2.v_ltI ?_ | refine L2.v_leI ?_ | refine L2.v_gtI ?_ | refine L2.v_geI ?_ | refine L2.v_eqI ?_ | refine L2.v_eqS ?_ | refine L2.v_neS ?_ | refine L2.v_neI ?_ | refine L2.v_is ?_ | refine L2.v_isnot ?_) | ((with_reducible refine' L2.st_var ?ev ?_); (case ev => exact rfl)) | ((with_reducible refine L2.v_mod ?ec ?_); (case ec => first | decide | omega | assumption)) | ((with_reducible refine L2.v_fdiv ?ec ?_); (case ec => first | exact ⟨by decide, by decide⟩ | exact ⟨by omega, by omega⟩)))))
namespace My
open PySem L2 PyProof.Rows
structure Row where
  name : Str
  sort : Str
  host : Str
  shuts : List Str
  bars : List Str
def Row.da (r : Row) : PyData := .tuple [.str r.name, .str r.sort, .str r.host, .tuple (sDa r.shuts), .tuple (sDa r.bars)]
section
variable {K : PySem.W.Frag} {H H' : Hp} {Q : VK}
theorem row_parts {r : Row} {v : V} (h : Dv K H r.da v) : ∃ b sv bv, v = .ref b ∧ SqT K H b [.str r.name, .str r.sort, .str r.host, sv, bv] ∧ Dv K H (.tuple (sDa r.shuts)) sv ∧ Dv K H (.tuple (sDa r.bars)) bv := by
  obtain ⟨b, ys, rfl, hb, h⟩ := dv_tuple.mp h
  rw [Dvs] at h; obtain ⟨v1, r1, rfl, e1, h⟩ := h
  rw [Dvs] at h; obtain ⟨v2, r2, rfl, e2, h⟩ := h
  rw [Dvs] at h; obtain ⟨v3, r3, rfl, e3, h⟩ := h
  rw [Dvs] at h; obtain ⟨v4, r4, rfl, e4, h⟩ := h
  rw [Dvs] at h; obtain ⟨v5, r5, rfl, e5, h⟩ := h
  rw [Dvs] at h; subst h
  rw [dv_str.mp e1, dv_str.mp e2, dv_str.mp e3] at hb
  exact ⟨b, v4, v5, rfl, hb, e4, e5⟩
theorem v_eqS {x y : Str} (h : Q (.bl (decide (x = y))) H) : rEqA K (.str x) (.str y) H Q := by
  refine v_eq rfl ?_
  have e : (decide ((V.str x) = V.str y)) = decide (x = y) := by simp
  rw [e]; exact h
theorem v_eqI {x y : Int} (h : Q (.bl (decide (x = y))) H) : rEqA K (.int x) (.int y) H Q := by
  refine v_eq rfl ?_
  have e : (decide ((V.int x) = V.int y)) = decide (x = y) := by simp
  rw [e]; exact h
end
end My
namespace My
open PySem L2 PyProof.Rows
variable {K : PySem.W.Frag} {vs : List V} {H : Hp} {Q : VK} {E : XK}
end My
namespace My
open PySem L2
variable {K : PySem.W.Frag} {vs : List V} {H : Hp} {Q : VK} {E : XK}
theorem strV_len (xs : List Str) : (strV xs).length = xs.length := List.length_map _
def ch (c : Nat) : Str := ⟨#[c]⟩
def Lt : Str := "abcdefghijklmnopqrstuvwxyz"
theorem lt_get : ∀ j : Nat, j < 26 → Lt.cps.toList[j]? = some (97 + j) := by decide +kernel
theorem lt_len : Lt.length = 26 := by decide +kernel
theorem lt_at {i : Int} (h0 : 0 ≤ i) (h1 : i < 26) : atI Lt.cps.toList i = some (97 + i.toNat) := by
  have e : i = ((i.toNat : Nat) : Int) := by omega
  have q : atI Lt.cps.toList ((i.toNat : Nat) : Int) = some (97 + i.toNat) := atI_nat (lt_get _ (by omega))
  rw [← e] at q
  exact q
theorem join_ch : ∀ bs : List Nat, (PySem.Txt.join ("" : Str) (bs.map ch)).cps.toList = bs := by
  intro bs
  have e : PySem.Txt.join ("" : Str) (bs.map ch) = Str.join ("" : Str) (bs.map ch) := PySem.StrLaws.glued_eq_join _ _
  rw [e]
  induction bs with
  | nil => rfl
  | cons b r ih =>
    cases r with
    | nil => rfl
    | cons c r =>
      show ((ch b ++ ("" : Str) ++ Str.join ("" : Str) ((c :: r).map ch)).cps).toList = _
      have ih := ih (PySem.StrLaws.glued_eq_join _ _)
      show ((ch b).cps ++ ("" : Str).cps ++ (Str.join ("" : Str) ((c :: r).map ch)).cps).toList = _
      rw [Array.toList_append, Array.toList_append, ih]
      rfl
theorem mul_ch {c : Nat} {n : Int} (h : 1 ≤ n) : (PySem.Txt.mul (ch c) n).cps.toList = List.replicate n.toNat c := by
  unfold PySem.Txt.mul
  rw [if_neg (by omega)]
  have f : ∀ (k : Nat) (acc : Array Nat), ((List.replicate k #[c]).foldl (· ++ ·) acc).toList = acc.toList ++ List.replicate k c := by
    intro k
    induction k with
    | zero => intro acc; simp
    | succ k ih => intro acc; rw [List.replicate_succ, List.foldl_cons, ih]; simp [List.replicate_succ]
  by_cases h1 : n = 1
  · subst h1; rfl
  · have e : (n == 1 || (ch c).length == 0) = false := by
      have : (n == 1) = false := by simpa using h1
      rw [this]; rfl
    rw [e, if_neg Bool.false_ne_true]
    have := f n.toNat #[]
    show (List.foldl (fun x1 x2 => x1 ++ x2) #[] (List.replicate n.toNat #[c])).toList = _
    simpa using this
theorem sl64 {n : Nat} (h : n ≤ 100000) : n ≤ sizeLine := by rw [sizeLine_eq]; omega
theorem Same.tr {H H1 H2 : Hp} (a : Same H H1) (b : Same H1 H2) : Same H H2 := fun c o e => b c o (a c o e)
theorem Same.put {H H1 : Hp} {p : Addr} (s : Same H H1) (h : H p = none) (o : HO) : Same H (upd H1 p o) := fun b u e => by
  have nb : b ≠ p := fun z => by rw [z, h] at e; cases e
  rw [upd_ne nb]; exact s b u e
theorem tupK_lst {d : Addr} {xs ys : List V} (h : H d = some (.lst xs)) : TupK H (upd H d (.lst ys)) :=
  ⟨fun b zs e => by rw [upd_ne (fun z => by rw [z, h] at e; cases e)]; exact e, fun b o zs e => by rw [upd_ne (fun z => by rw [z, h] at e; cases e)]; exact e⟩
theorem ne_free {H : Hp} {a b : Addr} {o : HO} (h : H a = some o) (g : H b = none) : a ≠ b := fun e => by rw [e, g] at h; cases h
theorem flat_strV (xs : List Str) : (strV xs).all flatV = true := by unfold strV; rw [List.all_map]; exact List.all_eq_true.mpr fun _ _ => rfl
theorem inV_strV (x : Str) : ∀ xs : List Str, inV (.str x) (strV xs) = decide (x ∈ xs)
  | [] => by simp [strV, inV]
  | y :: ys => by
    have ih := inV_strV x ys
    unfold inV at ih ⊢
    show (eqV (.str y) (.str x) || (strV ys).any fun z => eqV z (.str x)) = _
    rw [ih]
    by_cases e : x = y
    · subst e; simp [eqV]
    · have e' : ¬ y = x := fun z => e z.symm
      simp [eqV, e, e']
def intV (ns : List Int) : List V := ns.map V.int
theorem intV_len (ns : List Int) : (intV ns).length = ns.length := List.length_map _
theorem intV_app (ns : List Int) (x : Int) : intV ns ++ [V.int x] = intV (ns ++ [x]) := by simp [intV]
theorem app_len (a b : Str) : (a ++ b).length = a.length + b.length := PySem.Str.length_append a b
theorem intV_at {ns : List Int} {i : Nat} (h : i < ns.length) : (intV ns)[i]? = some (.int ns[i]) := by unfold intV; rw [List.getElem?_map, List.getElem?_eq_getElem h]; rfl
theorem ixN_0 {n : Nat} (h : 1 ≤ n) : ixN n 0 = some 0 := by
  unfold ixN
  rw [if_pos (by decide), if_pos (by omega)]; rfl
theorem any_forS {g : TG} {tb : TS} {D : Ends} {σ : St} {H0 : Hp} {a : Addr} {xs : List V} (hq : SqL K H0 a xs ∨ SqT K H0 a xs) (s0 : Same H0 H) (Pv : Nat → St → Hp → Prop) (h0 : Pv 0 σ H) (hk : ∀ i σ H', Pv i σ H' → Same H0 H')
    (hs : ∀ i x σ H, xs[i]? = some x → Pv i σ H → g x σ H fun σ2 H2 => tb { D with nx := PAt Pv (i + 1), ct := PAt Pv (i + 1), bk := D.nx } σ2 H2) (hd : ∀ σ H, Pv xs.length σ H → D.nx σ H) :
    ∃ b, V.ref a = .ref b ∧ (((∃ xs, SqL K H b xs) ∧ ForW g tb D σ (Itl K b) H) ∨ ((∃ xs, SqT K H b xs) ∧ ForW g tb D σ (Itt K b) H)) := by
  rcases hq with hq | hq
  · exact ⟨a, rfl, .inl ⟨⟨xs, s0.sqL hq⟩, for_list Pv h0 (fun i σ H' _ p => (hk i σ H' p).sqL hq) hs hd⟩⟩
  · exact ⟨a, rfl, .inr ⟨⟨xs, s0.sqT hq⟩, for_tup Pv h0 (fun i σ H' _ p => (hk i σ H' p).sqT hq) hs hd⟩⟩
@[reducible] def WlN (tb : TS) (D : Ends) (Pv : St → Hp → Prop) (μ : St → Hp → Nat) (k : Nat) (σ : St) (H1 : Hp) : Prop :=
  ∃ N : St → Hp → Prop, (∀ σ' H', N σ' H' → ∃ m', m' < k ∧ m' = μ σ' H' ∧ Pv σ' H') ∧ tb { D with nx := N, ct := N, bk := D.nx } σ H1
theorem while_raw {c : TT} {tb : TS} {D : Ends} {σ : St} (Pv : St → Hp → Prop) (μ : St → Hp → Nat) (h0 : Pv σ H)
    (hs : ∀ σ H, Pv σ H → c σ H fun b H1 => if b = true then WlN tb D Pv μ (μ σ H) σ H1 else D.nx σ H1) : tWhile c tb D σ H := by
  refine ⟨fun m σ H => m = μ σ H ∧ Pv σ H, ⟨_, rfl, h0⟩, ?_⟩
  rintro m σ H ⟨rfl, p⟩
  exact hs σ H p
theorem any_compS {g : TG} {tt : TT} {te : TE} {σ' : St} {H0 : Hp} {a : Addr} {xs : List V} (hq : SqL K H0 a xs ∨ SqT K H0 a xs) (s0 : Same H0 H) (Pv : Nat → List V → Hp → Prop) (h0 : Pv 0 [] H) (hlen : ∀ i ys H, i ≤ xs.length → Pv i ys H → ys.length ≤ sizeLine) (hk : ∀ i ys H', Pv i ys H' → Same H0 H')
    (hs : ∀ i x ys H, xs[i]? = some x → Pv i ys H → g x σ' H fun σ2 H2 => tt σ2 H2 fun b H3 => if b = true then te σ2 H3 fun y H4 => PAt Pv (i + 1) (ys ++ [y]) H4 else PAt Pv (i + 1) ys H3)
    (hd : ∀ ys H, Pv xs.length ys H → ∀ p, H p = none → Q (.ref p) (upd H p (.lst ys))) :
    ∃ b, V.ref a = .ref b ∧ (((∃ xs, SqL K H b xs) ∧ CompW g tt te σ' Q (Itl K b) H) ∨ ((∃ xs, SqT K H b xs) ∧ CompW g tt te σ' Q (Itt K b) H)) := by
  rcases hq with hq | hq
  · exact any_compL (s0.sqL hq) Pv h0 hlen (fun i ys H' _ p => (hk i ys H' p).sqL hq) hs hd
  · refine ⟨a, rfl, .inr ⟨⟨xs, s0.sqT hq⟩, comp_of (n := xs.length) (fun i x => xs[i]? = some x) Pv h0 hlen (fun i ys H hi p => ?_) (fun i ys H x H' hi p y => ?_) (fun ys H p => ?_) (fun i x ys H _ hx p => hs i x ys H hx p) hd⟩⟩
    · exact ⟨xs, xs[i], (hk i ys H p).sqT hq, by simp [hi]⟩
    · exact ⟨y.1, y.2 xs ((hk i ys H p).sqT hq)⟩
    · exact ⟨xs, (hk _ ys H p).sqT hq, Nat.le_refl _⟩
theorem strV_get {xs : List Str} {i : Nat} {x : V} (h : (strV xs)[i]? = some x) : ∃ y, xs[i]? = some y ∧ x = .str y := by
  unfold strV at h
  rw [List.getElem?_map] at h
  obtain ⟨y, hy, e⟩ := Option.map_eq_some_iff.mp h
  exact ⟨y, hy, e.symm⟩
theorem strV_at {xs : List Str} {i : Nat} (h : i < xs.length) : (strV xs)[i]? = some (.str xs[i]) := by unfold strV; rw [List.getElem?_map, List.getElem?_eq_getElem h]; rfl
theorem strV_app (xs : List Str) (x : Str) : strV xs ++ [V.str x] = strV (xs ++ [x]) := by simp [strV]
theorem ixI {α : Type} {xs : List α} {i : Int} {v : α} (h0 : 0 ≤ i) (e : xs[i.toNat]? = some v) : atI xs i = some v := by
  have := atI_nat e
  rwa [Int.toNat_of_nonneg h0] at this
def Dk (H : Hp) (d : Addr) : Prop := ∃ ns : List Int, H d = some (.lst (intV ns)) ∧ 1 ≤ ns.length ∧ ns.length ≤ 1000
structure Mv (d : Addr) (H H' : Hp) : Prop where
  but : But [d] H H'
  dk : Dk H' d
theorem But.tr {ps : List Addr} {H H1 H2 : Hp} (a : But ps H H1) (b : But ps H1 H2) : But ps H H2 := fun c o e n => b c o (a c o e n) n
theorem Mv.refl {d : Addr} (h : Dk H d) : Mv d H H := ⟨fun _ _ e _ => e, h⟩
theorem Mv.tr {d : Addr} {H H1 H2 : Hp} (a : Mv d H H1) (b : Mv d H1 H2) : Mv d H H2 := ⟨But.tr a.but b.but, b.dk⟩
theorem Mv.at {d p : Addr} {H H' : Hp} {o : HO} (a : Mv d H H') (h : H p = some o) (n : p ≠ d) : H' p = some o := a.but p o h (by simpa using n)
theorem Dk.ne {d p : Addr} (h : Dk H d) (g : H p = none) : p ≠ d := fun e => by obtain ⟨ns, h, _⟩ := h; rw [← e, g] at h; cases h
theorem Mv.put {d p : Addr} {H H1 : Hp} (a : Mv d H H1) (h0 : Dk H d) (h : H p = none) (o : HO) : Mv d H (upd H1 p o) := by
  have np := h0.ne h
  refine ⟨fun b u e n => ?_, ?_⟩
  · have nb : b ≠ p := fun z => by rw [z, h] at e; cases e
    rw [upd_ne nb]; exact a.but b u e n
  · obtain ⟨ns, h1, h2⟩ := a.dk
    exact ⟨ns, by rw [upd_ne (Ne.symm np)]; exact h1, h2⟩
theorem Mv.new {d p : Addr} {H H1 : Hp} (a : Mv d H H1) (h : H1 p = none) (o : HO) : Mv d H (upd H1 p o) := by
  refine ⟨fun b u e n => ?_, ?_⟩
  · have := a.but b u e n
    rw [upd_ne (ne_free this h)]; exact this
  · obtain ⟨ns, h1, h2⟩ := a.dk
    exact ⟨ns, by rw [upd_ne (ne_free h1 h)]; exact h1, h2⟩
theorem Mv.same {d : Addr} {H H1 H2 : Hp} (a : Mv d H H1) (b : Same H1 H2) : Mv d H H2 := ⟨fun c o e n => b c o (a.but c o e n), by obtain ⟨ns, h1, h2⟩ := a.dk; exact ⟨ns, b _ _ h1, h2⟩⟩
theorem Mv.tupK {d : Addr} {H H1 : Hp} (a : Mv d H H1) (h : Dk H d) : TupK H H1 := by
  obtain ⟨ns, h, _⟩ := h
  exact ⟨fun b xs e => a.but b _ e (by simp; rintro rfl; rw [h] at e; cases e), fun b o xs e => a.but b _ e (by simp; rintro rfl; rw [h] at e; cases e)⟩
theorem Dvs.snoc {ds : List PyData} {d : PyData} : ∀ {vs : List V}, Dvs K H (ds ++ [d]) vs → ∃ ws y, vs = ws ++ [y] ∧ Dvs K H ds ws ∧ Dv K H d y := by
  induction ds with
  | nil =>
    intro vs h
    rw [List.nil_append, Dvs] at h
    obtain ⟨v, r, rfl, h1, h2⟩ := h
    rw [Dvs] at h2; subst h2
    exact ⟨[], v, rfl, dvs_nil, h1⟩
  | cons e ds ih =>
    intro vs h
    rw [List.cons_append, Dvs] at h
    obtain ⟨v, r, rfl, h1, h2⟩ := h
    obtain ⟨ws, y, rfl, h3, h4⟩ := ih h2
    exact ⟨v :: ws, y, rfl, dvs_cons h1 h3, h4⟩
theorem Dvs.one {d : PyData} {v : V} (h : Dv K H d v) : Dvs K H [d] [v] := dvs_cons h dvs_nil
theorem dvs_iff_get {ds : List PyData} : ∀ {vs : List V}, vs.length = ds.length → (∀ (i : Nat) (d : PyData) (v : V), ds[i]? = some d → vs[i]? = some v → Dv K H d v) → Dvs K H ds vs := by
  induction ds with
  | nil => intro vs h _; rw [List.length_eq_zero_iff.mp h]; exact dvs_nil
  | cons d ds ih =>
    intro vs h g
    cases vs with
    | nil => cases h
    | cons v vs =>
      refine dvs_cons (g 0 d v rfl rfl) (ih (by simpa using h) fun i d' v' a b => g (i + 1) d' v' (by simpa using a) (by simpa using b))
def intD (ns : List Int) : List PyData := ns.map .int
theorem dvs_intD : ∀ {ns : List Int} {vs : List V}, Dvs K H (intD ns) vs ↔ vs = intV ns
  | [], _ => by show Dvs K H [] _ ↔ _ = []; rw [Dvs]
  | x :: xs, vs => by
    show Dvs K H (.int x :: intD xs) vs ↔ vs = V.int x :: intV xs
    rw [Dvs]
    constructor
    · rintro ⟨v, r, rfl, h1, h2⟩
      rw [dv_int.mp h1, dvs_intD.mp h2]
    · rintro rfl
      exact ⟨_, _, rfl, dv_int.mpr rfl, dvs_intD.mpr rfl⟩
theorem rng3_comp {g : TG} {tt : TT} {te : TE} {σ' : St} {n : Nat} (hn : (n : Int) < 2 ^ 62) (Pv : Nat → List V → Hp → Prop) (p0 : Pv 0 [] H) (hlen : ∀ (i : Nat) ys H, i ≤ n → Pv i ys H → ys.length ≤ sizeLine)
    (hs : ∀ (i : Nat) ys H, i < n → Pv i ys H → g (.int ((n : Int) - 1 - i)) σ' H fun σ2 H2 => tt σ2 H2 fun b H3 => if b = true then te σ2 H3 fun y H4 => PAt Pv (i + 1) (ys ++ [y]) H4 else PAt Pv (i + 1) ys H3)
    (hd : ∀ ys H, Pv n ys H → ∀ p, H p = none → Q (.ref p) (upd H p (.lst ys))) :
    ∃ m : Nat, [V.int ((n : Int) - 1), V.int (-1), V.int (-1)] = [.int ((m : Int) - 1), .int (-1), .int (-1)] ∧ (m : Int) < 2 ^ 62 ∧ CompW g tt te σ' Q (Itv m) H :=
  ⟨n, rfl, hn, comp_of (n := n) (fun i x => x = .int ((n : Int) - 1 - i)) Pv p0 hlen (fun i ys H hi _ => hi) (fun i ys H x H' hi _ y => ⟨y.1, y.2⟩) (fun ys H _ => Nat.le_refl _) (fun i x ys H hi hx p => by subst hx; exact hs i ys H hi p) hd⟩
theorem v_neE {p : Addr} {ds : List PyData} {e : Addr} (h1 : Dv K H (.list ds) (.ref p)) (h2 : H e = some (.lst [])) (h : Q (.bl (!ds.isEmpty)) H) : rNeA K (.ref p) (.ref e) H Q := by
  refine v_neM h1 (e := .list []) (dv_list.mpr ⟨e, [], rfl, SqL.of h2, dvs_nil⟩) ?_ ?_
  · exact Nat.le_trans (Nat.min_le_right _ _) (by decide)
  · cases ds <;> exact h
theorem v_eqE {p : Addr} {ds : List PyData} {e : Addr} (h1 : Dv K H (.list ds) (.ref p)) (h2 : H e = some (.lst [])) (h : Q (.bl ds.isEmpty) H) : rEqA K (.ref p) (.ref e) H Q := by
  refine v_eqM h1 (e := .list []) (dv_list.mpr ⟨e, [], rfl, SqL.of h2, dvs_nil⟩) ?_ ?_
  · exact Nat.le_trans (Nat.min_le_right _ _) (by decide)
  · cases ds <;> exact h
theorem But.two {d k : Addr} {H H' : Hp} (b : But [d, k] H H') {xs ys : List V} (h1 : H d = some (.lst xs)) (h2 : H k = some (.lst ys)) : TupK H H' :=
  ⟨fun c zs e => b c _ e (by simp; exact ⟨(by rintro rfl; rw [h1] at e; cases e), (by rintro rfl; rw [h2] at e; cases e)⟩),
   fun c o zs e => b c _ e (by simp; exact ⟨(by rintro rfl; rw [h1] at e; cases e), (by rintro rfl; rw [h2] at e; cases e)⟩)⟩
theorem Mv.two {d : Addr} {H H' : Hp} (k : Addr) (a : Mv d H H') : But [d, k] H H' := But.mono a.but (by simp)
theorem Same.two {H H' : Hp} (d k : Addr) (a : Same H H') : But [d, k] H H' := fun b o e _ => a b o e
theorem Dk.lst {d : Addr} (h : Dk H d) : ∃ xs, H d = some (.lst xs) := let ⟨ns, h, _⟩ := h; ⟨_, h⟩
theorem Dk.same {d : Addr} {H H' : Hp} (h : Dk H d) (s : Same H H') : Dk H' d := let ⟨ns, h, r⟩ := h; ⟨ns, s _ _ h, r⟩
theorem Dk.put {d p : Addr} {H : Hp} (h : Dk H d) (n : p ≠ d) (o : HO) : Dk (upd H p o) d := let ⟨ns, h, r⟩ := h; ⟨ns, by rw [upd_ne (Ne.symm n)]; exact h, r⟩
theorem none_of {H H' : Hp} {p : Addr} (s : Same H H') (h : H' p = none) : H p = none := by
  cases e : H p with
  | none => rfl
  | some o => have := s _ _ e; rw [h] at this; cases this
theorem none_mv {d : Addr} {H H' : Hp} {p : Addr} (s : Mv d H H') (h0 : Dk H d) (h : H' p = none) : H p = none := by
  cases e : H p with
  | none => rfl
  | some o =>
    by_cases n : p = d
    · subst n; obtain ⟨ns, h1, _⟩ := s.dk; rw [h] at h1; cases h1
    · have := s.at e n; rw [h] at this; cases this
end My
namespace My
open PySem L2
variable {K : PySem.W.Frag} {vs : List V} {H : Hp} {Q : VK} {E : XK}
inductive Tr where
  | tx (s : Str)
  | nd (n : Str) (ps : List Tr)
mutual
def Tr.da : Tr → PyData
  | .tx s => .str s
  | .nd n ps => .tuple [.str n, .tuple (Tr.das ps)]
def Tr.das : List Tr → List PyData
  | [] => []
  | t :: ts => t.da :: Tr.das ts
end
theorem das_map : ∀ ts : List Tr, Tr.das ts = ts.map Tr.da
  | [] => by rw [Tr.das]; rfl
  | t :: ts => by rw [Tr.das, das_map ts]; rfl
mutual
theorem da_fix : ∀ t : Tr, fix t.da = true
  | .tx s => by rw [Tr.da, fix]
  | .nd n ps => by rw [Tr.da, fix, fixs, fix, fixs, fix, fixs, das_fix ps]; rfl
theorem das_fix : ∀ ts : List Tr, fixs (Tr.das ts) = true
  | [] => by rw [Tr.das, fixs]
  | t :: ts => by rw [Tr.das, fixs, da_fix t, das_fix ts]; rfl
end
def Tr.isTx : Tr → Bool
  | .tx _ => true
  | .nd _ _ => false
def Tr.kids : Tr → List Tr
  | .tx _ => []
  | .nd _ ps => ps
def kidsF (pl : List Int) : Nat → List Tr → List (List Int × Tr)
  | _, [] => []
  | k, t :: ts => (pl ++ [(k : Int)], t) :: kidsF pl (k + 1) ts
theorem kidsF_len (pl : List Int) : ∀ (k : Nat) (ts : List Tr), (kidsF pl k ts).length = ts.length
  | _, [] => rfl
  | k, t :: ts => by rw [kidsF, List.length_cons, List.length_cons, kidsF_len pl (k + 1) ts]
theorem kidsF_get (pl : List Int) : ∀ (k : Nat) (ts : List Tr) (i : Nat), (kidsF pl k ts)[i]? = (ts[i]?).map fun t => (pl ++ [((k + i : Nat) : Int)], t)
  | _, [], i => by simp [kidsF]
  | k, t :: ts, 0 => by simp [kidsF]
  | k, t :: ts, i + 1 => by
    rw [kidsF, List.getElem?_cons_succ, kidsF_get pl (k + 1) ts i, List.getElem?_cons_succ]
    congr 1; funext t; rw [show k + 1 + i = k + (i + 1) by omega]
mutual
def pre (pl : List Int) : Tr → List (List Int × Tr)
  | .tx s => [(pl, .tx s)]
  | .nd n ps => (pl, .nd n ps) :: pres pl 0 ps
def pres (pl : List Int) (k : Nat) : List Tr → List (List Int × Tr)
  | [] => []
  | t :: ts => pre (pl ++ [(k : Int)]) t ++ pres pl (k + 1) ts
end
def flat (stk : List (List Int × Tr)) : List (List Int × Tr) := stk.flatMap fun p => pre p.1 p.2
theorem pres_flat (pl : List Int) : ∀ (k : Nat) (ts : List Tr), pres pl k ts = flat (kidsF pl k ts)
  | k, [] => by rw [pres]; rfl
  | k, t :: ts => by rw [pres, pres_flat pl (k + 1) ts, kidsF]; rfl
theorem pre_kids (pl : List Int) : ∀ t : Tr, pre pl t = (pl, t) :: flat (kidsF pl 0 t.kids)
  | .tx s => by rw [pre]; rfl
  | .nd n ps => by rw [pre, pres_flat]; rfl
theorem flat_app (a b : List (List Int × Tr)) : flat (a ++ b) = flat a ++ flat b := by unfold flat; rw [List.flatMap_append]
theorem flat_cons (p : List Int × Tr) (r : List (List Int × Tr)) : flat (p :: r) = p :: flat (kidsF p.1 0 p.2.kids ++ r) := by
  rw [flat_app]
  show pre p.1 p.2 ++ flat r = _
  rw [pre_kids]; rfl
mutual
def wt : Tr → Nat
  | .tx s => 1 + s.length
  | .nd _ ps => 1 + wts ps
def wts : List Tr → Nat
  | [] => 0
  | t :: ts => wt t + wts ts
end
theorem wt_pos : ∀ t : Tr, 1 ≤ wt t
  | .tx s => by rw [wt]; omega
  | .nd _ ps => by rw [wt]; omega
mutual
theorem pre_wt (pl : List Int) : ∀ t : Tr, (pre pl t).length ≤ wt t
  | .tx s => by rw [pre, wt, List.length_singleton]; omega
  | .nd n ps => by rw [pre, wt, List.length_cons]; have := pres_wt pl 0 ps; omega
theorem pres_wt (pl : List Int) (k : Nat) : ∀ ts : List Tr, (pres pl k ts).length ≤ wts ts
  | [] => by rw [pres, wts]; exact Nat.le_refl _
  | t :: ts => by rw [pres, wts, List.length_append]; have := pre_wt (pl ++ [(k : Int)]) t; have := pres_wt pl (k + 1) ts; omega
end
mutual
theorem pre_pl (pl : List Int) : ∀ (t : Tr) (p : List Int × Tr), p ∈ pre pl t → p.1.length + 1 ≤ pl.length + wt t
  | .tx s, p, h => by rw [pre, List.mem_singleton] at h; subst h; rw [wt]; show pl.length + 1 ≤ _; omega
  | .nd n ps, p, h => by
    rw [pre, List.mem_cons] at h
    rw [wt]
    rcases h with rfl | h
    · show pl.length + 1 ≤ _; omega
    · have := pres_pl pl 0 ps p h; omega
theorem pres_pl (pl : List Int) (k : Nat) : ∀ (ts : List Tr) (p : List Int × Tr), p ∈ pres pl k ts → p.1.length ≤ pl.length + wts ts
  | [], p, h => by rw [pres] at h; cases h
  | t :: ts, p, h => by
    rw [pres, List.mem_append] at h
    rw [wts]
    rcases h with h | h
    · have := pre_pl _ t p h; rw [List.length_append, List.length_singleton] at this; omega
    · have := pres_pl pl (k + 1) ts p h; omega
end
def pD (p : List Int × Tr) : PyData := .tuple [.tuple (intD p.1), p.2.da]
theorem intD_fix : ∀ ns : List Int, fixs (intD ns) = true
  | [] => by show fixs [] = true; rw [fixs]
  | x :: xs => by show fixs (.int x :: intD xs) = true; rw [fixs, intD_fix xs, fix]; rfl
theorem pD_fix (p : List Int × Tr) : fix (pD p) = true := by unfold pD; rw [fix, fixs, fix, fixs, fixs, da_fix, intD_fix]; rfl
theorem fixs_map {α : Type} {f : α → PyData} (h : ∀ x, fix (f x) = true) : ∀ l : List α, fixs (l.map f) = true
  | [] => by show fixs [] = true; rw [fixs]
  | x :: l => by show fixs (f x :: l.map f) = true; rw [fixs, h, fixs_map h l]; rfl
theorem pD_parts {p : List Int × Tr} {v : V} (h : Dv K H (pD p) v) : ∃ a b u, v = .ref a ∧ SqT K H a [.ref b, u] ∧ SqT K H b (intV p.1) ∧ Dv K H p.2.da u := by
  obtain ⟨a, xs, rfl, ha, h⟩ := dv_tuple.mp h
  rw [Dvs] at h; obtain ⟨v1, r1, rfl, e1, h⟩ := h
  rw [Dvs] at h; obtain ⟨v2, r2, rfl, e2, h⟩ := h
  rw [Dvs] at h; subst h
  obtain ⟨b, ys, rfl, hb, h⟩ := dv_tuple.mp e1
  rw [dvs_intD] at h; subst h
  exact ⟨a, b, v2, rfl, ha, hb, e2⟩
theorem tr_parts {n : Str} {ps : List Tr} {v : V} (h : Dv K H (Tr.nd n ps).da v) : ∃ a b us, v = .ref a ∧ SqT K H a [.str n, .ref b] ∧ SqT K H b us ∧ Dvs K H (Tr.das ps) us := by
  rw [Tr.da] at h
  obtain ⟨a, xs, rfl, ha, h⟩ := dv_tuple.mp h
  rw [Dvs] at h; obtain ⟨v1, r1, rfl, e1, h⟩ := h
  rw [Dvs] at h; obtain ⟨v2, r2, rfl, e2, h⟩ := h
  rw [Dvs] at h; subst h
  rw [dv_str.mp e1] at ha
  obtain ⟨b, ys, rfl, hb, h⟩ := dv_tuple.mp e2
  exact ⟨a, b, ys, rfl, ha, hb, h⟩
theorem tr_tx {s : Str} {v : V} (h : Dv K H (Tr.tx s).da v) : v = .str s := by rw [Tr.da] at h; exact dv_str.mp h
theorem das_get {ts : List Tr} {us : List V} (h : Dvs K H (Tr.das ts) us) {i : Nat} {t : Tr} (e : ts[i]? = some t) : ∃ u, us[i]? = some u ∧ Dv K H t.da u :=
  h.get (by rw [das_map, List.getElem?_map, e]; rfl)
theorem das_len {ts : List Tr} {us : List V} (h : Dvs K H (Tr.das ts) us) : us.length = ts.length := by have := h.length; rw [das_map, List.length_map] at this; exact this
theorem isi_tr {t : Tr} {v : V} (h : Dv K H t.da v) (q : Q (.bl t.isTx) H) : rIsi K [v, .ty "str"] H Q := by
  cases t with
  | tx s => rw [tr_tx h]; exact v_isi (.str _) (b := true) rfl q
  | nd n ps => obtain ⟨a, b, us, rfl, ha, _⟩ := tr_parts h; exact v_isiT ha (b := false) rfl q
def sp_is_text (K : PySem.W.Frag) : Sp := fun vs H Q _ => ∃ (t : Tr) (v : V), vs = [v] ∧ Dv K H t.da v ∧ Q (.bl t.isTx) H
theorem len_is_text (K : PySem.W.Frag) : ∀ vs H Q E, sp_is_text K vs H Q E → vs.length = ["part"].length := by rintro vs H Q E ⟨t, v, rfl, _⟩; rfl
def R_is_text (K : PySem.W.Frag) : TS :=
 (tRet (tCB (rIsi K) (tCons (tVar 0) (tCons (tC (.ty "str")) tNil))))
theorem rd_is_text (h : sp_is_text K vs H Q E) : R_is_text K { nx := fun _ H' => Q .non H', rt := Q } (start ["part"] vs) H := by
  obtain ⟨t, v, rfl, hd, q⟩ := h
  show R_is_text K _ [some v] H
  unfold R_is_text
  walk_at "step"
  exact isi_tr hd q
def sp_parts_of (K : PySem.W.Frag) : Sp := fun vs H Q _ => ∃ (t : Tr) (v : V), vs = [v] ∧ Dv K H t.da v ∧ ∀ (p : Addr) (us : List V) (H' : Hp), Same H H' → SqT K H' p us → Dvs K H' (Tr.das t.kids) us → Q (.ref p) H'
theorem len_parts_of (K : PySem.W.Frag) : ∀ vs H Q E, sp_parts_of K vs H Q E → vs.length = ["part"].length := by rintro vs H Q E ⟨t, v, rfl, _⟩; rfl
def R_parts_of (K : PySem.W.Frag) : TS :=
 (tRet (tIf (tB (tCall (sp_is_text K) [] E0 (tCons (tVar 0) tNil))) (tTup tNil) (tOp (rIxA K) (tVar 0) (tC (.int 1)))))
theorem rd_parts_of (h : sp_parts_of K vs H Q E) : R_parts_of K { nx := fun _ H' => Q .non H', rt := Q } (start ["part"] vs) H := by
  obtain ⟨t, v, rfl, hd, q⟩ := h
  show R_parts_of K _ [some v] H
  unfold R_parts_of
  walk_at "step"
  refine ⟨t, v, rfl, hd, ?_⟩
  walk_at "step"
  cases t with
  | tx s =>
    refine iteT ?_
    walk_at "step"
    exact ⟨sl64 (by simp), fun p hp => q p [] _ (Same.new hp _) (SqT.of upd_same) (by show Dvs K _ (Tr.das []) []; rw [Tr.das]; exact dvs_nil)⟩
  | nd n ps =>
    obtain ⟨a, b, us, rfl, ha, hb, hu⟩ := tr_parts hd
    refine iteF ?_
    walk_at "step"
    refine v_ixT ha (v := .ref b) rfl ?_
    exact q b us H (fun _ _ e => e) hb hu
@[reducible] def T_steps_below_0 (K : PySem.W.Frag) : TS :=
 (tRet (tComp [some 0, some 2, none] (iRng3 (tCons (tOp (rI0 fun i j => .int (i - j)) (tCB (rLenA K) (tCons (tVar 2) tNil)) (tC (.int 1))) (tCons (tUn (rU fun i => .int (-i)) (tC (.int 1))) (tCons (tUn (rU fun i => .int (-i)) (tC (.int 1))) tNil)))) (gName 2) tTT (tTup (tCons (tOp (rAddB K) (tVar 0) (tTup (tCons (tVar 2) tNil))) (tCons (tOp (rIxA K) (tVar 1) (tVar 2)) tNil)))))
def sp_steps_below (K : PySem.W.Frag) : Sp := fun vs H Q _ => ∃ (pl : List Int) (t : Tr) (a : Addr) (v : V), vs = [.ref a, v] ∧ SqT K H a (intV pl) ∧ Dv K H t.da v ∧ pl.length + t.kids.length ≤ 90000 ∧ ∀ (p : Addr) (us : List V) (H' : Hp), Same H H' → H' p = some (.lst us) → H p = none → Dvs K H' ((kidsF pl 0 t.kids).reverse.map pD) us → Q (.ref p) H'
theorem len_steps_below (K : PySem.W.Frag) : ∀ vs H Q E, sp_steps_below K vs H Q E → vs.length = ["place", "part"].length := by rintro vs H Q E ⟨pl, t, a, v, rfl, _⟩; rfl
def R_steps_below (K : PySem.W.Frag) : TS :=
 (tSeq (tAsg (tCall (sp_parts_of K) [] E0 (tCons (tVar 1) tNil)) (gName 2))
 (T_steps_below_0 K))
theorem rd_steps_below (h : sp_steps_below K vs H Q E) : R_steps_below K { nx := fun _ H' => Q .non H', rt := Q } (start ["place", "part", "parts"] vs) H := by
  obtain ⟨pl, t, a, v, rfl, ha, hd, hz, q⟩ := h
  show R_steps_below K _ [some (.ref a), some v, none] H
  unfold R_steps_below
  walk_at "step"
  refine ⟨t, v, rfl, hd, fun p us H1 s1 hp hu => ?_⟩
  walk_at "step"
  have hul := das_len hu
  refine v_lenQ (.inr hp) ?_
  rw [hul]
  walk_at "step"
  refine ⟨1, rfl, ?_⟩
  walk_at "step"
  refine ⟨1, rfl, ?_⟩
  walk_at "step"
  refine rng3_comp (n := t.kids.length) (by omega) (fun i ys H' => Same H1 H' ∧ ys.length = i ∧ Dvs K H' (((kidsF pl 0 t.kids).reverse.take i).map pD) ys) ⟨fun _ _ e => e, rfl, dvs_nil⟩ ?_ ?_ ?_
  · rintro i ys H' hi ⟨_, hl, _⟩
    exact sl64 (by omega)
  · rintro i ys H' hi ⟨s2, hl, hds⟩
    walk_at "step"
    refine ⟨sl64 (by simp), fun c hc => ?_⟩
    have ha' : SqT K (upd H' c (.tup [V.int ((t.kids.length : Int) - 1 - i)])) a (intV pl) := Same.sqT (Same.tr (Same.tr s1 s2) (Same.new hc _)) ha
    refine v_catT ha' (SqT.of upd_same) (by rw [intV_len]; exact sl64 (by simp; omega)) fun t1 H2 st2 sq2 => ?_
    walk_at "step"
    have hp' : SqT K H2 p us := Same.sqT (Same.tr (Same.tr s2 (Same.new hc _)) st2) hp
    have hk : t.kids.length - 1 - i < t.kids.length := by omega
    obtain ⟨u, eu, du⟩ := das_get hu (List.getElem?_eq_getElem hk)
    have e1 : (t.kids.length : Int) - 1 - i = ((t.kids.length - 1 - i : Nat) : Int) := by omega
    rw [e1]
    refine v_ixT hp' (v := u) (atI_nat eu) ?_
    walk_at "step"
    refine ⟨sl64 (by simp), fun t2 ht2 => ?_⟩
    have s3 : Same H1 (upd H2 t2 (.tup [.ref t1, u])) := Same.tr s2 (Same.tr (Same.new hc _) (Same.tr st2 (Same.new ht2 _)))
    refine ⟨s3, by simp [hl], ?_⟩
    have s4 : Same H' (upd H2 t2 (.tup [.ref t1, u])) := Same.tr (Same.new hc _) (Same.tr st2 (Same.new ht2 _))
    rw [List.take_add_one, List.map_append]
    refine Dvs.append (Dvs.same s4 _ _ hds) ?_
    have eg : (kidsF pl 0 t.kids).reverse[i]? = some (pl ++ [((t.kids.length - 1 - i : Nat) : Int)], t.kids[t.kids.length - 1 - i]) := by
      rw [List.getElem?_reverse (by rw [kidsF_len]; omega), kidsF_len, kidsF_get, List.getElem?_eq_getElem hk]
      simp
    rw [eg]
    refine Dvs.one ?_
    unfold pD
    refine dv_tuple.mpr ⟨t2, _, rfl, SqT.of upd_same, dvs_cons (dv_tuple.mpr ⟨t1, _, rfl, Same.sqT (Same.new ht2 _) sq2, ?_⟩) (dvs_cons (Dv.same s3 _ _ du) dvs_nil)⟩
    rw [dvs_intD, e1]
    simp [intV]
  · rintro ys H' ⟨s2, hl, hds⟩ p2 hp2
    rw [List.take_of_length_le (by rw [List.length_reverse, kidsF_len]; exact Nat.le_refl _)] at hds
    have s5 := Same.tr s1 s2
    have hn : H p2 = none := by
      cases e : H p2 with
      | none => rfl
      | some o => have := s5 _ _ e; rw [hp2] at this; cases this
    exact q p2 ys _ (Same.tr s5 (Same.new hp2 _)) upd_same hn (Dvs.same (Same.new hp2 _) _ _ hds)
@[reducible] def T_placed_parts_0 (K : PySem.W.Frag) : TS :=
 (tDrop (tBM K "list" rExtend (tVar 2) (tCons (tCall (sp_steps_below K) [] E0 (tCons (tOp (rIxA K) (tVar 3) (tC (.int 0))) (tCons (tOp (rIxA K) (tVar 3) (tC (.int 1))) tNil))) tNil)))
@[reducible] def T_placed_parts_1 (K : PySem.W.Frag) : TS :=
 (tSeq (tAsg (tBM0 K "list" rPop (tVar 2)) (gName 3))
 (tSeq (tDrop (tBM K "list" rAppend (tVar 1) (tCons (tVar 3) tNil)))
 (T_placed_parts_0 K)))
@[reducible] def T_placed_parts_2 (K : PySem.W.Frag) : TS :=
 (tSeq (tWhile (tTest (tOp rGtA (tCB (rLenA K) (tCons (tVar 2) tNil)) (tC (.int 0))))
 (T_placed_parts_1 K))
 (tRet (tVar 1)))
@[reducible] def T_placed_parts_3 (K : PySem.W.Frag) : TS :=
 (tSeq (tAsg (tLst (tCons (tTup (tCons (tTup tNil) (tCons (tVar 0) tNil))) tNil)) (gName 2))
 (T_placed_parts_2 K))
def sp_placed_parts (K : PySem.W.Frag) : Sp := fun vs H Q _ => ∃ (t : Tr) (v : V), vs = [v] ∧ Dv K H t.da v ∧ wt t ≤ 40000 ∧ ∀ (p : Addr) (us : List V) (H' : Hp), Same H H' → H p = none → H' p = some (.lst us) → Dvs K H' ((pre [] t).map pD) us → Q (.ref p) H'
theorem len_placed_parts (K : PySem.W.Frag) : ∀ vs H Q E, sp_placed_parts K vs H Q E → vs.length = ["tree"].length := by rintro vs H Q E ⟨t, v, rfl, _⟩; rfl
def R_placed_parts (K : PySem.W.Frag) : TS :=
 (tSeq (tAsg (tLst tNil) (gName 1))
 (T_placed_parts_3 K))
theorem rd_placed_parts (h : sp_placed_parts K vs H Q E) : R_placed_parts K { nx := fun _ H' => Q .non H', rt := Q } (start ["tree", "placed", "ahead", "step"] vs) H := by
  obtain ⟨t, v, rfl, hd, hz, q⟩ := h
  show R_placed_parts K _ [some v, none, none, none] H
  unfold R_placed_parts
  have hpl := pre_wt [] t
  walk_at "step"
  refine ⟨sl64 (by simp), fun p1 hp1 => ?_⟩
  walk_at "step"
  refine ⟨sl64 (by simp), fun c0 hc0 => ?_⟩
  walk_at "step"
  refine ⟨sl64 (by simp), fun c1 hc1 => ?_⟩
  walk_at "step"
  refine ⟨sl64 (by simp), fun p2 hp2 => ?_⟩
  walk_at "step"
  have sA : Same H (upd (upd (upd (upd H p1 (.lst [])) c0 (.tup [])) c1 (.tup [.ref c0, v])) p2 (.lst [.ref c1])) := Same.tr (Same.new hp1 _) (Same.tr (Same.new hc0 _) (Same.tr (Same.new hc1 _) (Same.new hp2 _)))
  have n2 : H p2 = none := by
    cases e : H p2 with
    | none => rfl
    | some o => have := Same.tr (Same.new hp1 (.lst [])) (Same.tr (Same.new hc0 (.tup [])) (Same.new hc1 (.tup [.ref c0, v]))) _ _ e; rw [hp2] at this; cases this
  have np : p1 ≠ p2 := fun e => by
    have := Same.tr (Same.new hc0 (.tup [])) (Same.new hc1 (.tup [.ref c0, v])) p1 (.lst []) upd_same
    rw [← e] at hp2; rw [hp2] at this; cases this
  have hA1 : (upd (upd (upd (upd H p1 (.lst [])) c0 (.tup [])) c1 (.tup [.ref c0, v])) p2 (.lst [.ref c1])) p1 = some (.lst []) :=
    Same.tr (Same.new hc0 (.tup [])) (Same.tr (Same.new hc1 (.tup [.ref c0, v])) (Same.new hp2 _)) p1 (.lst []) upd_same
  have hA2 : (upd (upd (upd (upd H p1 (.lst [])) c0 (.tup [])) c1 (.tup [.ref c0, v])) p2 (.lst [.ref c1])) p2 = some (.lst [.ref c1]) := upd_same
  have hAd : Dvs K (upd (upd (upd (upd H p1 (.lst [])) c0 (.tup [])) c1 (.tup [.ref c0, v])) p2 (.lst [.ref c1])) [pD ([], t)] [.ref c1] := by
    refine Dvs.one ?_
    unfold pD
    have sc0 : Same (upd (upd H p1 (.lst [])) c0 (.tup [])) (upd (upd (upd (upd H p1 (.lst [])) c0 (.tup [])) c1 (.tup [.ref c0, v])) p2 (.lst [.ref c1])) := Same.tr (Same.new hc1 _) (Same.new hp2 _)
    have sc1 : Same (upd (upd (upd H p1 (.lst [])) c0 (.tup [])) c1 (.tup [.ref c0, v])) (upd (upd (upd (upd H p1 (.lst [])) c0 (.tup [])) c1 (.tup [.ref c0, v])) p2 (.lst [.ref c1])) := Same.new hp2 _
    exact dv_tuple.mpr ⟨c1, _, rfl, Same.sqT sc1 (SqT.of upd_same), dvs_cons (dv_tuple.mpr ⟨c0, [], rfl, Same.sqT sc0 (SqT.of upd_same), dvs_nil⟩) (dvs_cons (Dv.same sA _ _ hd) dvs_nil)⟩
  generalize (upd (upd (upd (upd H p1 (.lst [])) c0 (.tup [])) c1 (.tup [.ref c0, v])) p2 (.lst [.ref c1])) = HA at *
  let Pv0 : St → Hp → Prop := fun σ H' => ∃ (w : Option V) (us ws : List V) (done stk : List (List Int × Tr)), σ = [some v, some (.ref p1), some (.ref p2), w] ∧ Same H H' ∧ H' p1 = some (.lst us) ∧ H' p2 = some (.lst ws) ∧ Dvs K H' (done.map pD) us ∧ Dvs K H' (stk.reverse.map pD) ws ∧ done ++ flat stk = pre [] t
  refine while_raw Pv0
    (fun σ H' => match H' p1 with | some (.lst us) => (pre [] t).length - us.length | _ => 0) ⟨none, [], [.ref c1], [], [([], t)], rfl, sA, hA1, hA2, dvs_nil, hAd, by simp [flat]⟩ ?_
  rintro σ H' ⟨w, us, ws, done, stk, rfl, s1, h1, h2, d1, d2, e⟩
  have hel : done.length + (flat stk).length = (pre [] t).length := by rw [← e, List.length_append]
  have hdl : us.length = done.length := by have := d1.length; rw [List.length_map] at this; exact this
  have hwl : ws.length = stk.length := by have := d2.length; rw [List.length_map, List.length_reverse] at this; exact this
  walk_at "step"
  refine v_lenQ (.inl (SqL.of h2)) ?_
  walk_at "step"
  rw [hwl]
  cases stk with
  | nil =>
    refine iteF ?_
    walk_at "step"
    have : done = pre [] t := by simpa [flat] using e
    rw [this] at d1
    exact q p1 us H' s1 hp1 h1 d1
  | cons pt rest =>
    rw [decide_eq_true (by rw [List.length_cons]; omega)]
    refine iteT ?_
    obtain ⟨pl, u⟩ := pt
    rw [List.reverse_cons, List.map_append] at d2
    obtain ⟨ws', y, rfl, d3, d4⟩ := Dvs.snoc d2
    rw [flat_cons] at e hel
    dsimp only at e hel
    rw [List.length_cons, flat_app, List.length_append] at hel
    have hm : (pl, u) ∈ pre [] t := by rw [← e]; simp
    have hplw := pre_pl [] t _ hm
    have hkw : (flat (kidsF pl 0 u.kids)).length ≥ u.kids.length := by
      have : ∀ (l : List (List Int × Tr)), l.length ≤ (flat l).length := fun l => by
        induction l with
        | nil => exact Nat.zero_le _
        | cons p r ih => rw [flat_cons, flat_app, List.length_cons, List.length_cons, List.length_append]; omega
      have := this (kidsF pl 0 u.kids)
      rw [kidsF_len] at this; exact this
    have hrl : rest.length ≤ (flat rest).length := by
      have : ∀ (l : List (List Int × Tr)), l.length ≤ (flat l).length := fun l => by
        induction l with
        | nil => exact Nat.zero_le _
        | cons p r ih => rw [flat_cons, flat_app, List.length_cons, List.length_cons, List.length_append]; omega
      exact this rest
    dsimp only at hplw
    rw [List.length_nil] at hplw
    let Nv1 : St → Hp → Prop := fun σ' H'' => ∃ (w : Option V) (us ws : List V) (stk : List (List Int × Tr)), σ' = [some v, some (.ref p1), some (.ref p2), w] ∧ Same H H'' ∧ H'' p1 = some (.lst us) ∧ H'' p2 = some (.lst ws) ∧ Dvs K H'' ((done ++ [(pl, u)]).map pD) us ∧ Dvs K H'' (stk.reverse.map pD) ws ∧ done ++ [(pl, u)] ++ flat stk = pre [] t
    refine ⟨Nv1, ?_, ?_⟩
    · rintro σ' H'' ⟨w, us', ws, stk, rfl, s1', h1', h2', d1', d2', e'⟩
      have hl' : us'.length = done.length + 1 := by have := d1'.length; rw [List.length_map, List.length_append] at this; exact this
      refine ⟨_, ?_, rfl, w, us', ws, _, stk, rfl, s1', h1', h2', d1', d2', e'⟩
      dsimp only
      rw [h1, h1']
      dsimp only
      omega
    · walk_at "step"
      refine ⟨.inl ⟨rfl, _, SqL.of h2⟩, ?_⟩
      refine v_pop h2 ?_
      walk_at "step"
      have h1' : (upd H' p2 (.lst ws')) p1 = some (.lst us) := by rw [upd_ne np]; exact h1
      refine ⟨.inl ⟨rfl, _, SqL.of h1'⟩, ?_⟩
      walk_at "step"
      refine v_append h1' (by rw [sizeLine_eq]; omega) ?_
      walk_at "step"
      have sB : Same H (upd (upd H' p2 (.lst ws')) p1 (.lst (us ++ [y]))) := Same.put (Same.put s1 n2 _) hp1 _
      have tB : TupK H' (upd (upd H' p2 (.lst ws')) p1 (.lst (us ++ [y]))) := (tupK_lst h2).trans (tupK_lst h1')
      have hB1 : (upd (upd H' p2 (.lst ws')) p1 (.lst (us ++ [y]))) p1 = some (.lst (us ++ [y])) := upd_same
      have hB2 : (upd (upd H' p2 (.lst ws')) p1 (.lst (us ++ [y]))) p2 = some (.lst ws') := by rw [upd_ne (Ne.symm np)]; exact upd_same
      have dB1 : Dvs K (upd (upd H' p2 (.lst ws')) p1 (.lst (us ++ [y]))) ((done ++ [(pl, u)]).map pD) (us ++ [y]) := by
        rw [List.map_append]
        exact Dvs.tupK tB _ _ (by rw [← List.map_append]; exact fixs_map pD_fix _) (Dvs.append d1 (Dvs.one d4))
      have dB2 : Dvs K (upd (upd H' p2 (.lst ws')) p1 (.lst (us ++ [y]))) (rest.reverse.map pD) ws' := Dvs.tupK tB _ _ (fixs_map pD_fix _) d3
      have dBy : Dv K (upd (upd H' p2 (.lst ws')) p1 (.lst (us ++ [y]))) (pD (pl, u)) y := Dv.tupK tB _ _ (pD_fix _) d4
      generalize (upd (upd H' p2 (.lst ws')) p1 (.lst (us ++ [y]))) = HB at *
      refine ⟨.inl ⟨rfl, _, SqL.of hB2⟩, ?_⟩
      obtain ⟨a, bq, uu, rfl, ha, hb, hu⟩ := pD_parts dBy
      walk_at "step"
      refine v_ixT ha (v := .ref bq) rfl ?_
      walk_at "step"
      refine v_ixT ha (v := uu) rfl ?_
      walk_at "step"
      refine ⟨pl, u, bq, uu, rfl, hb, hu, by omega, fun p3 zs HC sC hC3 n3 dC => ?_⟩
      walk_at "step"
      have hC2 := sC _ _ hB2
      have hzl : zs.length = u.kids.length := by have := dC.length; rw [List.length_map, List.length_reverse, kidsF_len] at this; exact this
      have hwl' : ws'.length = rest.length := by have := d3.length; rw [List.length_map, List.length_reverse] at this; exact this
      refine v_extend hC2 hC3 (sl64 (by omega)) ?_
      walk_at "step"
      have hC1 := sC _ _ hB1
      have tC : TupK HC (upd HC p2 (.lst (ws' ++ zs))) := tupK_lst hC2
      refine ⟨_, _, _, kidsF pl 0 u.kids ++ rest, rfl, Same.put (Same.tr sB sC) n2 _, by rw [upd_ne np]; exact hC1, upd_same, Dvs.tupK tC _ _ (fixs_map pD_fix _) (Dvs.same sC _ _ dB1), ?_, by simp [e]⟩
      rw [List.reverse_append, List.map_append]
      refine Dvs.tupK tC _ _ (by rw [← List.map_append]; exact fixs_map pD_fix _) (Dvs.append (Dvs.same sC _ _ dB2) dC)
theorem Row.fix (r : Row) : L2.fix r.da = true := by
  unfold Row.da
  have hs : ∀ xs : List Str, fixs (sDa xs) = true := fun xs => fixs_map (f := PyData.str) (fun x => by rw [L2.fix]) xs
  rw [L2.fix, fixs, fixs, fixs, fixs, fixs, fixs, L2.fix, L2.fix, L2.fix, L2.fix, L2.fix, hs, hs]; rfl
theorem ins_dvs {ds : List PyData} {d : PyData} {us : List V} {u : V} {k : Nat} (h : Dvs K H ds us) (hd : Dv K H d u) (hk : k ≤ us.length) : Dvs K H (insAt ds k d) (insAt us k u) := by
  have hl := h.length
  refine dvs_iff_get ?_ ?_
  · unfold insAt; simp; omega
  · intro i e v he hv
    unfold insAt at he hv
    have ld : (ds.take k).length = k := by rw [List.length_take]; omega
    have lu : (us.take k).length = k := by rw [List.length_take]; omega
    by_cases h1 : i < k
    · rw [List.getElem?_append_left (by omega), List.getElem?_take_of_lt h1] at he
      rw [List.getElem?_append_left (by omega), List.getElem?_take_of_lt h1] at hv
      obtain ⟨v', hv', dv'⟩ := h.get he
      rw [hv] at hv'; cases hv'; exact dv'
    · rw [List.getElem?_append_right (by omega), ld] at he
      rw [List.getElem?_append_right (by omega), lu] at hv
      by_cases h2 : i = k
      · subst h2
        rw [Nat.sub_self] at he hv
        cases he; cases hv; exact hd
      · obtain ⟨j, rfl⟩ : ∃ j, i = k + 1 + j := ⟨i - (k + 1), by omega⟩
        rw [show k + 1 + j - k = j + 1 by omega, List.getElem?_cons_succ, List.getElem?_drop] at he hv
        obtain ⟨v', hv', dv'⟩ := h.get he
        rw [hv] at hv'; cases hv'; exact dv'
theorem insAt_map {α β : Type} (f : α → β) (l : List α) (k : Nat) (x : α) : (insAt l k x).map f = insAt (l.map f) k (f x) := by unfold insAt; simp
theorem insAt_len {α : Type} (l : List α) (k : Nat) (x : α) (h : k ≤ l.length) : (insAt l k x).length = l.length + 1 := by unfold insAt; simp; omega
theorem insAt_mem {α : Type} {l : List α} {k : Nat} {x y : α} (h : y ∈ insAt l k x) : y = x ∨ y ∈ l := by
  unfold insAt at h
  rcases List.mem_append.mp h with h | h
  · exact .inr (List.mem_of_mem_take h)
  · rcases List.mem_cons.mp h with h | h
    · exact .inl h
    · exact .inr (List.mem_of_mem_drop h)
theorem da_nd {n : Str} {ps : List Tr} {r t : Addr} {us : List V} (h1 : SqT K H r [.str n, .ref t]) (h2 : SqT K H t us) (h3 : Dvs K H (Tr.das ps) us) : Dv K H (Tr.nd n ps).da (.ref r) := by
  rw [Tr.da]
  exact dv_tuple.mpr ⟨r, _, rfl, h1, dvs_cons (dv_str.mpr rfl) (dvs_cons (dv_tuple.mpr ⟨t, us, rfl, h2, h3⟩) dvs_nil)⟩
theorem da_tx (s : Str) : Dv K H (Tr.tx s).da (.str s) := by rw [Tr.da]; exact dv_str.mpr rfl
mutual
def hgt : Tr → Nat
  | .tx _ => 0
  | .nd _ ps => 1 + hgts ps
def hgts : List Tr → Nat
  | [] => 0
  | t :: ts => max (hgt t) (hgts ts)
end
theorem wts_app : ∀ a b : List Tr, wts (a ++ b) = wts a + wts b
  | [], b => by rw [List.nil_append, wts, Nat.zero_add]
  | t :: a, b => by rw [List.cons_append, wts, wts, wts_app a b]; omega
theorem hgts_app : ∀ a b : List Tr, hgts (a ++ b) = max (hgts a) (hgts b)
  | [], b => by rw [List.nil_append, hgts]; omega
  | t :: a, b => by rw [List.cons_append, hgts, hgts, hgts_app a b]; omega
mutual
theorem pre_h (pl : List Int) : ∀ (t : Tr) (p : List Int × Tr), p ∈ pre pl t → p.1.length ≤ pl.length + hgt t
  | .tx s, p, h => by rw [pre, List.mem_singleton] at h; subst h; show pl.length ≤ _; omega
  | .nd n ps, p, h => by
    rw [pre, List.mem_cons] at h
    rw [hgt]
    rcases h with rfl | h
    · show pl.length ≤ _; omega
    · have := pres_h pl 0 ps p h; omega
theorem pres_h (pl : List Int) (k : Nat) : ∀ (ts : List Tr) (p : List Int × Tr), p ∈ pres pl k ts → p.1.length ≤ pl.length + 1 + hgts ts
  | [], p, h => by rw [pres] at h; cases h
  | t :: ts, p, h => by
    rw [pres, List.mem_append] at h
    rw [hgts]
    rcases h with h | h
    · have := pre_h _ t p h; rw [List.length_append, List.length_singleton] at this; omega
    · have := pres_h pl (k + 1) ts p h; omega
end
end My
namespace My
open PySem L2
variable {K : PySem.W.Frag} {vs : List V} {H : Hp} {Q : VK} {E : XK}
@[reducible] def T__law_numbers_0 (K : PySem.W.Frag) : TS :=
 (tAsg (tOp (rI CDiv fun i j => .int (i / j)) (tOp (rIxA K) (tVar 2) (tC (.int 0))) (tC (.int 2))) (gSub (tVar 2) (tC (.int 0)) rSetA))
@[reducible] def T__law_numbers_1 (K : PySem.W.Frag) : TS :=
 (tSeq (tAsg (tOp (rI (fun _ j => 0 < j) fun i j => .int (i % j)) (tOp (rIxA K) (tVar 2) (tC (.int 0))) (tC (.int 2))) (gName 3))
 (T__law_numbers_0 K))
@[reducible] def T__law_numbers_2 (K : PySem.W.Frag) : TS :=
 (tSeq (tAsg (tOp (rI (fun _ j => 0 < j) fun i j => .int (i % j)) (tOp (rAddA K) (tOp (rAddA K) (tOp rMulA (tVar 4) (tVar 4)) (tOp rMulA (tC (.int 69621)) (tVar 4))) (tC (.int 7))) (tC (.int 2147483629))) (gName 4))
 (tDrop (tBM K "list" rAppend (tVar 2) (tCons (tVar 4) tNil))))
@[reducible] def T__law_numbers_3 (K : PySem.W.Frag) : TS :=
 (tSeq (tAsg (tOp (rI (fun _ j => 0 < j) fun i j => .int (i % j)) (tOp (rAddA K) (tOp (rAddA K) (tOp rMulA (tVar 4) (tVar 4)) (tOp rMulA (tC (.int 48271)) (tVar 4))) (tCB (rLenA K) (tCons (tVar 2) tNil))) (tC (.int 2147483647))) (gName 4))
 (T__law_numbers_2 K))
@[reducible] def T__law_numbers_4 (K : PySem.W.Frag) : TS :=
 (tSeq (tWhile (tTest (tOp rLtA (tCB (rLenA K) (tCons (tVar 2) tNil)) (tVar 1)))
 (T__law_numbers_3 K))
 (tRet (tOp (rAddA K) (tLst (tCons (tVar 3) tNil)) (tRev3 K (tVar 2)))))
def numT (K : PySem.W.Frag) : TS :=
 (tSeq (tAsg (tOp (rAddA K) (tC (.int 48271)) (tOp (rI (fun _ j => 0 < j) fun i j => .int (i % j)) (tCB (r_sum K) (tCons (tVar 2) tNil)) (tC (.int 2147483647)))) (gName 4))
 (T__law_numbers_4 K))
@[reducible] def T__law_name_0 (K : PySem.W.Frag) : TS :=
 (tRet (tOp rMulA (tOp (rIxA K) (tVar 2) (tOp (rI (fun _ j => 0 < j) fun i j => .int (i % j)) (tOp (rAddA K) (tVar 3) (tOp (rI CDiv fun i j => .int (i / j)) (tVar 1) (tC (.int 8)))) (tC (.int 26)))) (tOp (rAddA K) (tC (.int 1)) (tOp (rI (fun _ j => 0 < j) fun i j => .int (i % j)) (tVar 1) (tC (.int 8))))))
def nameT (K : PySem.W.Frag) : TS :=
 (tAsg (tOp (rAddA K) (tVar 6) (tOp (rIxA K) (tVar 2) (tOp (rI (fun _ j => 0 < j) fun i j => .int (i % j)) (tOp (rAddA K) (tVar 3) (tVar 8)) (tC (.int 26))))) (gName 6))
@[reducible] def T__law_numbers_6 (K : PySem.W.Frag) : TS :=
 (tSeq (tIfS (tTest (tOp (rNeA K) (tVar 2) (tLst tNil)))
 (T__law_numbers_1 K) tNext)
 (numT K))
def sp__law_numbers (K : PySem.W.Frag) : Sp := fun vs H Q _ => ∃ (a : Addr) (ns : List Int) (m : Nat), vs = [.ref a, .int m] ∧ SqL K H a (intV ns) ∧ m ≤ 900 ∧ ∀ (d : Addr) (H' : Hp), Same H H' → H d = none → Dk H' d → Q (.ref d) H'
theorem len__law_numbers (K : PySem.W.Frag) : ∀ vs H Q E, sp__law_numbers K vs H Q E → vs.length = ["_law_script", "_law_most"].length := by rintro vs H Q E ⟨a, ns, m, rfl, _⟩; rfl
def R__law_numbers (K : PySem.W.Frag) : TS :=
 (tSeq (tAsg (tCB (rListA K) (tCons (tSl (rSlA K) (tVar 0) tNoPart (tPart (tC (.int 63)))) tNil)) (gName 2))
 (tSeq (tAsg (tC (.int 0)) (gName 3))
 (T__law_numbers_6 K)))
theorem rd__law_numbers (h : sp__law_numbers K vs H Q E) : R__law_numbers K { nx := fun _ H' => Q .non H', rt := Q } (start ["_law_script", "_law_most", "_law_deck", "_law_kind", "_law_last"] vs) H := by
  obtain ⟨sc, ns, m, rfl, hS, hm, q⟩ := h
  show R__law_numbers K _ [some (.ref sc), some (.int m), none, none, none] H
  unfold R__law_numbers
  walk_at "step"
  refine v_slL hS fun p hp => ?_
  walk_at "step"
  obtain ⟨ms, ems, hms⟩ : ∃ ms : List Int, cutV (intV ns) none (some 63) = intV ms ∧ ms.length ≤ 63 := by
    refine ⟨ns.take 63, ?_, by rw [List.length_take]; omega⟩
    have : cutV (intV ns) none (some 63) = (intV ns).take 63 := by
      unfold cutV
      show ((intV ns).drop 0).take (HT.sIx (intV ns).length (intV ns).length (some 63) - 0) = _
      rw [List.drop_zero, Nat.sub_zero]
      unfold HT.sIx
      simp only []
      by_cases h : (intV ns).length ≤ 63
      · rw [List.take_of_length_le h, List.take_of_length_le]
        simp; omega
      · congr 1
        simp; omega
    rw [this]; unfold intV; rw [List.map_take]
  rw [ems]
  refine ⟨p, _, rfl, .inl (SqL.of upd_same), fun d hd => ?_⟩
  have s1 : Same H (upd (upd H p (.lst (intV ms))) d (.lst (intV ms))) := Same.tr (Same.new hp _) (Same.new hd _)
  have hd1 : (upd (upd H p (.lst (intV ms))) d (.lst (intV ms))) d = some (.lst (intV ms)) := upd_same
  have hd0 : H d = none := by
    cases e : H d with
    | none => rfl
    | some o => have := Same.new hp (.lst (intV ms)) _ _ e; rw [hd] at this; cases this
  generalize upd (upd H p (.lst (intV ms))) d (.lst (intV ms)) = H1 at *
  walk_at "step"
  refine ⟨sl64 (by simp), fun e he => ?_⟩
  have hd2 : (upd H1 e (.lst [])) d = some (.lst (intV ms)) := by rw [upd_ne (ne_free hd1 he)]; exact hd1
  have s2 : Same H (upd H1 e (.lst [])) := Same.tr s1 (Same.new he _)
  have he2 : (upd H1 e (.lst [])) e = some (.lst []) := upd_same
  generalize upd H1 e (.lst []) = H2 at *
  refine v_neE (ds := intD ms) (dv_list.mpr ⟨d, _, rfl, SqL.of hd2, dvs_intD.mpr rfl⟩) he2 ?_
  walk_at "step"
  have fin : ∀ (ms : List Int) (kind : Int) (H2 : Hp), Same H H2 → H2 d = some (.lst (intV ms)) → ms.length ≤ 63 → (numT K) { nx := fun _ H' => Q .non H', rt := Q } [some (.ref sc), some (.int m), some (.ref d), some (.int kind), none] H2 := by
    clear hd1 hd2 s1 s2 he2 ems
    intro ms kind H2 s2 hd2 hms
    unfold numT
    walk_at "step"
    refine v_sum (js := ms) (SqL.of hd2) fun j => ?_
    walk_at "step"
    have j0 := Int.emod_nonneg j (show (2147483647 : Int) ≠ 0 by decide)
    have j1 := Int.emod_lt_of_pos j (show (0 : Int) < 2147483647 by decide)
    generalize hL : 48271 + j % 2147483647 = L at *
    let Pv0 : St → Hp → Prop := fun σ H' => ∃ (L : Int) (ms : List Int), σ = [some (.ref sc), some (.int m), some (.ref d), some (.int kind), some (.int L)] ∧ Same H H' ∧ H' d = some (.lst (intV ms)) ∧ ms.length ≤ 900 ∧ 0 ≤ L ∧ L < 2 ^ 40
    refine while_raw Pv0
      (fun σ H' => match H' d with | some (.lst us) => m - us.length | _ => 0) ⟨L, ms, rfl, s2, hd2, by omega, by omega, by omega⟩ ?_
    rintro σ H' ⟨L, ms, rfl, s1, h1, hl, l0, l1⟩
    walk_at "step"
    refine v_lenQ (.inl (SqL.of h1)) ?_
    rw [intV_len]
    walk_at "step"
    by_cases hlt : ((ms.length : Nat) : Int) < (m : Int)
    · rw [decide_eq_true hlt]
      refine iteT ?_
      let Nv1 : St → Hp → Prop := fun σ' H'' => ∃ (L : Int) (ms' : List Int), σ' = [some (.ref sc), some (.int m), some (.ref d), some (.int kind), some (.int L)] ∧ Same H H'' ∧ H'' d = some (.lst (intV ms')) ∧ ms'.length = ms.length + 1 ∧ 0 ≤ L ∧ L < 2 ^ 40
      refine ⟨Nv1, ?_, ?_⟩
      · rintro σ' H'' ⟨L', ms', rfl, s1', h1', hl', l0', l1'⟩
        refine ⟨_, ?_, rfl, L', ms', rfl, s1', h1', by omega, l0', l1'⟩
        dsimp only
        rw [h1, h1']
        dsimp only
        rw [intV_len, intV_len]
        omega
      · walk_at "step"
        refine v_mulI (.inl ⟨by omega, by omega⟩) ?_
        walk_at "step"
        refine v_mulI (.inl ⟨by decide, by decide⟩) ?_
        walk_at "step"
        refine v_lenQ (.inl (SqL.of h1)) ?_
        walk_at "step"
        generalize hX : (L * L + 48271 * L + ((intV ms).length : Int)) % 2147483647 = Y
        have y0 : 0 ≤ Y := by rw [← hX]; exact Int.emod_nonneg _ (by decide)
        have y1 : Y < 2147483647 := by rw [← hX]; exact Int.emod_lt_of_pos _ (by decide)
        refine v_mulI (.inl ⟨by omega, by omega⟩) ?_
        walk_at "step"
        refine v_mulI (.inl ⟨by decide, by decide⟩) ?_
        walk_at "step"
        generalize hX2 : (Y * Y + 69621 * Y + 7) % 2147483629 = Z
        have z0 : 0 ≤ Z := by rw [← hX2]; exact Int.emod_nonneg _ (by decide)
        have z1 : Z < 2147483629 := by rw [← hX2]; exact Int.emod_lt_of_pos _ (by decide)
        refine ⟨.inl ⟨rfl, _, SqL.of h1⟩, ?_⟩
        walk_at "step"
        refine v_append h1 (by rw [intV_len, sizeLine_eq]; omega) ?_
        exact ⟨Z, ms ++ [Z], rfl, Same.put s1 hd0 _, by rw [← intV_app]; exact upd_same, by simp, z0, by omega⟩
    · rw [decide_eq_false hlt]
      refine iteF ?_
      walk_at "step"
      refine ⟨sl64 (by simp), fun x hx => ?_⟩
      walk_at "step"
      have hd3 : (upd H' x (.lst [.int kind])) d = some (.lst (intV ms)) := by rw [upd_ne (ne_free h1 hx)]; exact h1
      refine ⟨d, _, rfl, SqL.of hd3, fun y hy => ?_⟩
      have hx4 : (upd (upd H' x (.lst [.int kind])) y (.lst (intV ms).reverse)) x = some (.lst [.int kind]) := by rw [upd_ne (ne_free upd_same hy)]; exact upd_same
      refine v_cat hx4 upd_same (by rw [List.length_reverse, intV_len]; exact sl64 (by simp; omega)) fun r hr => ?_
      have sx : Same H (upd (upd (upd H' x (.lst [.int kind])) y (.lst (intV ms).reverse)) r (.lst ([.int kind] ++ (intV ms).reverse))) := Same.tr s1 (Same.tr (Same.new hx _) (Same.tr (Same.new hy _) (Same.new hr _)))
      have hr0 : H r = none := by
        cases e : H r with
        | none => rfl
        | some o => have := Same.tr s1 (Same.tr (Same.new hx (.lst [.int kind])) (Same.new hy (.lst (intV ms).reverse))) _ _ e; rw [hr] at this; cases this
      refine q r _ sx hr0 ⟨kind :: ms.reverse, ?_, by simp, by simp; omega⟩
      rw [upd_same]
      simp [intV]
  cases ms with
  | nil =>
    refine iteF ?_
    walk_at "step"
    exact fin [] 0 H2 s2 hd2 (by simp)
  | cons y ys =>
    refine iteT ?_
    walk_at "step"
    refine v_ixL (SqL.of hd2) (v := .int y) (atI_nat (j := 0) rfl) ?_
    walk_at "step"
    refine v_ixL (SqL.of hd2) (v := .int y) (atI_nat (j := 0) rfl) ?_
    walk_at "step"
    refine .inl (v_setL hd2 (j := 0) (ixN_0 (by simp [intV])) ?_)
    walk_at "step"
    exact fin ((y / 2) :: ys) _ _ (Same.put s2 hd0 _) (by rw [upd_same]; simp [intV]) (by simpa using hms)
@[reducible] def T__law_draw_0 (K : PySem.W.Frag) : TS :=
 (tDrop (tBM K "list" rAppend (tVar 0) (tCons (tOp (rI CDivW fun i j => .int (i / j)) (tVar 2) (tVar 1)) tNil)))
@[reducible] def T__law_draw_1 (K : PySem.W.Frag) : TS :=
 (tSeq (tIfS (tAnd (tTest (tOp (rEqA K) (tOp (rIxA K) (tVar 0) (tC (.int 0))) (tC (.int 1)))) (tTest (tOp (rNeA K) (tOp (rI CDivW fun i j => .int (i / j)) (tVar 2) (tVar 1)) (tC (.int 0)))))
 (T__law_draw_0 K) tNext)
 (tRet (tOp (rI (fun _ j => 0 < j) fun i j => .int (i % j)) (tVar 2) (tVar 1))))
def sp__law_draw (K : PySem.W.Frag) : Sp := fun vs H Q _ => ∃ (d : Addr) (m : Int), vs = [.ref d, .int m] ∧ 0 < m ∧ m < 2 ^ 200 ∧ Dk H d ∧ ∀ (n : Int) (H' : Hp), 0 ≤ n → n < m → Mv d H H' → Q (.int n) H'
theorem len__law_draw (K : PySem.W.Frag) : ∀ vs H Q E, sp__law_draw K vs H Q E → vs.length = ["_law_deck", "_law_most"].length := by rintro vs H Q E ⟨d, m, rfl, _⟩; rfl
def R__law_draw (K : PySem.W.Frag) : TS :=
 (tSeq (tIfS (tTest (tOp (rEqA K) (tCB (rLenA K) (tCons (tVar 0) tNil)) (tC (.int 1))))
 (tRet (tC (.int 0))) tNext)
 (tSeq (tAsg (tBM0 K "list" rPop (tVar 0)) (gName 2))
 (T__law_draw_1 K)))
theorem rd__law_draw (h : sp__law_draw K vs H Q E) : R__law_draw K { nx := fun _ H' => Q .non H', rt := Q } (start ["_law_deck", "_law_most", "_law_number"] vs) H := by
  obtain ⟨d, m, rfl, h0, h1, ⟨ns, hd, hl, hz⟩, q⟩ := h
  show R__law_draw K _ [some (.ref d), some (.int m), none] H
  unfold R__law_draw
  walk_at "step"
  refine v_lenQ (.inl (SqL.of hd)) ?_
  rw [intV_len]
  walk_at "step"
  by_cases e1 : ((ns.length : Nat) : Int) = 1
  · rw [decide_eq_true e1]; refine iteT ?_
    walk_at "step"
    exact q 0 H (by decide) h0 (Mv.refl ⟨ns, hd, hl, hz⟩)
  · rw [decide_eq_false e1]; refine iteF ?_
    obtain ⟨x, xs, y, rfl⟩ : ∃ x xs y, ns = x :: (xs ++ [y]) := by
      cases ns with
      | nil => simp at hl
      | cons x r =>
        have hr : r ≠ [] := fun z => by rw [z] at e1; exact e1 rfl
        exact ⟨x, r.dropLast, r.getLast hr, by rw [List.dropLast_concat_getLast hr]⟩
    walk_at "step"
    refine ⟨.inl ⟨rfl, _, SqL.of hd⟩, ?_⟩
    have hd' : H d = some (.lst (intV (x :: xs) ++ [.int y])) := by rw [hd]; simp [intV]
    refine v_pop hd' ?_
    walk_at "step"
    have b1 : But [d] H (upd H d (.lst (intV (x :: xs)))) := But.upd (by simp) _
    have hd2 : (upd H d (.lst (intV (x :: xs)))) d = some (.lst (intV (x :: xs))) := upd_same
    have n0 := Int.emod_nonneg y (show m ≠ 0 by omega)
    have n1 := Int.emod_lt_of_pos y h0
    have dk1 : Dk (upd H d (.lst (intV (x :: xs)))) d := ⟨x :: xs, hd2, by simp, by simp at hz ⊢; omega⟩
    refine v_ixL (SqL.of hd2) (v := .int x) (atI_nat (j := 0) rfl) ?_
    walk_at "step"
    by_cases ex : x = 1
    · rw [decide_eq_true ex]; refine iteT ?_
      walk_at "step"
      refine v_fdivW ⟨h0, h1⟩ ?_
      walk_at "step"
      by_cases ez : y / m = 0
      · rw [decide_eq_true ez]; refine iteF ?_
        walk_at "step"
        exact q _ _ n0 n1 ⟨b1, dk1⟩
      · rw [decide_eq_false ez]; refine iteT ?_
        walk_at "step"
        refine ⟨.inl ⟨rfl, _, SqL.of hd2⟩, ?_⟩
        walk_at "step"
        refine v_fdivW ⟨h0, h1⟩ ?_
        walk_at "step"
        refine v_append hd2 (by rw [intV_len, sizeLine_eq]; simp at hz ⊢; omega) ?_
        walk_at "step"
        refine q _ _ n0 n1 ⟨But.tr b1 (But.upd (by simp) _), (x :: xs) ++ [y / m], ?_, by simp, by simp at hz ⊢; omega⟩
        rw [upd_same, intV_app]
    · rw [decide_eq_false ex]; refine iteF ?_
      refine iteF ?_
      walk_at "step"
      exact q _ _ n0 n1 ⟨b1, dk1⟩
@[reducible] def T__law_name_2 (K : PySem.W.Frag) : TS :=
 (tSeq (tIfS (tTest (tOp (rEqA K) (tVar 7) (tVar 5)))
 (tAsg (tOp (rAddA K) (tVar 8) (tVar 1)) (gName 8)) tNext)
 (nameT K))
@[reducible] def T__law_name_3 (K : PySem.W.Frag) : TS :=
 (tSeq (tAsg (tOp rMulA (tOp (rI (fun _ j => 0 < j) fun i j => .int (i % j)) (tOp (rI CDiv fun i j => .int (i / j)) (tVar 0) (tC (.int 1664))) (tC (.int 3))) (tVar 7)) (gName 8))
 (T__law_name_2 K))
@[reducible] def T__law_name_4 (K : PySem.W.Frag) : TS :=
 (tSeq (tAsg (tC (.str ("" : Str))) (gName 6))
 (tSeq (tFor (iRng1 (tCons (tVar 4) tNil)) (gName 7)
 (T__law_name_3 K))
 (tRet (tVar 6))))
@[reducible] def T__law_name_5 (K : PySem.W.Frag) : TS :=
 (tSeq (tAsg (tOp (rI (fun _ j => 0 < j) fun i j => .int (i % j)) (tOp (rI CDiv fun i j => .int (i / j)) (tVar 0) (tC (.int 8))) (tVar 4)) (gName 5))
 (T__law_name_4 K))
@[reducible] def T__law_name_6 (K : PySem.W.Frag) : TS :=
 (tSeq (tAsg (tOp (rAddA K) (tC (.int 1)) (tOp (rI (fun _ j => 0 < j) fun i j => .int (i % j)) (tVar 0) (tC (.int 8)))) (gName 4))
 (T__law_name_5 K))
@[reducible] def T__law_name_7 (K : PySem.W.Frag) : TS :=
 (tSeq (tIfS (tTest (tOp (rEqA K) (tOp (rI (fun _ j => 0 < j) fun i j => .int (i % j)) (tOp (rI CDiv fun i j => .int (i / j)) (tVar 0) (tC (.int 1664))) (tC (.int 3))) (tC (.int 2))))
 (T__law_name_0 K) tNext)
 (T__law_name_6 K))
@[reducible] def T__law_name_8 (K : PySem.W.Frag) : TS :=
 (tSeq (tAsg (tOp (rI (fun _ j => 0 < j) fun i j => .int (i % j)) (tOp (rI CDiv fun i j => .int (i / j)) (tVar 0) (tC (.int 64))) (tC (.int 26))) (gName 3))
 (T__law_name_7 K))
def sp__law_name (K : PySem.W.Frag) : Sp := fun vs H Q _ => ∃ c k : Int, vs = [.int c, .int k] ∧ ∀ x : Str, 1 ≤ x.length → x.length ≤ 8 → Q (.str x) H
theorem len__law_name (K : PySem.W.Frag) : ∀ vs H Q E, sp__law_name K vs H Q E → vs.length = ["_law_code", "_law_k"].length := by rintro vs H Q E ⟨c, k, rfl, _⟩; rfl
def R__law_name (K : PySem.W.Frag) : TS :=
 (tSeq (tAsg (tC (.str ("abcdefghijklmnopqrstuvwxyz" : Str))) (gName 2))
 (T__law_name_8 K))
theorem rd__law_name (h : sp__law_name K vs H Q E) : R__law_name K { nx := fun _ H' => Q .non H', rt := Q } (start ["_law_code", "_law_k", "_law_letters", "_law_first", "_law_long", "_law_told", "_law_name_here", "_law_j", "_law_step"] vs) H := by
  obtain ⟨c, k, rfl, q⟩ := h
  show R__law_name K _ [some (.int c), some (.int k), none, none, none, none, none, none, none] H
  unfold R__law_name
  walk_at "step"
  have f0 := Int.emod_nonneg (c / 64) (show (26 : Int) ≠ 0 by decide)
  generalize c / 64 % 26 = f at *
  by_cases h2 : c / 1664 % 3 = 2
  · rw [decide_eq_true h2]; refine iteT ?_
    walk_at "step"
    refine v_ixS (sl64 (by rw [show ("abcdefghijklmnopqrstuvwxyz" : Str) = Lt from rfl, lt_len]; decide)) (lt_at (Int.emod_nonneg _ (by decide)) (Int.emod_lt_of_pos _ (by decide))) ?_
    walk_at "step"
    have k0 := Int.emod_nonneg k (show (8 : Int) ≠ 0 by decide)
    have k1 := Int.emod_lt_of_pos k (show (0 : Int) < 8 by decide)
    refine v_mulS (by omega) (by omega) (show (1 : Nat) ≤ 1000 by decide) ?_
    have hlen : (PySem.Txt.mul (ch (97 + ((f + k / 8) % 26).toNat)) (1 + k % 8)).length = (1 + k % 8).toNat := by
      show (PySem.Txt.mul (ch (97 + ((f + k / 8) % 26).toNat)) (1 + k % 8)).cps.size = _
      rw [← Array.length_toList, mul_ch (by omega), List.length_replicate]
    exact q _ (by rw [show (⟨#[97 + ((f + k / 8) % 26).toNat]⟩ : Str) = ch (97 + ((f + k / 8) % 26).toNat) from rfl, hlen]; omega) (by rw [show (⟨#[97 + ((f + k / 8) % 26).toNat]⟩ : Str) = ch (97 + ((f + k / 8) % 26).toNat) from rfl, hlen]; omega)
  · rw [decide_eq_false h2]; refine iteF ?_
    walk_at "step"
    have g0 := Int.emod_nonneg c (show (8 : Int) ≠ 0 by decide)
    have g1 := Int.emod_lt_of_pos c (show (0 : Int) < 8 by decide)
    generalize hg : (1 : Int) + c % 8 = g at *
    walk_at "step"
    generalize c / 8 % g = tl
    let Pv2 : Nat → St → Hp → Prop := fun i σ H' => H' = H ∧ ∃ (x : Str) (a1 a2 : Option V), σ = [some (.int c), some (.int k), some (.str Lt), some (.int f), some (.int g), some (.int tl), some (.str x), a1, a2] ∧ x.length = i
    refine rng1_for (by omega) (by omega) Pv2 ⟨rfl, _, _, _, rfl, rfl⟩ ?_ ?_
    · rintro i σ H' hi ⟨rfl, x, a1, a2, rfl, hx⟩
      have m0 := Int.emod_nonneg (c / 1664) (show (3 : Int) ≠ 0 by decide)
      have m1 := Int.emod_lt_of_pos (c / 1664) (show (0 : Int) < 3 by decide)
      walk_at "step"
      refine v_mulI (.inl ⟨by omega, by omega⟩) ?_
      have fin : ∀ (D : Ends) (sv : Int), (∀ (x : Str) (a1 a2 : Option V), x.length = i + 1 → D.nx [some (.int c), some (.int k), some (.str Lt), some (.int f), some (.int g), some (.int tl), some (.str x), a1, a2] H') → (nameT K) D [some (.int c), some (.int k), some (.str Lt), some (.int f), some (.int g), some (.int tl), some (.str x), some (.int i), some (.int sv)] H' := by
        intro D sv qq
        unfold nameT
        walk_at "step"
        refine v_ixS (sl64 (by rw [lt_len]; decide)) (lt_at (Int.emod_nonneg _ (by decide)) (Int.emod_lt_of_pos _ (by decide))) ?_
        refine v_addS (by show _ + 1 ≤ _; rw [sizeLine_eq]; omega) ?_
        walk_at "step"
        exact qq _ _ _ (by rw [app_len, hx]; rfl)
      walk_at "step"
      by_cases et : (i : Int) = tl
      · rw [decide_eq_true et]; refine iteT ?_
        walk_at "step"
        exact fin _ _ fun x a1 a2 hx => ⟨rfl, x, a1, a2, rfl, hx⟩
      · rw [decide_eq_false et]; refine iteF ?_
        walk_at "step"
        exact fin _ _ fun x a1 a2 hx => ⟨rfl, x, a1, a2, rfl, hx⟩
    · rintro σ H' ⟨rfl, x, a1, a2, rfl, hx⟩
      walk_at "step"
      exact q x (by omega) (by omega)
end My
namespace My
open PySem L2
variable {K : PySem.W.Frag} {vs : List V} {H : Hp} {Q : VK} {E : XK}
def Hst (n : Nat) (kvs : List (Key × V)) : Prop := ∀ kv ∈ kvs, ∃ j : Int, kv.2 = .int j ∧ 0 ≤ j ∧ j < n
theorem hst_ints {n : Nat} : ∀ {kvs : List (Key × V)}, Hst n kvs → ∃ js : List Int, kvs.map (·.2) = js.map V.int
  | [], _ => ⟨[], rfl⟩
  | kv :: kvs, h => by
    obtain ⟨j, e, _⟩ := h kv (by simp)
    obtain ⟨js, e2⟩ := hst_ints (kvs := kvs) fun x hx => h x (by simp [hx])
    exact ⟨j :: js, by rw [List.map_cons, List.map_cons, e, e2]⟩
theorem hst_put {n : Nat} {kvs : List (Key × V)} {k : Key} {j : Int} (h : Hst n kvs) (h0 : 0 ≤ j) (h1 : j < n) : Hst n (putK kvs k (.int j)) := by
  intro kv hm
  unfold putK at hm
  split at hm
  · obtain ⟨x, hx, e⟩ := List.mem_map.mp hm
    split at e
    · subst e; exact ⟨j, rfl, h0, h1⟩
    · subst e; exact h x hx
  · rcases List.mem_append.mp hm with hm | hm
    · exact h kv hm
    · rw [List.mem_singleton.mp hm]; exact ⟨j, rfl, h0, h1⟩
theorem hst_val {n : Nat} {kvs : List (Key × V)} {k : Key} {v : V} (h : Hst n kvs) (e : valV kvs k = some v) : ∃ j : Int, v = .int j ∧ 0 ≤ j ∧ j < n := by
  unfold valV at e
  obtain ⟨kv, hf, rfl⟩ := Option.map_eq_some_iff.mp e
  exact h kv (List.mem_of_find?_eq_some hf)
@[reducible] def T__law_sorts_0 (K : PySem.W.Frag) : TS :=
 (tAsg (tOp (rIxA K) (tLst (tCons (tC (.str ("room" : Str))) (tCons (tC (.str ("plain" : Str))) tNil))) (tCB rIntA (tCons (tInV false (tVar 5) (tVar 4)) tNil))) (gSub (tVar 3) (tVar 5) rSetA))
@[reducible] def T__law_sorts_1 (K : PySem.W.Frag) : TS :=
 (tAsg (tOp (rIxA K) (tVar 6) (tCall (sp__law_draw K) [] E0 (tCons (tVar 0) (tCons (tCB (rLenA K) (tCons (tVar 6) tNil)) tNil)))) (gSub (tVar 4) (tVar 5) rSetA))
@[reducible] def T__law_sorts_2 (K : PySem.W.Frag) : TS :=
 (tSeq (tAsg (tComp [some 3, some 4, none] (iRng2 (tCons (tOp (rAddA K) (tVar 5) (tC (.int 1))) (tCons (tVar 1) tNil))) (gName 2) (tAnd (tTest (tOp (rInB K false) (tOp (rIxA K) (tVar 0) (tVar 2)) (tTup (tCons (tC (.str ("plain" : Str))) (tCons (tC (.str ("frame" : Str))) tNil))))) (tTest (tInV true (tVar 2) (tVar 1)))) (tVar 2)) (gName 6))
 (tIfS (tTest (tOp (rEqA K) (tVar 6) (tLst tNil)))
 (T__law_sorts_0 K) (T__law_sorts_1 K)))
def sortT (K : PySem.W.Frag) : TS :=
 (tIfS (tTest (tOp (rEqA K) (tOp (rIxA K) (tVar 3) (tVar 5)) (tC (.str ("frame" : Str)))))
 (T__law_sorts_2 K) tNext)
theorem sort_tail {D : Ends} {d sa hb kd : Addr} {n k : Nat} {ss : List Str} {kvs : List (Key × V)} {a6 : Option V} (hk : k < n) (hn : n ≤ 16) (dk : Dk H d) (hsa : H sa = some (.lst (strV ss))) (hl : ss.length = n) (hss : ∀ s ∈ ss, s.length ≤ 8) (nsa : sa ≠ d) (hhb : H hb = some (.dK kvs)) (hh : Hst n kvs) (hkl : kvs.length ≤ k)
    (q : ∀ (H' : Hp) (ss : List Str) (kvs : List (Key × V)) (a6 : Option V), But [d, sa, hb] H H' → Dk H' d → H' sa = some (.lst (strV ss)) → ss.length = n → (∀ s ∈ ss, s.length ≤ 8) → H' hb = some (.dK kvs) → Hst n kvs → kvs.length ≤ k + 1 → D.nx [some (.ref d), some (.int n), some (.ref kd), some (.ref sa), some (.ref hb), some (.int k), a6] H') :
    sortT K D [some (.ref d), some (.int n), some (.ref kd), some (.ref sa), some (.ref hb), some (.int k), a6] H := by
  have nhb : hb ≠ d := fun e => by obtain ⟨ns, h, _⟩ := dk; rw [← e, hhb] at h; cases h
  have nsh : sa ≠ hb := fun e => by rw [e, hhb] at hsa; cases hsa
  unfold sortT
  walk_at "step"
  refine v_ixL (SqL.of hsa) (atI_nat (strV_at (by omega))) ?_
  walk_at "step"
  by_cases ef : ss[k] = ("frame" : Str)
  · rw [decide_eq_true ef]; refine iteT ?_
    walk_at "step"
    let Pv0 : Nat → List V → Hp → Prop := fun i ys H' => Same H H' ∧ ∃ fs : List Int, ys = intV fs ∧ fs.length ≤ i ∧ ∀ x ∈ fs, 0 ≤ x ∧ x < n
    refine rng2_comp (lo := (k : Int) + 1) (hi := n) (by omega) (by omega) (by omega) Pv0 ⟨fun _ _ e => e, [], rfl, by simp, by simp⟩ ?_ ?_ ?_
    · rintro i ys H' hi ⟨_, fs, rfl, hf, _⟩
      rw [intV_len]; exact sl64 (by omega)
    · rintro i ys H' hi ⟨s1, fs, rfl, hf, hr⟩
      have e1 : (k : Int) + 1 + i = ((k + 1 + i : Nat) : Int) := by omega
      rw [e1]
      have hsa' := s1 _ _ hsa
      have hhb' := s1 _ _ hhb
      walk_at "step"
      refine v_ixL (SqL.of hsa') (atI_nat (strV_at (by omega))) ?_
      walk_at "step"
      refine ⟨sl64 (by simp), fun t ht => ?_⟩
      refine .inl (v_in (xs := strV [("plain" : Str), ("frame" : Str)]) (.inr (SqT.of upd_same)) rfl (flat_strV _) ?_)
      rw [inV_strV]
      walk_at "step"
      have s2 := Same.tr s1 (Same.new ht (.tup (strV [("plain" : Str), ("frame" : Str)])))
      have no : ∃ fs' : List Int, intV fs = intV fs' ∧ fs'.length ≤ i + 1 ∧ ∀ x ∈ fs', 0 ≤ x ∧ x < n := ⟨fs, rfl, by omega, hr⟩
      by_cases hin : ss[k + 1 + i] ∈ [("plain" : Str), ("frame" : Str)]
      · rw [decide_eq_true hin]; refine iteT ?_
        walk_at "step"
        obtain ⟨js, ej⟩ := hst_ints hh
        refine ⟨_, hb, kvs, js, rfl, rfl, by rw [upd_ne (ne_free hhb' ht)]; exact hhb', ej, ?_⟩
        generalize (if true = true then !decide (((k + 1 + i : Nat) : Int) ∈ js) else decide (((k + 1 + i : Nat) : Int) ∈ js)) = c
        walk_at "step"
        cases c with
        | true =>
          refine iteT ?_
          walk_at "step"
          refine ⟨s2, fs ++ [((k + 1 + i : Nat) : Int)], intV_app _ _, by simp; omega, fun x hx => ?_⟩
          rcases List.mem_append.mp hx with h | h
          · exact hr x h
          · rw [List.mem_singleton.mp h]; omega
        | false =>
          refine iteF ?_
          exact ⟨s2, no⟩
      · rw [decide_eq_false hin]; refine iteF ?_
        refine iteF ?_
        exact ⟨s2, no⟩
    · rintro ys H' ⟨s1, fs, rfl, hf, hr⟩ p hp
      walk_at "step"
      have s2 : Same H (upd H' p (.lst (intV fs))) := Same.tr s1 (Same.new hp _)
      refine ⟨sl64 (by simp), fun e he => ?_⟩
      have hp2 : (upd (upd H' p (.lst (intV fs))) e (.lst [])) p = some (.lst (intV fs)) := by rw [upd_ne (ne_free upd_same he)]; exact upd_same
      refine v_eqE (ds := intD fs) (dv_list.mpr ⟨p, _, rfl, SqL.of hp2, dvs_intD.mpr rfl⟩) upd_same ?_
      have s3 : Same H (upd (upd H' p (.lst (intV fs))) e (.lst [])) := Same.tr s2 (Same.new he _)
      generalize (upd (upd H' p (.lst (intV fs))) e (.lst [])) = H3 at *
      have hsa3 := s3 _ _ hsa
      have hhb3 := s3 _ _ hhb
      have dk3 := dk.same s3
      walk_at "step"
      cases fs with
      | nil =>
        refine iteT ?_
        walk_at "step"
        refine ⟨sl64 (by simp), fun t ht => ?_⟩
        walk_at "step"
        have hhb4 : (upd H3 t (.lst [.str ("room" : Str), .str ("plain" : Str)])) hb = some (.dK kvs) := by rw [upd_ne (ne_free hhb3 ht)]; exact hhb3
        obtain ⟨js, ej⟩ := hst_ints hh
        refine ⟨_, hb, kvs, js, rfl, rfl, hhb4, ej, ?_⟩
        generalize (if false = true then !decide ((k : Int) ∈ js) else decide ((k : Int) ∈ js)) = c
        walk_at "step"
        have s4 := Same.tr s3 (Same.new ht (.lst [.str ("room" : Str), .str ("plain" : Str)]))
        have ht4 : (upd H3 t (.lst [.str ("room" : Str), .str ("plain" : Str)])) t = some (.lst [.str ("room" : Str), .str ("plain" : Str)]) := upd_same
        generalize (upd H3 t (.lst [.str ("room" : Str), .str ("plain" : Str)])) = H4 at *
        refine .inr ⟨c, rfl, ?_⟩
        have fin : ∀ x : Str, x.length ≤ 8 → rSetA (.ref sa) (.int k) (.str x) H4 (fun H1 => D.nx [some (.ref d), some (.int n), some (.ref kd), some (.ref sa), some (.ref hb), some (.int k), some (.ref p)] H1) := fun x hx => by
          refine .inl (v_setL (s4 _ _ hsa) (j := k) (by unfold ixN; rw [if_pos (by omega), if_pos (by rw [strV_len]; omega)]; simp) ?_)
          have es : (strV ss).set k (.str x) = strV (ss.set k x) := by unfold strV; rw [List.map_set]
          rw [es]
          refine q _ (ss.set k x) kvs _ (fun b o e n => ?_) ((dk.same s4).put nsa _) upd_same (by rw [List.length_set]; exact hl) (fun s hs => ?_) (by rw [upd_ne (Ne.symm nsh)]; exact s4 _ _ hhb) hh (by omega)
          · rw [upd_ne (fun z => n (by simp [z]))]; exact s4 _ _ e
          · rcases List.mem_or_eq_of_mem_set hs with h | h
            · exact hss s h
            · rw [h]; exact hx
        cases c with
        | true =>
          refine v_ixL (SqL.of ht4) (v := .str ("plain" : Str)) (atI_nat (j := 1) rfl) ?_
          walk_at "step"
          exact fin _ (by decide)
        | false =>
          refine v_ixL (SqL.of ht4) (v := .str ("room" : Str)) (atI_nat (j := 0) rfl) ?_
          walk_at "step"
          exact fin _ (by decide)
      | cons f0 fr =>
        refine iteF ?_
        walk_at "step"
        refine v_lenQ (.inl (SqL.of hp2)) ?_
        rw [intV_len]
        walk_at "step"
        refine ⟨d, ((f0 :: fr).length : Int), rfl, by rw [List.length_cons]; omega, by omega, dk3, fun m H5 m0 m1 mv => ?_⟩
        walk_at "step"
        have np : p ≠ d := dk.ne (none_of s1 hp)
        have hm : m.toNat < (f0 :: fr).length := by omega
        refine v_ixL (SqL.of (mv.at hp2 np)) (v := .int (f0 :: fr)[m.toNat]) (ixI m0 (intV_at hm)) ?_
        walk_at "step"
        have hr' := hr _ (List.getElem_mem hm)
        refine .inr ⟨hb, _, rfl, DPut.k (k := .inl (k : Int)) (mv.at hhb3 nhb) (by rw [sizeLine_eq]; omega), ?_⟩
        refine q _ ss _ _ (fun b o e n => ?_) (mv.dk.put nhb _) (by rw [upd_ne nsh]; exact mv.at hsa3 nsa) hl hss upd_same (hst_put hh hr'.1 hr'.2) ?_
        · rw [upd_ne (fun z => n (by simp [z]))]; exact mv.at (s3 _ _ e) (fun z => n (by simp [z]))
        · have := length_putK kvs (.inl (k : Int)) (V.int (f0 :: fr)[m.toNat]); omega
  · rw [decide_eq_false ef]; refine iteF ?_
    exact q H ss kvs _ (fun _ _ e _ => e) dk hsa hl hss hhb hh (by omega)
@[reducible] def T__law_sorts_4 (K : PySem.W.Frag) : TS :=
 (tSeq (tFor (iRng1 (tCons (tVar 1) tNil)) (gName 5)
 (sortT K))
 (tRet (tTup (tCons (tVar 3) (tCons (tVar 4) tNil)))))
@[reducible] def T__law_sorts_5 (K : PySem.W.Frag) : TS :=
 (tSeq (tAsg (tComp [some 2, some 0, none] (iRng1 (tCons (tVar 1) tNil)) (gName 2) tTT (tOp (rIxA K) (tVar 0) (tCall (sp__law_draw K) [] E0 (tCons (tVar 1) (tCons (tC (.int 8)) tNil))))) (gName 3))
 (tSeq (tAsg tDNewK (gName 4))
 (T__law_sorts_4 K)))
def sp__law_sorts (K : PySem.W.Frag) : Sp := fun vs H Q _ => ∃ (d : Addr) (n : Nat), vs = [.ref d, .int n] ∧ 1 ≤ n ∧ n ≤ 16 ∧ Dk H d ∧ ∀ (r sa hb : Addr) (ss : List Str) (kvs : List (Key × V)) (H' : Hp), Mv d H H' → H' r = some (.tup [.ref sa, .ref hb]) → H' sa = some (.lst (strV ss)) → sa ≠ d → ss.length = n → (∀ s ∈ ss, s.length ≤ 8) → H' hb = some (.dK kvs) → Hst n kvs → Q (.ref r) H'
theorem len__law_sorts (K : PySem.W.Frag) : ∀ vs H Q E, sp__law_sorts K vs H Q E → vs.length = ["_law_deck", "_law_count"].length := by rintro vs H Q E ⟨d, n, rfl, _⟩; rfl
def R__law_sorts (K : PySem.W.Frag) : TS :=
 (tSeq (tAsg (tLst (tStrs [("plain" : Str), ("anew" : Str), ("plain" : Str), ("frame" : Str), ("room" : Str), ("bare" : Str), ("plain" : Str), ("anew" : Str)])) (gName 2))
 (T__law_sorts_5 K))
theorem rd__law_sorts (h : sp__law_sorts K vs H Q E) : R__law_sorts K { nx := fun _ H' => Q .non H', rt := Q } (start ["_law_deck", "_law_count", "_law_kinds", "_law_sorts_here", "_law_hosts", "_law_k", "_law_free"] vs) H := by
  obtain ⟨d, n, rfl, h1, h2, dk, q⟩ := h
  show R__law_sorts K _ [some (.ref d), some (.int n), none, none, none, none, none] H
  unfold R__law_sorts
  walk_at "step"
  refine ⟨sl64 (by simp [strV]), fun kd hkd => ?_⟩
  walk_at "step"
  generalize hks : [("plain" : Str), ("anew" : Str), ("plain" : Str), ("frame" : Str), ("room" : Str), ("bare" : Str), ("plain" : Str), ("anew" : Str)] = ks
  have hkl : ks.length = 8 := by rw [← hks]; rfl
  have hk8 : ∀ s ∈ ks, s.length ≤ 8 := by rw [← hks]; decide
  have nkd := dk.ne hkd
  have m0 : Mv d H (upd H kd (.lst (strV ks))) := Mv.new (Mv.refl dk) hkd _
  have hk0 : (upd H kd (.lst (strV ks))) kd = some (.lst (strV ks)) := upd_same
  generalize upd H kd (.lst (strV ks)) = H1 at *
  let Pv1 : Nat → List V → Hp → Prop := fun i ys H' => Mv d H1 H' ∧ ∃ ss : List Str, ys = strV ss ∧ ss.length = i ∧ ∀ s ∈ ss, s.length ≤ 8
  refine rng1_comp (by omega) (by omega) Pv1 ⟨Mv.refl m0.dk, [], rfl, rfl, by simp⟩ ?_ ?_ ?_
  · rintro i ys H' hi ⟨_, ss, rfl, hl, _⟩
    rw [strV_len]; exact sl64 (by omega)
  · rintro i ys H' hi ⟨mv, ss, rfl, hl, hs⟩
    walk_at "step"
    refine ⟨d, 8, rfl, by decide, by decide, mv.dk, fun m H2 a0 a1 mv2 => ?_⟩
    have hm : m.toNat < ks.length := by omega
    refine v_ixL (SqL.of (mv2.at (mv.at hk0 nkd) nkd)) (ixI a0 (strV_at hm)) ?_
    refine ⟨mv.tr mv2, ss ++ [ks[m.toNat]], strV_app _ _, by simp [hl], fun s hs' => ?_⟩
    rcases List.mem_append.mp hs' with h | h
    · exact hs s h
    · rw [List.mem_singleton.mp h]; exact hk8 _ (List.getElem_mem hm)
  · rintro ys H' ⟨mv, ss, rfl, hl, hs⟩ sa hsa
    walk_at "step"
    intro hb hhb
    walk_at "step"
    have mvA : Mv d H (upd (upd H' sa (.lst (strV ss))) hb (.dK [])) := ((m0.tr mv).new hsa _).new hhb _
    have nsa : sa ≠ d := (m0.tr mv).dk.ne hsa
    have nsa0 : H sa = none := none_mv (m0.tr mv) dk hsa
    have nhb0 : H hb = none := none_mv ((m0.tr mv).new hsa _) dk hhb
    have hA1 : (upd (upd H' sa (.lst (strV ss))) hb (.dK [])) sa = some (.lst (strV ss)) := by rw [upd_ne (ne_free upd_same hhb)]; exact upd_same
    have hA2 : (upd (upd H' sa (.lst (strV ss))) hb (.dK [])) hb = some (.dK []) := upd_same
    generalize (upd (upd H' sa (.lst (strV ss))) hb (.dK [])) = HA at *
    let Pv2 : Nat → St → Hp → Prop := fun i σ H' => ∃ (ss : List Str) (kvs : List (Key × V)) (a5 a6 : Option V), σ = [some (.ref d), some (.int n), some (.ref kd), some (.ref sa), some (.ref hb), a5, a6] ∧ Mv d H H' ∧ H' sa = some (.lst (strV ss)) ∧ ss.length = n ∧ (∀ s ∈ ss, s.length ≤ 8) ∧ H' hb = some (.dK kvs) ∧ Hst n kvs ∧ kvs.length ≤ i
    refine rng1_for (by omega) (by omega) Pv2 ⟨ss, [], _, _, rfl, mvA, hA1, by omega, hs, hA2, (fun _ h => by cases h), by simp⟩ ?_ ?_
    · rintro i σ H' hi ⟨ss, kvs, a5, a6, rfl, mv, b1, b2, b3, b4, b5, b6⟩
      walk_at "step"
      refine sort_tail (by omega) h2 mv.dk b1 b2 b3 nsa b4 b5 b6 fun H2 ss kvs a6 bt dk2 c1 c2 c3 c4 c5 c6 => ?_
      refine ⟨ss, kvs, _, _, rfl, ⟨fun c o e nc => ?_, dk2⟩, c1, c2, c3, c4, c5, c6⟩
      refine bt c o (mv.but c o e nc) ?_
      simp at nc ⊢
      exact ⟨nc, ne_free e nsa0, ne_free e nhb0⟩
    · rintro σ H' ⟨ss, kvs, a5, a6, rfl, mv, b1, b2, b3, b4, b5, b6⟩
      walk_at "step"
      refine ⟨sl64 (by simp), fun r hr => ?_⟩
      exact q r sa hb ss kvs _ (mv.new hr _) upd_same (by rw [upd_ne (ne_free b1 hr)]; exact b1) nsa b2 b3 (by rw [upd_ne (ne_free b4 hr)]; exact b4) b5
@[reducible] def T__law_some_0 (K : PySem.W.Frag) : TS :=
 (tIfS (tTest (tOp (rEqA K) (tCall (sp__law_draw K) [] E0 (tCons (tVar 0) (tCons (tC (.int 4)) tNil))) (tC (.int 1))))
 (tDrop (tBM K "list" rAppend (tVar 2) (tCons (tVar 3) tNil))) tNext)
@[reducible] def T__law_some_1 (K : PySem.W.Frag) : TS :=
 (tSeq (tFor (iAny K (tVar 1)) (gName 3)
 (T__law_some_0 K))
 (tRet (tCB (rTupleA K) (tCons (tCB (rSortedS K) (tCons (tVar 2) tNil)) tNil))))
def sp__law_some (K : PySem.W.Frag) : Sp := fun vs H Q _ => ∃ (d a : Addr) (xs : List Str), vs = [.ref d, .ref a] ∧ Dk H d ∧ H a = some (.lst (strV xs)) ∧ a ≠ d ∧ xs.length ≤ 40 ∧ ∀ (t : Addr) (ys : List Str) (H' : Hp), Mv d H H' → H' t = some (.tup (strV ys)) → (∀ y ∈ ys, y ∈ xs) → ys.length ≤ xs.length → Q (.ref t) H'
theorem len__law_some (K : PySem.W.Frag) : ∀ vs H Q E, sp__law_some K vs H Q E → vs.length = ["_law_deck", "_law_names"].length := by rintro vs H Q E ⟨d, a, xs, rfl, _⟩; rfl
def R__law_some (K : PySem.W.Frag) : TS :=
 (tSeq (tAsg (tLst tNil) (gName 2))
 (T__law_some_1 K))
theorem rd__law_some (h : sp__law_some K vs H Q E) : R__law_some K { nx := fun _ H' => Q .non H', rt := Q } (start ["_law_deck", "_law_names", "_law_some_here", "_law_name_here"] vs) H := by
  obtain ⟨d, a, xs, rfl, dk, ha, na, hx, q⟩ := h
  show R__law_some K _ [some (.ref d), some (.ref a), none, none] H
  unfold R__law_some
  walk_at "step"
  refine ⟨sl64 (by simp), fun p hp => ?_⟩
  walk_at "step"
  have np : p ≠ d := dk.ne hp
  have npa : a ≠ p := ne_free ha hp
  refine any_forL (xs := strV xs) (SqL.of (by rw [upd_ne npa]; exact ha)) (fun i σ H' => ∃ (w : Option V) (ys : List Str), σ = [some (.ref d), some (.ref a), some (.ref p), w] ∧ Mv d H H' ∧ H' p = some (.lst (strV ys)) ∧ (∀ y ∈ ys, y ∈ xs) ∧ ys.length ≤ i) ⟨_, [], rfl, Mv.new (Mv.refl dk) hp _, upd_same, by simp, by simp⟩ ?_ ?_ ?_
  · rintro i σ H' hi ⟨w, ys, rfl, mv, _⟩
    exact SqL.of (mv.at ha na)
  · rintro i x σ H' hx' ⟨w, ys, rfl, mv, h1, h2, h3⟩
    obtain ⟨y, hy, rfl⟩ := strV_get hx'
    have hi : i < xs.length := (List.getElem?_eq_some_iff.mp hy).1
    walk_at "step"
    refine ⟨d, 4, rfl, by decide, by decide, mv.dk, fun m H2 a0 a1 mv2 => ?_⟩
    walk_at "step"
    have mv3 := mv.tr mv2
    have h4 := mv2.at h1 np
    by_cases e : m = 1
    · rw [decide_eq_true e]; refine iteT ?_
      walk_at "step"
      refine ⟨.inl ⟨rfl, _, SqL.of h4⟩, ?_⟩
      walk_at "step"
      refine v_append h4 (by rw [strV_len, sizeLine_eq]; omega) ?_
      refine ⟨_, ys ++ [y], rfl, mv3.put dk hp _, by rw [upd_same, strV_app], fun z hz => ?_, by simp; omega⟩
      rcases List.mem_append.mp hz with h | h
      · exact h2 z h
      · rw [List.mem_singleton.mp h]; exact List.mem_of_getElem? hy
    · rw [decide_eq_false e]; refine iteF ?_
      exact ⟨_, ys, rfl, mv3, h4, h2, by omega⟩
  · rintro σ H' ⟨w, ys, rfl, mv, h1, h2, h3⟩
    rw [strV_len] at h3
    walk_at "step"
    refine ⟨p, ys, rfl, SqL.of h1, by omega, fun l ys' hperm _ hl => ?_⟩
    walk_at "step"
    refine ⟨l, _, rfl, .inl ⟨SqL.of upd_same, fun t ht => ?_⟩⟩
    exact q t ys' _ ((mv.new hl _).new ht _) upd_same (fun y hy => h2 y (hperm.mem_iff.mp hy)) (by rw [hperm.length_eq]; exact h3)
end My
namespace My
open PySem L2
variable {K : PySem.W.Frag} {vs : List V} {H : Hp} {Q : VK} {E : XK}
@[reducible] def T__law_book_0 (K : PySem.W.Frag) : TS :=
 (tDrop (tBM K "list" rInsert (tVar 9) (tCons (tCall (sp__law_draw K) [] E0 (tCons (tVar 0) (tCons (tOp (rAddA K) (tCB (rLenA K) (tCons (tVar 9) tNil)) (tC (.int 1))) tNil))) (tCons (tVar 13) tNil))))
def bookA (K : PySem.W.Frag) : TS :=
 (tSeq (tAsg (tTup (tCons (tOp (rIxA K) (tVar 6) (tVar 10)) (tCons (tOp (rIxA K) (tVar 4) (tVar 10)) (tCons (tVar 12) (tCons (tVar 11) (tCons (tCall (sp__law_some K) [] E0 (tCons (tVar 0) (tCons (tComp [some 6, none] (iAny K (tVar 7)) (gName 1) tTT (tOp (rIxA K) (tVar 0) (tVar 1))) tNil))) tNil)))))) (gName 13))
 (T__law_book_0 K))
@[reducible] def T__law_book_2 (K : PySem.W.Frag) : TS :=
 (tSeq (tIfS (tTest (tOp (rInB K false) (tVar 10) (tVar 5)))
 (tAsg (tOp (rIxA K) (tVar 6) (tDGet (tVar 5) (tVar 10))) (gName 12)) tNext)
 (bookA K))
def bookB (K : PySem.W.Frag) : TS :=
 (tSeq (tAsg (tC (.str ("" : Str))) (gName 12))
 (T__law_book_2 K))
structure RwOk (r : Row) : Prop where
  nl : r.name.length ≤ 8
section
variable {D : Ends} {d sa hb nm sf my bk : Addr} {c m : Int} {n k : Nat} {ss names may : List Str} {soft : List Int} {kvs : List (Key × V)} {us : List V} {rs : List Row} {a11 a12 a13 : Option V}
structure BkA (H : Hp) (d sa hb nm sf my bk : Addr) (n : Nat) (ss names may : List Str) (soft : List Int) (kvs : List (Key × V)) : Prop where
  n16 : n ≤ 16
  hsa : H sa = some (.lst (strV ss))
  lsa : ss.length = n
  hhb : H hb = some (.dK kvs)
  hst : Hst n kvs
  hnm : H nm = some (.lst (strV names))
  lnm : names.length = n
  nle : ∀ x ∈ names, x.length ≤ 8
  hsf : H sf = some (.lst (intV soft))
  sfl : soft.length ≤ n
  sfr : ∀ x ∈ soft, 0 ≤ x ∧ x < n
  hmy : H my = some (.lst (strV may))
  mle : may.length ≤ n
  n1 : sa ∉ [d, bk]
  n2 : hb ∉ [d, bk]
  n3 : nm ∉ [d, bk]
  n4 : sf ∉ [d, bk]
  n5 : my ∉ [d, bk]
theorem BkA.but {H' : Hp} (B : BkA H d sa hb nm sf my bk n ss names may soft kvs) (t : But [d, bk] H H') : BkA H' d sa hb nm sf my bk n ss names may soft kvs :=
  { B with hsa := t _ _ B.hsa B.n1, hhb := t _ _ B.hhb B.n2, hnm := t _ _ B.hnm B.n3, hsf := t _ _ B.hsf B.n4, hmy := t _ _ B.hmy B.n5 }
theorem book_A {sv : V} {host : Str} {sh : List Str} (B : BkA H d sa hb nm sf my bk n ss names may soft kvs) (hk : k < n) (dk : Dk H d) (nbk : bk ≠ d) (hbk : H bk = some (.lst us)) (dvs : Dvs K H (rs.map Row.da) us) (hrl : rs.length = k) (hro : ∀ r ∈ rs, RwOk r) (hsv : Dv K H (.tuple (sDa sh)) sv)
    (q : ∀ (H' : Hp) (us : List V) (rs : List Row) (a13 : Option V), But [d, bk] H H' → Dk H' d → H' bk = some (.lst us) → Dvs K H' (rs.map Row.da) us → rs.length = k + 1 → (∀ r ∈ rs, RwOk r) → D.nx [some (.ref d), some (.int c), some (.int m), some (.int n), some (.ref sa), some (.ref hb), some (.ref nm), some (.ref sf), some (.ref my), some (.ref bk), some (.int k), some sv, some (.str host), a13] H') :
    bookA K D [some (.ref d), some (.int c), some (.int m), some (.int n), some (.ref sa), some (.ref hb), some (.ref nm), some (.ref sf), some (.ref my), some (.ref bk), some (.int k), some sv, some (.str host), a13] H := by
  have n16 := B.n16
  have lnm := B.lnm
  have lsa := B.lsa
  have hul : us.length = k := by have := dvs.length; rw [List.length_map] at this; omega
  unfold bookA
  walk_at "step"
  refine v_ixL (SqL.of B.hnm) (atI_nat (strV_at (by omega))) ?_
  walk_at "step"
  refine v_ixL (SqL.of B.hsa) (atI_nat (strV_at (by omega))) ?_
  walk_at "step"
  let Pv0 : Nat → List V → Hp → Prop := fun i ys H' => H' = H ∧ ∃ zs : List Str, ys = strV zs ∧ zs.length = i
  refine any_compL (xs := intV soft) (SqL.of B.hsf) Pv0 ⟨rfl, [], rfl, rfl⟩ ?_ ?_ ?_ ?_
  · rintro i ys H' hi ⟨rfl, zs, rfl, hz⟩
    rw [intV_len] at hi
    have := B.sfl
    rw [strV_len]; exact sl64 (by omega)
  · rintro i ys H' hi ⟨rfl, _⟩
    exact SqL.of B.hsf
  · rintro i x ys H' hx ⟨rfl, zs, rfl, hz⟩
    unfold intV at hx
    rw [List.getElem?_map] at hx
    obtain ⟨j, hj, rfl⟩ := Option.map_eq_some_iff.mp hx
    obtain ⟨j0, j1⟩ := B.sfr j (List.mem_of_getElem? hj)
    walk_at "step"
    refine v_ixL (SqL.of B.hnm) (ixI j0 (strV_at (by omega))) ?_
    exact ⟨rfl, zs ++ [_], strV_app _ _, by simp [hz]⟩
  · rintro ys H' ⟨rfl, zs, rfl, hz⟩ p hp
    rw [intV_len] at hz
    walk_at "step"
    have s1 : Same H' (upd H' p (.lst (strV zs))) := Same.new hp _
    have hsfl := B.sfl
    refine ⟨d, p, zs, rfl, dk.same s1, upd_same, dk.ne hp, by omega, fun t ys H2 mv ht hmem hle => ?_⟩
    walk_at "step"
    have bt2 : But [d, bk] H' H2 := But.tr (Same.two d bk s1) (Mv.two bk mv)
    have hbk2 : H2 bk = some (.lst us) := mv.at (s1 _ _ hbk) nbk
    obtain ⟨dl, hdl⟩ := dk.lst
    have tk2 : TupK H' H2 := But.two bt2 hdl hbk
    have hsv2 := Dv.tupK tk2 _ _ (by rw [L2.fix]; exact fixs_map (f := PyData.str) (fun x => by rw [L2.fix]) sh) hsv
    have dvs2 := Dvs.tupK tk2 _ _ (fixs_map Row.fix rs) dvs
    refine ⟨sl64 (by simp), fun r hr => ?_⟩
    walk_at "step"
    have s3 : Same H2 (upd H2 r (.tup [.str names[k], .str ss[k], .str host, sv, .ref t])) := Same.new hr _
    have hbk3 := s3 _ _ hbk2
    have dk3 := mv.dk.same s3
    have bt3 : But [d, bk] H' (upd H2 r (.tup [.str names[k], .str ss[k], .str host, sv, .ref t])) := But.tr bt2 (Same.two d bk s3)
    have drow : Dv K (upd H2 r (.tup [.str names[k], .str ss[k], .str host, sv, .ref t])) (Row.da ⟨names[k], ss[k], host, sh, ys⟩) (.ref r) := by
      unfold Row.da
      refine dv_tuple.mpr ⟨r, _, rfl, SqT.of upd_same, dvs_cons (dv_str.mpr rfl) (dvs_cons (dv_str.mpr rfl) (dvs_cons (dv_str.mpr rfl) (dvs_cons (Dv.same s3 _ _ hsv2) (dvs_cons ?_ dvs_nil))))⟩
      exact dv_tuple.mpr ⟨t, _, rfl, SqT.of (s3 _ _ ht), dvs_sDa.mpr rfl⟩
    have dvs3 := Dvs.same s3 _ _ dvs2
    generalize (upd H2 r (.tup [.str names[k], .str ss[k], .str host, sv, .ref t])) = H3 at *
    refine ⟨.inl ⟨rfl, _, SqL.of hbk3⟩, ?_⟩
    walk_at "step"
    refine v_lenQ (.inl (SqL.of hbk3)) ?_
    walk_at "step"
    refine ⟨d, (us.length : Int) + 1, rfl, by omega, by omega, dk3, fun x H4 x0 x1 mv4 => ?_⟩
    walk_at "step"
    have hbk4 := mv4.at hbk3 nbk
    obtain ⟨dl3, hdl3⟩ := dk3.lst
    have tk4 : TupK H3 H4 := mv4.tupK dk3
    refine v_insert hbk4 x0 (by omega) (by rw [sizeLine_eq]; omega) ?_
    have hx : x.toNat ≤ us.length := by omega
    refine q _ _ (insAt rs x.toNat ⟨names[k], ss[k], host, sh, ys⟩) _ (But.tr (But.tr bt3 (Mv.two bk mv4)) (But.upd (by simp) _)) (mv4.dk.put nbk _) upd_same ?_ (by rw [insAt_len _ _ _ (by omega)]; omega) (fun r' hr' => ?_)
    · rw [insAt_map]
      have tk5 : TupK H4 (upd H4 bk (.lst (insAt us x.toNat (.ref r)))) := tupK_lst hbk4
      refine ins_dvs (Dvs.tupK (tk4.trans tk5) _ _ (fixs_map Row.fix rs) dvs3) (Dv.tupK (tk4.trans tk5) _ _ (Row.fix _) drow) hx
    · rcases insAt_mem hr' with rfl | h
      · exact ⟨B.nle _ (List.getElem_mem _)⟩
      · exact hro r' h
theorem book_B {sv : V} {sh : List Str} (B : BkA H d sa hb nm sf my bk n ss names may soft kvs) (hk : k < n) (dk : Dk H d) (nbk : bk ≠ d) (hbk : H bk = some (.lst us)) (dvs : Dvs K H (rs.map Row.da) us) (hrl : rs.length = k) (hro : ∀ r ∈ rs, RwOk r) (hsv : Dv K H (.tuple (sDa sh)) sv)
    (q : ∀ (H' : Hp) (us : List V) (rs : List Row) (a12 a13 : Option V), But [d, bk] H H' → Dk H' d → H' bk = some (.lst us) → Dvs K H' (rs.map Row.da) us → rs.length = k + 1 → (∀ r ∈ rs, RwOk r) → D.nx [some (.ref d), some (.int c), some (.int m), some (.int n), some (.ref sa), some (.ref hb), some (.ref nm), some (.ref sf), some (.ref my), some (.ref bk), some (.int k), some sv, a12, a13] H') :
    bookB K D [some (.ref d), some (.int c), some (.int m), some (.int n), some (.ref sa), some (.ref hb), some (.ref nm), some (.ref sf), some (.ref my), some (.ref bk), some (.int k), some sv, a12, a13] H := by
  have lnm := B.lnm
  unfold bookB
  walk_at "step"
  refine .inr ⟨hb, _, rfl, DGet.k (k := .inl (k : Int)) B.hhb, ?_⟩
  walk_at "step"
  cases e : valV kvs (.inl (k : Int)) with
  | none =>
    refine iteF ?_
    walk_at "step"
    exact book_A B hk dk nbk hbk dvs hrl hro hsv fun H' us rs a13 h1 h2 h3 h4 h5 h6 => q H' us rs _ a13 h1 h2 h3 h4 h5 h6
  | some v =>
    obtain ⟨j, rfl, j0, j1⟩ := hst_val B.hst e
    refine iteT ?_
    walk_at "step"
    refine ⟨hb, _, rfl, by have := DGet.k (k := .inl (k : Int)) B.hhb; rw [e] at this; exact this, ?_⟩
    refine v_ixL (SqL.of B.hnm) (ixI j0 (strV_at (by omega))) ?_
    walk_at "step"
    exact book_A B hk dk nbk hbk dvs hrl hro hsv fun H' us rs a13 h1 h2 h3 h4 h5 h6 => q H' us rs _ a13 h1 h2 h3 h4 h5 h6
end
@[reducible] def T__law_book_3 (K : PySem.W.Frag) : TS :=
 (tSeq (tIfS (tTest (tInV true (tVar 10) (tVar 5)))
 (tAsg (tCall (sp__law_some K) [] E0 (tCons (tVar 0) (tCons (tVar 8) tNil))) (gName 11)) tNext)
 (bookB K))
@[reducible] def T__law_book_4 (K : PySem.W.Frag) : TS :=
 (tSeq (tFor (iRng1 (tCons (tVar 3) tNil)) (gName 10)
 (tSeq (tAsg (tTup tNil) (gName 11))
 (T__law_book_3 K)))
 (tRet (tCB (rTupleA K) (tCons (tVar 9) tNil))))
@[reducible] def T__law_book_5 (K : PySem.W.Frag) : TS :=
 (tSeq (tAsg (tComp [some 6, some 5, none] (iAny K (tVar 7)) (gName 2) (tTest (tInV true (tVar 2) (tVar 1))) (tOp (rIxA K) (tVar 0) (tVar 2))) (gName 8))
 (tSeq (tAsg (tLst tNil) (gName 9))
 (T__law_book_4 K)))
@[reducible] def T__law_book_6 (K : PySem.W.Frag) : TS :=
 (tSeq (tAsg (tComp [some 4, none] (iRng1 (tCons (tVar 3) tNil)) (gName 1) (tTest (tOp (rInB K false) (tOp (rIxA K) (tVar 0) (tVar 1)) (tTup (tCons (tC (.str ("plain" : Str))) (tCons (tC (.str ("anew" : Str))) tNil))))) (tVar 1)) (gName 7))
 (T__law_book_5 K))
@[reducible] def T__law_book_7 (K : PySem.W.Frag) : TS :=
 (tSeq (tAsg (tComp [some 1, none] (iRng1 (tCons (tVar 3) tNil)) (gName 1) tTT (tCall (sp__law_name K) [] E0 (tCons (tVar 0) (tCons (tVar 1) tNil)))) (gName 6))
 (T__law_book_6 K))
@[reducible] def T__law_book_8 (K : PySem.W.Frag) : TS :=
 (tSeq (tAsg (tCall (sp__law_sorts K) [] E0 (tCons (tVar 0) (tCons (tVar 3) tNil))) (gTup K 2 (gCons (gName 4) (gCons (gName 5) gNil))))
 (T__law_book_7 K))
def sp__law_book (K : PySem.W.Frag) : Sp := fun vs H Q _ => ∃ (d : Addr) (c m : Int), vs = [.ref d, .int c, .int m] ∧ 0 < m ∧ m ≤ 12 ∧ Dk H d ∧ ∀ (t : Addr) (us : List V) (rs : List Row) (H' : Hp), Mv d H H' → H' t = some (.tup us) → Dvs K H' (rs.map Row.da) us → 1 ≤ rs.length → rs.length ≤ 12 → (∀ r ∈ rs, RwOk r) → Q (.ref t) H'
theorem len__law_book (K : PySem.W.Frag) : ∀ vs H Q E, sp__law_book K vs H Q E → vs.length = ["_law_deck", "_law_code", "_law_most"].length := by rintro vs H Q E ⟨d, c, m, rfl, _⟩; rfl
def R__law_book (K : PySem.W.Frag) : TS :=
 (tSeq (tAsg (tOp (rAddA K) (tC (.int 1)) (tCall (sp__law_draw K) [] E0 (tCons (tVar 0) (tCons (tVar 2) tNil)))) (gName 3))
 (T__law_book_8 K))
theorem rd__law_book (h : sp__law_book K vs H Q E) : R__law_book K { nx := fun _ H' => Q .non H', rt := Q } (start ["_law_deck", "_law_code", "_law_most", "_law_count", "_law_sorts_here", "_law_hosts", "_law_names", "_law_soft", "_law_may_shut", "_law_book_here", "_law_k", "_law_shuts", "_law_host", "_law_row"] vs) H := by
  obtain ⟨d, c, m, rfl, h0, h1, dk, q⟩ := h
  show R__law_book K _ [some (.ref d), some (.int c), some (.int m), none, none, none, none, none, none, none, none, none, none, none] H
  unfold R__law_book
  walk_at "step"
  refine ⟨d, m, rfl, h0, by omega, dk, fun x H1 x0 x1 mv1 => ?_⟩
  walk_at "step"
  obtain ⟨n, hn, n1, n12⟩ : ∃ n : Nat, (1 : Int) + x = n ∧ 1 ≤ n ∧ n ≤ 12 := ⟨(1 + x).toNat, by omega, by omega, by omega⟩
  rw [hn]
  refine ⟨d, n, rfl, n1, by omega, mv1.dk, fun r sa hb ss kvs H2 mv2 hr hsa nsa lsa _ hhb hst => ?_⟩
  refine ⟨r, _, rfl, SqT.of hr, rfl, ?_⟩
  refine ⟨_, _, rfl, ?_⟩
  walk_at "step"
  refine ⟨_, _, rfl, ?_⟩
  walk_at "step"
  refine ⟨rfl, ?_⟩
  have mvA := mv1.tr mv2
  have nhb : hb ≠ d := fun e => by obtain ⟨ns, h, _⟩ := mv2.dk; rw [← e, hhb] at h; cases h
  walk_at "step"
  let Pv1 : Nat → List V → Hp → Prop := fun i ys H' => H' = H2 ∧ ∃ zs : List Str, ys = strV zs ∧ zs.length = i ∧ ∀ z ∈ zs, z.length ≤ 8
  refine rng1_comp (by omega) (by omega) Pv1 ⟨rfl, [], rfl, rfl, by simp⟩ ?_ ?_ ?_
  · rintro i ys H' hi ⟨rfl, zs, rfl, hz, _⟩
    rw [strV_len]; exact sl64 (by omega)
  · rintro i ys H' hi ⟨rfl, zs, rfl, hz, h8⟩
    walk_at "step"
    refine ⟨c, i, rfl, fun x xl xu => ?_⟩
    refine ⟨rfl, zs ++ [x], strV_app _ _, by simp [hz], fun z hz' => ?_⟩
    rcases List.mem_append.mp hz' with h | h
    · exact h8 z h
    · rw [List.mem_singleton.mp h]; exact xu
  rintro ys H' ⟨rfl, names, rfl, lnm, nle⟩ nm hnm
  walk_at "step"
  have s3 : Same H' (upd H' nm (.lst (strV names))) := Same.new hnm _
  have hnm3 : (upd H' nm (.lst (strV names))) nm = some (.lst (strV names)) := upd_same
  have nnm : nm ≠ d := mv2.dk.ne hnm
  have hsa3 := s3 _ _ hsa
  have hhb3 := s3 _ _ hhb
  have mv3 := mvA.new hnm (.lst (strV names))
  generalize (upd H' nm (.lst (strV names))) = H3 at *
  let Pv2 : Nat → List V → Hp → Prop := fun i ys H' => Same H3 H' ∧ ∃ zs : List Int, ys = intV zs ∧ zs.length ≤ i ∧ ∀ z ∈ zs, 0 ≤ z ∧ z < n
  refine rng1_comp (by omega) (by omega) Pv2 ⟨fun _ _ e => e, [], rfl, by simp, by simp⟩ ?_ ?_ ?_
  · rintro i ys H' hi ⟨_, zs, rfl, hz, _⟩
    rw [intV_len]; exact sl64 (by omega)
  · rintro i ys H' hi ⟨s4, zs, rfl, hz, hr⟩
    walk_at "step"
    refine v_ixL (SqL.of (s4 _ _ hsa3)) (atI_nat (strV_at (by omega))) ?_
    walk_at "step"
    refine ⟨sl64 (by simp), fun t ht => ?_⟩
    refine .inl (v_in (xs := strV [("plain" : Str), ("anew" : Str)]) (.inr (SqT.of upd_same)) rfl (flat_strV _) ?_)
    rw [inV_strV]
    walk_at "step"
    have s5 := Same.tr s4 (Same.new ht (.tup (strV [("plain" : Str), ("anew" : Str)])))
    by_cases hin : ss[i] ∈ [("plain" : Str), ("anew" : Str)]
    · rw [decide_eq_true hin]; refine iteT ?_
      walk_at "step"
      refine ⟨s5, zs ++ [(i : Int)], intV_app _ _, by simp; omega, fun z hz' => ?_⟩
      rcases List.mem_append.mp hz' with h | h
      · exact hr z h
      · rw [List.mem_singleton.mp h]; omega
    · rw [decide_eq_false hin]; refine iteF ?_
      exact ⟨s5, zs, rfl, by omega, hr⟩
  rintro ys H' ⟨s4, soft, rfl, sfl, sfr⟩ sf hsf
  walk_at "step"
  have sfl : soft.length ≤ n := by omega
  have nsf : sf ≠ d := (mv3.dk.same s4).ne hsf
  have s5 : Same H3 (upd H' sf (.lst (intV soft))) := Same.tr s4 (Same.new hsf _)
  have hsf5 : (upd H' sf (.lst (intV soft))) sf = some (.lst (intV soft)) := upd_same
  generalize (upd H' sf (.lst (intV soft))) = H5 at *
  let Pv3 : Nat → List V → Hp → Prop := fun i ys H' => Same H5 H' ∧ ∃ zs : List Str, ys = strV zs ∧ zs.length ≤ i
  refine any_compL (xs := intV soft) (SqL.of hsf5) Pv3 ⟨fun _ _ e => e, [], rfl, by simp⟩ ?_ ?_ ?_ ?_
  · rintro i ys H' hi ⟨_, zs, rfl, hz⟩
    rw [intV_len] at hi
    rw [strV_len]; exact sl64 (by omega)
  · rintro i ys H' hi ⟨s6, _⟩
    exact SqL.of (s6 _ _ hsf5)
  · rintro i x ys H' hx ⟨s6, zs, rfl, hz⟩
    unfold intV at hx
    rw [List.getElem?_map] at hx
    obtain ⟨j, hj, rfl⟩ := Option.map_eq_some_iff.mp hx
    obtain ⟨j0, j1⟩ := sfr j (List.mem_of_getElem? hj)
    walk_at "step"
    obtain ⟨js, ej⟩ := hst_ints hst
    refine ⟨_, hb, kvs, js, rfl, rfl, s6 _ _ (s5 _ _ hhb3), ej, ?_⟩
    generalize (if true = true then !decide (j ∈ js) else decide (j ∈ js)) = cc
    walk_at "step"
    cases cc with
    | true =>
      refine iteT ?_
      walk_at "step"
      refine v_ixL (SqL.of (s6 _ _ (s5 _ _ hnm3))) (ixI j0 (strV_at (by omega))) ?_
      exact ⟨s6, zs ++ [_], strV_app _ _, by simp; omega⟩
    | false =>
      refine iteF ?_
      exact ⟨s6, zs, rfl, by omega⟩
  rintro ys H' ⟨s6, may, rfl, mle⟩ my hmy
  rw [intV_len] at mle
  walk_at "step"
  have dk6 : Dk H' d := (mv3.dk.same s5).same s6
  have nmy : my ≠ d := dk6.ne hmy
  have s7 : Same H5 (upd H' my (.lst (strV may))) := Same.tr s6 (Same.new hmy _)
  have hmy7 : (upd H' my (.lst (strV may))) my = some (.lst (strV may)) := upd_same
  have dk7 : Dk (upd H' my (.lst (strV may))) d := dk6.same (Same.new hmy _)
  generalize (upd H' my (.lst (strV may))) = H7 at *
  refine ⟨sl64 (by simp), fun bk hbk => ?_⟩
  walk_at "step"
  have s8 : Same H5 (upd H7 bk (.lst [])) := Same.tr s7 (Same.new hbk _)
  have s38 := Same.tr s5 s8
  have nbk : bk ≠ d := dk7.ne hbk
  have hmy8 : (upd H7 bk (.lst [])) my = some (.lst (strV may)) := Same.new hbk _ _ _ hmy7
  have B : BkA (upd H7 bk (.lst [])) d sa hb nm sf my bk n ss names may soft kvs :=
    { n16 := by omega, hsa := s38 _ _ hsa3, lsa := lsa, hhb := s38 _ _ hhb3, hst := hst, hnm := s38 _ _ hnm3, lnm := by omega, nle := nle, hsf := s8 _ _ hsf5, sfl := sfl, sfr := sfr, hmy := hmy8, mle := by omega,
      n1 := by simp; exact ⟨nsa, ne_free (s7 _ _ (s5 _ _ hsa3)) hbk⟩, n2 := by simp; exact ⟨nhb, ne_free (s7 _ _ (s5 _ _ hhb3)) hbk⟩, n3 := by simp; exact ⟨nnm, ne_free (s7 _ _ (s5 _ _ hnm3)) hbk⟩, n4 := by simp; exact ⟨nsf, ne_free (s7 _ _ hsf5) hbk⟩, n5 := by simp; exact ⟨nmy, ne_free hmy7 hbk⟩ }
  have hbk8 : (upd H7 bk (.lst [])) bk = some (.lst []) := upd_same
  have mv8 : Mv d H (upd H7 bk (.lst [])) := (mv3.same s5).same s8
  have bk0 : H bk = none := none_mv ((mv3.same s5).same s7) dk hbk
  have dk8 := mv8.dk
  generalize (upd H7 bk (.lst [])) = H8 at *
  let Pv4 : Nat → St → Hp → Prop := fun i σ H' => ∃ (us : List V) (rs : List Row) (a10 a11 a12 a13 : Option V), σ = [some (.ref d), some (.int c), some (.int m), some (.int n), some (.ref sa), some (.ref hb), some (.ref nm), some (.ref sf), some (.ref my), some (.ref bk), a10, a11, a12, a13] ∧ But [d, bk] H8 H' ∧ Dk H' d ∧ H' bk = some (.lst us) ∧ Dvs K H' (rs.map Row.da) us ∧ rs.length = i ∧ ∀ r ∈ rs, RwOk r
  refine rng1_for (by omega) (by omega) Pv4 ⟨[], [], _, _, _, _, rfl, But.refl _ _, dk8, hbk8, dvs_nil, rfl, by simp⟩ ?_ ?_
  · rintro i σ H' hi ⟨us, rs, a10, a11, a12, a13, rfl, bt, dk', hbk', dv', hl, ho⟩
    have B' := B.but bt
    walk_at "step"
    refine ⟨sl64 (by simp), fun e he => ?_⟩
    walk_at "step"
    have se : Same H' (upd H' e (.tup [])) := Same.new he _
    have B2 := B'.but (Same.two d bk se)
    have hbk2 := se _ _ hbk'
    have dv2 := Dvs.same se _ _ dv'
    have dk2 := dk'.same se
    have bt2 := But.tr bt (Same.two d bk se)
    have hem : Dv K (upd H' e (.tup [])) (.tuple (sDa [])) (.ref e) := dv_tuple.mpr ⟨e, [], rfl, SqT.of upd_same, dvs_nil⟩
    generalize (upd H' e (.tup [])) = H2' at *
    obtain ⟨js, ej⟩ := hst_ints hst
    refine ⟨_, hb, kvs, js, rfl, rfl, B2.hhb, ej, ?_⟩
    generalize (if true = true then !decide ((i : Int) ∈ js) else decide ((i : Int) ∈ js)) = cc
    walk_at "step"
    cases cc with
    | false =>
      refine iteF ?_
      refine book_B B2 (by omega) dk2 nbk hbk2 dv2 hl ho hem fun H'' us rs a12 a13 e1 e2 e3 e4 e5 e6 => ?_
      exact ⟨us, rs, _, _, _, _, rfl, But.tr bt2 e1, e2, e3, e4, e5, e6⟩
    | true =>
      refine iteT ?_
      walk_at "step"
      have := B2.mle
      have nmy' : my ≠ d := nmy
      refine ⟨d, my, may, rfl, dk2, B2.hmy, nmy, by omega, fun t ys H4 mv4 ht _ _ => ?_⟩
      walk_at "step"
      have b4 : But [d, bk] H2' H4 := mv4.two bk
      refine book_B (B2.but b4) (by omega) mv4.dk nbk (mv4.at hbk2 nbk) (Dvs.tupK (mv4.tupK dk2) _ _ (fixs_map Row.fix rs) dv2) hl ho (dv_tuple.mpr ⟨t, _, rfl, SqT.of ht, dvs_sDa.mpr rfl⟩) fun H'' us rs a12 a13 e1 e2 e3 e4 e5 e6 => ?_
      exact ⟨us, rs, _, _, _, _, rfl, But.tr (But.tr bt2 b4) e1, e2, e3, e4, e5, e6⟩
  · rintro σ H' ⟨us, rs, a10, a11, a12, a13, rfl, bt, dk', hbk', dv', hl, ho⟩
    walk_at "step"
    refine ⟨bk, us, rfl, .inl ⟨SqL.of hbk', fun t ht => ?_⟩⟩
    have st : Same H' (upd H' t (.tup us)) := Same.new ht _
    refine q t us rs _ ⟨fun b o e nb => ?_, dk'.same st⟩ upd_same (Dvs.same st _ _ dv') (by omega) (by omega) ho
    refine st _ _ (bt b o (mv8.but b o e nb) ?_)
    simp at nb ⊢
    exact ⟨nb, ne_free e bk0⟩
end My
namespace My
open PySem L2
variable {K : PySem.W.Frag} {vs : List V} {H : Hp} {Q : VK} {E : XK}
@[reducible] def T__law_text_0 (K : PySem.W.Frag) : TS :=
 (tSeq (tAsg (tC (.str (" !\"#$&'()*+,-./0123456789:;<=>?@ABCDEFGHIJKLMNOPQRSTUVWXYZ[\\]^_`" : Str))) (gName 1))
 (tAsg (tOp (rAddA K) (tVar 1) (tC (.str ("abcdefghijklmnopqrstuvwxyz{|}~\n" : Str)))) (gName 1)))
def textT (K : PySem.W.Frag) : TS :=
 (tRet (tBM K "str" (rJoin K) (tC (.str ("" : Str))) (tCons (tComp [some 1, some 0, none] (iRng1 (tCons (tOp (rAddA K) (tC (.int 1)) (tCall (sp__law_draw K) [] E0 (tCons (tVar 0) (tCons (tC (.int 9)) tNil)))) tNil)) (gName 2) tTT (tOp (rIxA K) (tVar 0) (tCall (sp__law_draw K) [] E0 (tCons (tVar 1) (tCons (tCB (rLenA K) (tCons (tVar 0) tNil)) tNil))))) tNil)))
theorem join_len (cs : List Nat) : (PySem.Txt.join ("" : Str) (cs.map ch)).length = cs.length := by
  show (PySem.Txt.join ("" : Str) (cs.map ch)).cps.size = _
  rw [← Array.length_toList, join_ch]
theorem sum_ch (cs : List Nat) : ((cs.map ch).map (·.length)).sum = cs.length := by
  induction cs with
  | nil => rfl
  | cons c r ih => rw [List.map_cons, List.map_cons, List.sum_cons, ih, List.length_cons]; show 1 + _ = _; omega
theorem mul01 {x : Str} {c : Bool} : (PySem.Txt.mul x (if c = true then 1 else 0)).length ≤ x.length := by
  cases c with
  | false => exact Nat.zero_le _
  | true => exact Nat.le_refl _
theorem text_tail {D : Ends} {d : Addr} {S : Str} (dk : Dk H d) (h1 : 1 ≤ S.length) (h2 : S.length ≤ 1000) (q : ∀ (x : Str) (H' : Hp), Mv d H H' → 1 ≤ x.length → x.length ≤ 9 → D.rt (.str x) H') : textT K D [some (.ref d), some (.str S)] H := by
  unfold textT
  walk_at "step"
  refine ⟨rfl, ?_⟩
  walk_at "step"
  refine ⟨d, 9, rfl, by decide, by decide, dk, fun m H1 m0 m1 mv1 => ?_⟩
  walk_at "step"
  let Pv0 : Nat → List V → Hp → Prop := fun i ys H' => Mv d H1 H' ∧ ∃ cs : List Nat, ys = strV (cs.map ch) ∧ cs.length = i
  refine rng1_comp (by omega) (by omega) Pv0 ⟨Mv.refl mv1.dk, [], rfl, rfl⟩ ?_ ?_ ?_
  · rintro i ys H' hi ⟨_, cs, rfl, hl⟩
    rw [strV_len, List.length_map]; exact sl64 (by omega)
  · rintro i ys H' hi ⟨mv, cs, rfl, hl⟩
    walk_at "step"
    refine v_lenS (sl64 (by omega)) ?_
    walk_at "step"
    refine ⟨d, (S.length : Int), rfl, by omega, by omega, mv.dk, fun x H2 x0 x1 mv2 => ?_⟩
    have hx : x.toNat < S.cps.toList.length := by rw [Array.length_toList]; show x.toNat < S.length; omega
    refine v_ixS (sl64 (by omega)) (ixI x0 (List.getElem?_eq_getElem hx)) ?_
    exact ⟨mv.tr mv2, cs ++ [S.cps.toList[x.toNat]], by simp [strV, ch], by simp [hl]⟩
  · rintro ys H' ⟨mv, cs, rfl, hl⟩ p hp
    walk_at "step"
    refine ⟨"", p, cs.map ch, rfl, rfl, .inl (SqL.of upd_same), ?_, ?_⟩
    · rw [sum_ch, show ("" : Str).length = 0 from rfl]; omega
    · exact q _ _ ((mv1.tr mv).new hp _) (by rw [join_len]; omega) (by rw [join_len]; omega)
@[reducible] def T__law_text_2 (K : PySem.W.Frag) : TS :=
 (tSeq (tIfS (tTest (tOp (rEqA K) (tCall (sp__law_draw K) [] E0 (tCons (tVar 0) (tCons (tC (.int 2)) tNil))) (tC (.int 1))))
 (T__law_text_0 K) tNext)
 (textT K))
def sp__law_text (K : PySem.W.Frag) : Sp := fun vs H Q _ => ∃ (d : Addr), vs = [.ref d] ∧ Dk H d ∧ ∀ (x : Str) (H' : Hp), Mv d H H' → 1 ≤ x.length → x.length ≤ 9 → Q (.str x) H'
theorem len__law_text (K : PySem.W.Frag) : ∀ vs H Q E, sp__law_text K vs H Q E → vs.length = ["_law_deck"].length := by rintro vs H Q E ⟨d, rfl, _⟩; rfl
def R__law_text (K : PySem.W.Frag) : TS :=
 (tSeq (tAsg (tC (.str ("ab <&>;l/\nZ~ 7" : Str))) (gName 1))
 (T__law_text_2 K))
theorem rd__law_text (h : sp__law_text K vs H Q E) : R__law_text K { nx := fun _ H' => Q .non H', rt := Q } (start ["_law_deck", "_law_signs"] vs) H := by
  obtain ⟨d, rfl, dk, q⟩ := h
  show R__law_text K _ [some (.ref d), none] H
  unfold R__law_text
  walk_at "step"
  refine ⟨d, 2, rfl, by decide, by decide, dk, fun m H1 m0 m1 mv1 => ?_⟩
  walk_at "step"
  have qq : ∀ (x : Str) (H' : Hp), Mv d H1 H' → 1 ≤ x.length → x.length ≤ 9 → Q (.str x) H' := fun x H' mv a b => q x H' (mv1.tr mv) a b
  by_cases e : m = 1
  · rw [decide_eq_true e]; refine iteT ?_
    walk_at "step"
    refine v_addS (sl64 (by decide +kernel)) ?_
    walk_at "step"
    exact text_tail mv1.dk (by rw [app_len]; decide +kernel) (by rw [app_len]; decide +kernel) qq
  · rw [decide_eq_false e]; refine iteF ?_
    exact text_tail mv1.dk (by decide +kernel) (by decide +kernel) qq
@[reducible] def T__law_tree_0 (K : PySem.W.Frag) : TS :=
 (tAsg (tOp (rIxA K) (tOp (rIxA K) (tVar 1) (tCall (sp__law_draw K) [] E0 (tCons (tVar 0) (tCons (tCB (rLenA K) (tCons (tVar 1) tNil)) tNil)))) (tC (.int 0))) (gName 4))
@[reducible] def T__law_tree_1 (K : PySem.W.Frag) : TS :=
 (tDrop (tBM K "list" rAppend (tVar 5) (tCons (tOp rMulA (tCall (sp__law_text K) [] E0 (tCons (tVar 0) tNil)) (tCB rIntA (tCons (tOp (rNeA K) (tCall (sp__law_draw K) [] E0 (tCons (tVar 0) (tCons (tC (.int 9)) tNil))) (tC (.int 4))) tNil))) tNil)))
@[reducible] def T__law_tree_2 (K : PySem.W.Frag) (spr : Sp) : TS :=
 (tDrop (tBM K "list" rAppend (tVar 5) (tCons (tCall spr [] E0 (tCons (tVar 0) (tCons (tVar 1) (tCons (tVar 2) (tCons (tOp (rI0 fun i j => .int (i - j)) (tVar 3) (tC (.int 1))) tNil))))) tNil)))
@[reducible] def T__law_tree_3 (K : PySem.W.Frag) (spr : Sp) : TS :=
 (tIfS (tTest (tOp (rEqA K) (tCall (sp__law_draw K) [] E0 (tCons (tVar 0) (tCons (tC (.int 3)) tNil))) (tC (.int 0))))
 (T__law_tree_1 K) (T__law_tree_2 K spr))
@[reducible] def T__law_tree_4 (K : PySem.W.Frag) (spr : Sp) : TS :=
 (tFor (iRng1 (tCons (tCall (sp__law_draw K) [] E0 (tCons (tVar 0) (tCons (tC (.int 4)) tNil))) tNil)) (gName 6)
 (T__law_tree_3 K spr))
@[reducible] def T__law_tree_5 (K : PySem.W.Frag) (spr : Sp) : TS :=
 (tSeq (tIfS (tTest (tOp rGtA (tVar 3) (tC (.int 1))))
 (T__law_tree_4 K spr) tNext)
 (tRet (tTup (tCons (tVar 4) (tCons (tCB (rTupleA K) (tCons (tVar 5) tNil)) tNil)))))
def treeB (K : PySem.W.Frag) (spr : Sp) : TS :=
 (tSeq (tAsg (tLst tNil) (gName 5))
 (T__law_tree_5 K spr))
theorem das_app (a b : List Tr) : Tr.das (a ++ b) = Tr.das a ++ Tr.das b := by rw [das_map, das_map, das_map, List.map_append]
@[reducible] def T__law_tree_6 (K : PySem.W.Frag) (spr : Sp) : TS :=
 (tSeq (tIfS (tTest (tOp rGtA (tCall (sp__law_draw K) [] E0 (tCons (tVar 0) (tCons (tC (.int 4)) tNil))) (tC (.int 0))))
 (T__law_tree_0 K) tNext)
 (treeB K spr))
def spn__law_tree (n : Nat) (K : PySem.W.Frag) : Sp := fun vs H Q _ => ∃ (d bk : Addr) (c deep : Int) (us : List V) (rs : List Row), vs = [.ref d, .ref bk, .int c, .int deep] ∧ Dk H d ∧ SqT K H bk us ∧ Dvs K H (rs.map Row.da) us ∧ 1 ≤ rs.length ∧ rs.length ≤ 12 ∧ (∀ r ∈ rs, RwOk r) ∧ deep ≤ n + 1 ∧ ∀ (t : Tr) (v : V) (H' : Hp), Mv d H H' → Dv K H' t.da v → wt t ≤ 10 * 4 ^ n → hgt t ≤ n + 1 → Q v H'
def sp__law_tree (K : PySem.W.Frag) : Sp := spn__law_tree 5 K
def prev__law_tree (K : PySem.W.Frag) : Nat → Sp
  | 0 => fun _ _ _ _ => False
  | n + 1 => spn__law_tree n K
theorem len__law_tree (K : PySem.W.Frag) (n : Nat) : ∀ vs H Q E, spn__law_tree n K vs H Q E → vs.length = ["_law_deck", "_law_book_here", "_law_code", "_law_deep"].length := by rintro vs H Q E ⟨d, bk, c, deep, us, rs, rfl, _⟩; rfl
def R__law_tree (K : PySem.W.Frag) (spr : Sp) : TS :=
 (tSeq (tAsg (tOp rMulA (tCall (sp__law_name K) [] E0 (tCons (tVar 2) (tCons (tCall (sp__law_draw K) [] E0 (tCons (tVar 0) (tCons (tC (.int 13)) tNil))) tNil))) (tCB rIntA (tCons (tOp (rNeA K) (tCall (sp__law_draw K) [] E0 (tCons (tVar 0) (tCons (tC (.int 8)) tNil))) (tC (.int 1))) tNil))) (gName 4))
 (T__law_tree_6 K spr))
theorem rd__law_tree (n : Nat) (h : spn__law_tree n K vs H Q E) : R__law_tree K (prev__law_tree K n) { nx := fun _ H' => Q .non H', rt := Q } (start ["_law_deck", "_law_book_here", "_law_code", "_law_deep", "_law_name_here", "_law_parts", "_law_k"] vs) H := by
  obtain ⟨d, bk, c, deep, us, rs, rfl, dk, hbk, dvs, r1, r2, ro, hdeep, q⟩ := h
  show R__law_tree K _ _ [some (.ref d), some (.ref bk), some (.int c), some (.int deep), none, none, none] H
  have hul : us.length = rs.length := by have := dvs.length; rw [List.length_map] at this; exact this
  have fin : ∀ (nm : Str) (H1 : Hp), Mv d H H1 → treeB K (prev__law_tree K n) { nx := fun _ H' => Q .non H', rt := Q } [some (.ref d), some (.ref bk), some (.int c), some (.int deep), some (.str nm), none, none] H1 := by
    intro nm H1 mv1
    unfold treeB
    walk_at "step"
    refine ⟨sl64 (by simp), fun p hp => ?_⟩
    walk_at "step"
    have np : p ≠ d := mv1.dk.ne hp
    have mv2 := mv1.new hp (.lst [])
    have hp2 : (upd H1 p (.lst [])) p = some (.lst []) := upd_same
    have p0 : H p = none := none_mv mv1 dk hp
    generalize (upd H1 p (.lst [])) = H2 at *
    have ret : ∀ (ts : List Tr) (vs : List V) (a6 : Option V) (H' : Hp), Mv d H H' → H' p = some (.lst vs) → Dvs K H' (Tr.das ts) vs → ts.length ≤ 3 → 1 + wts ts ≤ 10 * 4 ^ n → 1 + hgts ts ≤ n + 1 → tRet (tTup (tCons (tVar 4) (tCons (tCB (rTupleA K) (tCons (tVar 5) tNil)) tNil))) { nx := fun _ H' => Q .non H', rt := Q } [some (.ref d), some (.ref bk), some (.int c), some (.int deep), some (.str nm), some (.ref p), a6] H' := by
      intro ts vs a6 H' mv hv dv hl hw hh
      walk_at "step"
      refine ⟨p, vs, rfl, .inl ⟨SqL.of hv, fun t ht => ?_⟩⟩
      walk_at "step"
      refine ⟨sl64 (by simp), fun r hr => ?_⟩
      have s1 : Same H' (upd (upd H' t (.tup vs)) r (.tup [.str nm, .ref t])) := Same.tr (Same.new ht _) (Same.new hr _)
      refine q (.nd nm ts) _ _ (mv.same s1) ?_ (by rw [wt]; exact hw) (by rw [hgt]; exact hh)
      rw [Tr.da]
      exact dv_tuple.mpr ⟨r, _, rfl, SqT.of upd_same, dvs_cons (dv_str.mpr rfl) (dvs_cons (dv_tuple.mpr ⟨t, vs, rfl, SqT.of (by rw [upd_ne (ne_free upd_same hr)]; exact upd_same), Dvs.same s1 _ _ dv⟩) dvs_nil)⟩
    by_cases hd : 1 < deep
    · rw [decide_eq_true hd]; refine iteT ?_
      obtain ⟨m, rfl⟩ : ∃ m, n = m + 1 := ⟨n - 1, by omega⟩
      walk_at "step"
      refine ⟨d, 4, rfl, by decide, by decide, mv2.dk, fun x H3 x0 x1 mv3 => ?_⟩
      walk_at "step"
      have hB : 10 ≤ 10 * 4 ^ m := by have : 1 ≤ 4 ^ m := Nat.one_le_pow _ _ (by decide); omega
      have hB2 : 10 * 4 ^ (m + 1) = 4 * (10 * 4 ^ m) := by rw [Nat.pow_succ]; omega
      have mvA := mv2.tr mv3
      generalize 10 * 4 ^ m = BB at *
      let Pv1 : Nat → St → Hp → Prop := fun i σ H' => ∃ (ts : List Tr) (vs : List V) (a6 : Option V), σ = [some (.ref d), some (.ref bk), some (.int c), some (.int deep), some (.str nm), some (.ref p), a6] ∧ Mv d H H' ∧ H' p = some (.lst vs) ∧ Dvs K H' (Tr.das ts) vs ∧ ts.length = i ∧ wts ts ≤ i * BB ∧ hgts ts ≤ m + 1
      refine rng1_for (by omega) (by omega) Pv1 ⟨[], [], _, rfl, mvA, mv3.at hp2 np, by rw [Tr.das]; exact dvs_nil, rfl, by rw [wts]; exact Nat.zero_le _, by rw [hgts]; exact Nat.zero_le _⟩ ?_ ?_
      · rintro i σ H' hi ⟨ts, vs, a6, rfl, mv, hv, dv, hl, hw, hh⟩
        have hvl : vs.length = i := by rw [das_len dv]; exact hl
        walk_at "step"
        refine ⟨d, 3, rfl, by decide, by decide, mv.dk, fun y H4 y0 y1 mv4 => ?_⟩
        walk_at "step"
        have hv4 := mv4.at hv np
        have dv4 := Dvs.tupK (mv4.tupK mv.dk) _ _ (das_fix ts) dv
        have mvB := mv.tr mv4
        have hwi : (i + 1) * BB = i * BB + BB := by rw [Nat.add_mul, Nat.one_mul]
        by_cases e : y = 0
        · rw [decide_eq_true e]; refine iteT ?_
          walk_at "step"
          refine ⟨.inl ⟨rfl, _, SqL.of hv4⟩, ?_⟩
          walk_at "step"
          refine ⟨d, rfl, mv4.dk, fun z H5 mv5 z1 z9 => ?_⟩
          walk_at "step"
          refine ⟨d, 9, rfl, by decide, by decide, mv5.dk, fun w H6 w0 w1 mv6 => ?_⟩
          walk_at "step"
          refine .inr ⟨_, rfl, ?_⟩
          refine v_mulS (by split <;> omega) (by split <;> omega) (by omega) ?_
          have hz := mul01 (x := z) (c := !decide (w = 4))
          generalize PySem.Txt.mul z (if (!decide (w = 4)) = true then 1 else 0) = zz at *
          walk_at "step"
          have hv6 := mv6.at (mv5.at hv4 np) np
          refine v_append hv6 (by rw [sizeLine_eq]; omega) ?_
          refine ⟨ts ++ [.tx zz], _, _, rfl, ((mvB.tr mv5).tr mv6).put dk p0 _, upd_same, ?_, by simp [hl], ?_, ?_⟩
          · rw [das_app]
            have tk := (mv5.tupK mv4.dk).trans ((mv6.tupK mv5.dk).trans (tupK_lst hv6 (ys := vs ++ [V.str zz])))
            refine Dvs.append (Dvs.tupK tk _ _ (das_fix ts) dv4) ?_
            rw [Tr.das, Tr.das, Tr.da]
            exact Dvs.one (dv_str.mpr rfl)
          · rw [wts_app, wts, wts, wt]; omega
          · rw [hgts_app, hgts, hgts, hgt]; omega
        · rw [decide_eq_false e]; refine iteF ?_
          walk_at "step"
          refine ⟨.inl ⟨rfl, _, SqL.of hv4⟩, ?_⟩
          walk_at "step"
          have tkB : TupK H H4 := mvB.tupK dk
          refine ⟨d, bk, c, deep - 1, us, rs, rfl, mv4.dk, tkB.sqT hbk, Dvs.tupK tkB _ _ (fixs_map Row.fix rs) dvs, r1, r2, ro, by omega, fun t v H5 mv5 dt wtt htt => ?_⟩
          walk_at "step"
          have hv5 := mv5.at hv4 np
          refine v_append hv5 (by rw [sizeLine_eq]; omega) ?_
          refine ⟨ts ++ [t], _, _, rfl, (mvB.tr mv5).put dk p0 _, upd_same, ?_, by simp [hl], ?_, ?_⟩
          · rw [das_app]
            have tk5 : TupK H5 (upd H5 p (.lst (vs ++ [v]))) := tupK_lst hv5
            refine Dvs.append (Dvs.tupK ((mv5.tupK mv4.dk).trans tk5) _ _ (das_fix ts) dv4) ?_
            rw [Tr.das, Tr.das]
            exact Dvs.one (Dv.tupK tk5 _ _ (da_fix t) dt)
          · rw [wts_app, wts, wts]; omega
          · rw [hgts_app, hgts, hgts]; omega
      · rintro σ H' ⟨ts, vs, a6, rfl, mv, hv, dv, hl, hw, hh⟩
        refine ret ts vs a6 H' mv hv dv (by omega) ?_ (by omega)
        have : x.toNat * BB ≤ 3 * BB := Nat.mul_le_mul_right _ (by omega)
        omega
    · rw [decide_eq_false hd]; refine iteF ?_
      refine ret [] [] _ H2 mv2 hp2 (by rw [Tr.das]; exact dvs_nil) (by simp) ?_ ?_
      · rw [wts]; have : 1 ≤ 4 ^ n := Nat.one_le_pow _ _ (by decide); omega
      · rw [hgts]; omega
  unfold R__law_tree
  walk_at "step"
  refine ⟨d, 13, rfl, by decide, by decide, dk, fun x H1 x0 x1 mv1 => ?_⟩
  walk_at "step"
  refine ⟨c, x, rfl, fun nm n1 n8 => ?_⟩
  walk_at "step"
  refine ⟨d, 8, rfl, by decide, by decide, mv1.dk, fun y H2 y0 y1 mv2 => ?_⟩
  walk_at "step"
  refine .inr ⟨_, rfl, ?_⟩
  refine v_mulS (by split <;> omega) (by split <;> omega) (by omega) ?_
  walk_at "step"
  refine ⟨d, 4, rfl, by decide, by decide, mv2.dk, fun z H3 z0 z1 mv3 => ?_⟩
  walk_at "step"
  have mvA := (mv1.tr mv2).tr mv3
  by_cases hz : 0 < z
  · rw [decide_eq_true hz]; refine iteT ?_
    walk_at "step"
    have tk := mvA.tupK dk
    refine v_lenQ (.inr (tk.sqT hbk)) ?_
    walk_at "step"
    refine ⟨d, (us.length : Int), rfl, by omega, by omega, mv3.dk, fun w H4 w0 w1 mv4 => ?_⟩
    have mvB := mvA.tr mv4
    have tk4 := mvB.tupK dk
    have hw : w.toNat < rs.length := by omega
    obtain ⟨u, hu, du⟩ := (Dvs.tupK tk4 _ _ (fixs_map Row.fix rs) dvs).get (i := w.toNat) (by rw [List.getElem?_map, List.getElem?_eq_getElem hw]; rfl)
    refine v_ixT (tk4.sqT hbk) (ixI w0 hu) ?_
    obtain ⟨bb, sv, bv, rfl, hb, _⟩ := row_parts du
    walk_at "step"
    refine v_ixT hb (v := .str rs[w.toNat].name) rfl ?_
    walk_at "step"
    exact fin _ H4 mvB
  · rw [decide_eq_false hz]; refine iteF ?_
    exact fin _ H3 mvA
end My
namespace My
open PySem L2
variable {K : PySem.W.Frag} {vs : List V} {H : Hp} {Q : VK} {E : XK}
def way : Tr → List Int → Option (List Tr)
  | t, [] => some [t]
  | t, k :: pl => if 0 ≤ k then (match t.kids[k.toNat]? with | some u => (way u pl).map (t :: ·) | none => none) else none
theorem way_cons {t : Tr} {k : Int} {pl : List Int} {ws : List Tr} (h : way t (k :: pl) = some ws) : 0 ≤ k ∧ ∃ u ws', t.kids[k.toNat]? = some u ∧ way u pl = some ws' ∧ ws = t :: ws' := by
  rw [way] at h
  by_cases h0 : 0 ≤ k
  · rw [if_pos h0] at h
    cases e : t.kids[k.toNat]? with
    | none => rw [e] at h; cases h
    | some u =>
      rw [e] at h
      obtain ⟨ws', h1, h2⟩ := Option.map_eq_some_iff.mp h
      exact ⟨h0, u, ws', rfl, h1, h2.symm⟩
  · rw [if_neg h0] at h; cases h
theorem way_mk {t u : Tr} {k : Nat} {pl : List Int} {ws : List Tr} (e : t.kids[k]? = some u) (h : way u pl = some ws) : way t ((k : Int) :: pl) = some (t :: ws) := by
  rw [way, if_pos (by omega)]
  rw [show ((k : Int)).toNat = k by omega, e]
  show (way u pl).map (t :: ·) = _
  rw [h]; rfl
theorem way_len : ∀ {pl : List Int} {t : Tr} {ws : List Tr}, way t pl = some ws → ws.length = pl.length + 1
  | [], t, ws, h => by rw [way] at h; cases h; rfl
  | k :: pl, t, ws, h => by
    obtain ⟨_, u, ws', _, h2, rfl⟩ := way_cons h
    rw [List.length_cons, List.length_cons, way_len h2]
theorem way_step : ∀ {pl : List Int} {t : Tr} {ws : List Tr} {i : Nat} {k : Int}, way t pl = some ws → pl[i]? = some k → ∃ u w, ws[i]? = some u ∧ 0 ≤ k ∧ u.kids[k.toNat]? = some w ∧ ws[i + 1]? = some w
  | [], t, ws, i, k, _, e => by simp at e
  | j :: pl, t, ws, 0, k, h, e => by
    obtain ⟨h0, u, ws', h1, h2, rfl⟩ := way_cons h
    cases e
    refine ⟨t, u, rfl, h0, h1, ?_⟩
    cases pl with
    | nil => rw [way] at h2; cases h2; rfl
    | cons k' pl' => obtain ⟨_, _, _, _, _, rfl⟩ := way_cons h2; rfl
  | j :: pl, t, ws, i + 1, k, h, e => by
    obtain ⟨h0, u, ws', h1, h2, rfl⟩ := way_cons h
    obtain ⟨u', w, a1, a2, a3, a4⟩ := way_step (i := i) h2 (by simpa using e)
    exact ⟨u', w, by simpa using a1, a2, a3, by simpa using a4⟩
theorem way_zero {t : Tr} {pl : List Int} {ws : List Tr} (h : way t pl = some ws) : ws[0]? = some t := by
  cases pl with
  | nil => rw [way] at h; cases h; rfl
  | cons k pl => obtain ⟨_, _, _, _, _, rfl⟩ := way_cons h; rfl
theorem atI_last {α : Type} {xs : List α} {v : α} {n : Nat} (hn : xs.length = n + 1) (e : xs[n]? = some v) : atI xs (-1) = some v := by
  unfold atI ixN
  rw [if_neg (by decide), if_pos (by omega)]
  show xs[((xs.length : Int) + -1).toNat]? = some v
  rw [show ((xs.length : Int) + -1).toNat = n by omega]; exact e
@[reducible] def T_way_to_0 (K : PySem.W.Frag) : TS :=
 (tSeq (tIfS (tNot (tTest (tChain rLeA rLtA (tC (.int 0)) (tVar 3) (tCB (rLenA K) (tCons (tVar 4) tNil)))))
 tNever tNext)
 (tDrop (tBM K "list" rAppend (tVar 2) (tCons (tOp (rIxA K) (tVar 4) (tVar 3)) tNil))))
@[reducible] def T_way_to_1 (K : PySem.W.Frag) : TS :=
 (tSeq (tAsg (tCall (sp_parts_of K) [] E0 (tCons (tOp (rIxA K) (tVar 2) (tUn (rU fun i => .int (-i)) (tC (.int 1)))) tNil)) (gName 4))
 (T_way_to_0 K))
def sp_way_to (K : PySem.W.Frag) : Sp := fun vs H Q _ => ∃ (t : Tr) (v : V) (a : Addr) (pl : List Int) (ws : List Tr), vs = [v, .ref a] ∧ Dv K H t.da v ∧ SqT K H a (intV pl) ∧ way t pl = some ws ∧ pl.length ≤ 50000 ∧ ∀ (p : Addr) (us : List V) (H' : Hp), Same H H' → H' p = some (.lst us) → Dvs K H' (Tr.das ws) us → Q (.ref p) H'
theorem len_way_to (K : PySem.W.Frag) : ∀ vs H Q E, sp_way_to K vs H Q E → vs.length = ["tree", "place"].length := by rintro vs H Q E ⟨t, v, a, pl, ws, rfl, _⟩; rfl
def R_way_to (K : PySem.W.Frag) : TS :=
 (tSeq (tAsg (tLst (tCons (tVar 0) tNil)) (gName 2))
 (tSeq (tFor (iAny K (tVar 1)) (gName 3)
 (T_way_to_1 K))
 (tRet (tVar 2))))
theorem rd_way_to (h : sp_way_to K vs H Q E) : R_way_to K { nx := fun _ H' => Q .non H', rt := Q } (start ["tree", "place", "way", "number", "parts"] vs) H := by
  obtain ⟨t, v, a, pl, ws, rfl, hd, ha, hw, hl, q⟩ := h
  show R_way_to K _ [some v, some (.ref a), none, none, none] H
  unfold R_way_to
  have hwl := way_len hw
  walk_at "step"
  refine ⟨sl64 (by simp), fun p hp => ?_⟩
  walk_at "step"
  let Pv0 : Nat → St → Hp → Prop := fun i σ H' => ∃ (us : List V) (a3 a4 : Option V), σ = [some v, some (.ref a), some (.ref p), a3, a4] ∧ Same H H' ∧ H' p = some (.lst us) ∧ Dvs K H' (Tr.das (ws.take (i + 1))) us
  refine any_forS (H0 := H) (xs := intV pl) (.inr ha) (Same.new hp _) Pv0 ⟨[v], _, _, rfl, Same.new hp _, upd_same, ?_⟩ (fun i σ H' ⟨_, _, _, _, s, _⟩ => s) ?_ ?_
  · rw [List.take_add_one, List.take_zero, way_zero hw]
    show Dvs K _ (Tr.das [t]) [v]
    rw [Tr.das, Tr.das]
    exact Dvs.one (Dv.same (Same.new hp _) _ _ hd)
  · rintro i x σ H' hx ⟨us, a3, a4, rfl, s1, hp', dv⟩
    unfold intV at hx
    rw [List.getElem?_map] at hx
    obtain ⟨k, hk, rfl⟩ := Option.map_eq_some_iff.mp hx
    obtain ⟨u, w, h1, h2, h3, h4⟩ := way_step hw hk
    have il := (List.getElem?_eq_some_iff.mp hk).1
    have hul : us.length = i + 1 := by rw [das_len dv, List.length_take]; omega
    obtain ⟨y, hy, dy⟩ := das_get dv (i := i) (t := u) (by rw [List.getElem?_take_of_lt (by omega)]; exact h1)
    walk_at "step"
    refine ⟨1, rfl, ?_⟩
    refine v_ixL (SqL.of hp') (atI_last hul hy) ?_
    walk_at "step"
    refine ⟨u, y, rfl, dy, fun c ys H2 s2 hc dc => ?_⟩
    walk_at "step"
    rw [decide_eq_true h2]
    refine iteT ?_
    walk_at "step"
    refine v_lenQ (.inr hc) ?_
    have hkl := (List.getElem?_eq_some_iff.mp h3).1
    have hyl := das_len dc
    walk_at "step"
    rw [decide_eq_true (by omega)]
    refine iteF ?_
    walk_at "step"
    have hp2 := s2 _ _ hp'
    refine ⟨.inl ⟨rfl, _, SqL.of hp2⟩, ?_⟩
    walk_at "step"
    obtain ⟨z, hz, dz⟩ := das_get dc h3
    refine v_ixT hc (ixI h2 hz) ?_
    walk_at "step"
    refine v_append hp2 (by rw [sizeLine_eq]; omega) ?_
    have tk : TupK H2 (upd H2 p (.lst (us ++ [z]))) := tupK_lst hp2
    refine ⟨us ++ [z], _, _, rfl, Same.put (Same.tr s1 s2) hp _, upd_same, ?_⟩
    rw [List.take_add_one, h4, das_map, List.map_append, ← das_map]
    exact Dvs.append (Dvs.tupK tk _ _ (das_fix _) (Dvs.same s2 _ _ dv)) (Dvs.one (Dv.tupK tk _ _ (da_fix w) dz))
  · rintro σ H' ⟨us, a3, a4, rfl, s1, hp', dv⟩
    walk_at "step"
    rw [List.take_of_length_le (by rw [intV_len]; omega)] at dv
    exact q p us H' s1 hp' dv
def sp_part_at (K : PySem.W.Frag) : Sp := fun vs H Q _ => ∃ (t u : Tr) (v : V) (a : Addr) (pl : List Int) (ws : List Tr), vs = [v, .ref a] ∧ Dv K H t.da v ∧ SqT K H a (intV pl) ∧ way t pl = some (ws ++ [u]) ∧ pl.length ≤ 50000 ∧ ∀ (x : V) (H' : Hp), Same H H' → Dv K H' u.da x → Q x H'
theorem len_part_at (K : PySem.W.Frag) : ∀ vs H Q E, sp_part_at K vs H Q E → vs.length = ["tree", "place"].length := by rintro vs H Q E ⟨t, u, v, a, pl, ws, rfl, _⟩; rfl
def R_part_at (K : PySem.W.Frag) : TS :=
 (tRet (tOp (rIxA K) (tCall (sp_way_to K) [] E0 (tCons (tVar 0) (tCons (tVar 1) tNil))) (tUn (rU fun i => .int (-i)) (tC (.int 1)))))
theorem rd_part_at (h : sp_part_at K vs H Q E) : R_part_at K { nx := fun _ H' => Q .non H', rt := Q } (start ["tree", "place"] vs) H := by
  obtain ⟨t, u, v, a, pl, ws, rfl, hd, ha, hw, hl, q⟩ := h
  show R_part_at K _ [some v, some (.ref a)] H
  unfold R_part_at
  walk_at "step"
  refine ⟨t, v, a, pl, ws ++ [u], rfl, hd, ha, hw, hl, fun p us H' s1 hp dv => ?_⟩
  walk_at "step"
  refine ⟨1, rfl, ?_⟩
  rw [das_map, List.map_append] at dv
  obtain ⟨us', x, rfl, _, dx⟩ := Dvs.snoc dv
  refine v_ixL (SqL.of hp) (v := x) (atI_last (n := us'.length) (by simp) (by simp)) ?_
  exact q x H' s1 dx
def nmOf : Tr → Str
  | .nd n _ => n
  | .tx _ => ""
def sp_places_in (K : PySem.W.Frag) : Sp := fun vs H Q _ => ∃ (t : Tr) (v : V), vs = [v] ∧ Dv K H t.da v ∧ wt t ≤ 40000 ∧ ∀ (p : Addr) (us : List V) (H' : Hp), Same H H' → H' p = some (.lst us) → Dvs K H' ((pre [] t).map fun p => .tuple (intD p.1)) us → Q (.ref p) H'
theorem len_places_in (K : PySem.W.Frag) : ∀ vs H Q E, sp_places_in K vs H Q E → vs.length = ["tree"].length := by rintro vs H Q E ⟨t, v, rfl, _⟩; rfl
def R_places_in (K : PySem.W.Frag) : TS :=
 (tRet (tComp [none, none] (iAny K (tCall (sp_placed_parts K) [] E0 (tCons (tVar 0) tNil))) (gTup K 2 (gCons (gName 0) (gCons (gName 1) gNil))) tTT (tVar 0)))
theorem rd_places_in (h : sp_places_in K vs H Q E) : R_places_in K { nx := fun _ H' => Q .non H', rt := Q } (start ["tree"] vs) H := by
  obtain ⟨t, v, rfl, hd, hz, q⟩ := h
  show R_places_in K _ [some v] H
  unfold R_places_in
  walk_at "step"
  refine ⟨t, v, rfl, hd, hz, fun p us H1 s1 _ hp dvs => ?_⟩
  have hlen : us.length = (pre [] t).length := by have := dvs.length; rw [List.length_map] at this; exact this
  have hpw := pre_wt [] t
  let Pv1 : Nat → List V → Hp → Prop := fun i ys H' => H' = H1 ∧ ys.length = i ∧ Dvs K H1 (((pre [] t).take i).map fun p => .tuple (intD p.1)) ys
  refine any_compL (xs := us) (SqL.of hp) Pv1 ⟨rfl, rfl, dvs_nil⟩ ?_ ?_ ?_ ?_
  · rintro i ys H' hi ⟨rfl, hl, _⟩
    exact sl64 (by omega)
  · rintro i ys H' hi ⟨rfl, _⟩
    exact SqL.of hp
  · rintro i x ys H' hx ⟨rfl, hl, dy⟩
    obtain ⟨e, he, hdx⟩ := dvs.get' hx
    rw [List.getElem?_map] at he
    obtain ⟨pt, hpt, rfl⟩ := Option.map_eq_some_iff.mp he
    obtain ⟨a, bq, u, rfl, ha, hb, hu⟩ := pD_parts hdx
    refine ⟨a, _, rfl, ha, rfl, _, _, rfl, ?_⟩
    walk_at "step"
    refine ⟨_, _, rfl, ?_⟩
    walk_at "step"
    refine ⟨rfl, ?_⟩
    walk_at "step"
    refine ⟨rfl, by simp [hl], ?_⟩
    rw [List.take_add_one, hpt, List.map_append]
    exact Dvs.append dy (Dvs.one (dv_tuple.mpr ⟨bq, _, rfl, hb, dvs_intD.mpr rfl⟩))
  · rintro ys H' ⟨rfl, hl, dy⟩ r hr
    rw [hlen, List.take_length] at dy
    exact q r ys _ (Same.tr s1 (Same.new hr _)) upd_same (Dvs.same (Same.new hr _) _ _ dy)
end My
namespace My
open PySem L2
variable {K : PySem.W.Frag} {vs : List V} {H : Hp} {Q : VK} {E : XK}
theorem eqv_unit (ns : List Int) : PyData.eqv (.tuple (intD ns)) (.tuple []) = ns.isEmpty := by cases ns <;> rfl
abbrev T3 := List Int × List Str × Tr
def abv (x : T3) : List Str := if x.1 = [] then x.2.1 else x.2.1 ++ [nmOf x.2.2]
def kid3 (pl : List Int) (ab : List Str) : Nat → List Tr → List T3
  | _, [] => []
  | k, t :: ts => (pl ++ [(k : Int)], ab, t) :: kid3 pl ab (k + 1) ts
mutual
def wkT (pl : List Int) (ns ab : List Str) : Tr → List T3
  | .tx s => [(pl, ns, .tx s)]
  | .nd n ps => (pl, ns, .nd n ps) :: wkS pl ab 0 ps
def wkS (pl : List Int) (ab : List Str) (k : Nat) : List Tr → List T3
  | [] => []
  | t :: ts => wkT (pl ++ [(k : Int)]) ab (ab ++ [nmOf t]) t ++ wkS pl ab (k + 1) ts
end
def wk (x : T3) : List T3 := wkT x.1 x.2.1 (abv x) x.2.2
def flat3 (l : List T3) : List T3 := l.flatMap wk
theorem flat3_app (a b : List T3) : flat3 (a ++ b) = flat3 a ++ flat3 b := by unfold flat3; rw [List.flatMap_append]
theorem snoc_ne {α : Type} (l : List α) (x : α) : l ++ [x] ≠ [] := by simp
theorem wkS_flat (pl : List Int) (ab : List Str) : ∀ (k : Nat) (ts : List Tr), wkS pl ab k ts = flat3 (kid3 pl ab k ts)
  | k, [] => by rw [wkS]; rfl
  | k, t :: ts => by
    rw [wkS, wkS_flat pl ab (k + 1) ts, kid3]
    show _ = wk (pl ++ [(k : Int)], ab, t) ++ flat3 (kid3 pl ab (k + 1) ts)
    unfold wk abv
    rw [if_neg (snoc_ne _ _)]
theorem wk_kids (x : T3) : wk x = x :: flat3 (kid3 x.1 (abv x) 0 x.2.2.kids) := by
  obtain ⟨pl, ns, t⟩ := x
  cases t with
  | tx s => unfold wk; rw [wkT]; rfl
  | nd n ps => unfold wk; rw [wkT, wkS_flat]; rfl
theorem flat3_cons (x : T3) (r : List T3) : flat3 (x :: r) = x :: flat3 (kid3 x.1 (abv x) 0 x.2.2.kids ++ r) := by
  rw [flat3_app]
  show wk x ++ flat3 r = _
  rw [wk_kids]; rfl
theorem kid3_len (pl : List Int) (ab : List Str) : ∀ (k : Nat) (ts : List Tr), (kid3 pl ab k ts).length = ts.length
  | _, [] => rfl
  | k, t :: ts => by rw [kid3, List.length_cons, List.length_cons, kid3_len pl ab (k + 1) ts]
mutual
theorem wkT_wt (pl : List Int) (ns ab : List Str) : ∀ t : Tr, (wkT pl ns ab t).length ≤ wt t
  | .tx s => by rw [wkT, wt, List.length_singleton]; omega
  | .nd n ps => by rw [wkT, wt, List.length_cons]; have := wkS_wt pl ab 0 ps; omega
theorem wkS_wt (pl : List Int) (ab : List Str) (k : Nat) : ∀ ts : List Tr, (wkS pl ab k ts).length ≤ wts ts
  | [] => by rw [wkS, wts]; exact Nat.le_refl _
  | t :: ts => by rw [wkS, wts, List.length_append]; have := wkT_wt (pl ++ [(k : Int)]) ab (ab ++ [nmOf t]) t; have := wkS_wt pl ab (k + 1) ts; omega
end
mutual
theorem wkT_len (pl : List Int) (ns ab : List Str) (h : ns.length ≤ ab.length) : ∀ (t : Tr) (x : T3), x ∈ wkT pl ns ab t → x.1.length + 1 ≤ pl.length + wt t ∧ x.2.1.length + 1 ≤ ab.length + wt t
  | .tx s, x, hx => by rw [wkT, List.mem_singleton] at hx; subst hx; rw [wt]; show pl.length + 1 ≤ _ ∧ ns.length + 1 ≤ _; omega
  | .nd n ps, x, hx => by
    rw [wkT, List.mem_cons] at hx
    rw [wt]
    rcases hx with rfl | hx
    · show pl.length + 1 ≤ _ ∧ ns.length + 1 ≤ _; omega
    · have := wkS_len pl ab 0 ps x hx; omega
theorem wkS_len (pl : List Int) (ab : List Str) (k : Nat) : ∀ (ts : List Tr) (x : T3), x ∈ wkS pl ab k ts → x.1.length ≤ pl.length + wts ts ∧ x.2.1.length ≤ ab.length + wts ts
  | [], x, hx => by rw [wkS] at hx; cases hx
  | t :: ts, x, hx => by
    rw [wkS, List.mem_append] at hx
    rw [wts]
    rcases hx with hx | hx
    · have := wkT_len _ _ _ (by simp) t x hx; simp at this; omega
    · have := wkS_len pl ab (k + 1) ts x hx; omega
end
def W3 (K : PySem.W.Frag) (H : Hp) (x : T3) (v : V) : Prop := ∃ (a pa na : Addr) (pv : V), v = .ref a ∧ H a = some (.tup [.ref pa, .ref na, pv]) ∧ H pa = some (.tup (intV x.1)) ∧ H na = some (.tup (strV x.2.1)) ∧ Dv K H x.2.2.da pv
def W3s (K : PySem.W.Frag) (H : Hp) : List T3 → List V → Prop
  | [], vs => vs = []
  | x :: xs, vs => ∃ v r, vs = v :: r ∧ W3 K H x v ∧ W3s K H xs r
theorem W3.tupK {H' : Hp} {x : T3} {v : V} (k : TupK H H') (h : W3 K H x v) : W3 K H' x v := by
  obtain ⟨a, pa, na, pv, rfl, h1, h2, h3, h4⟩ := h
  exact ⟨a, pa, na, pv, rfl, k.1 _ _ h1, k.1 _ _ h2, k.1 _ _ h3, Dv.tupK k _ _ (da_fix _) h4⟩
theorem W3s.tupK {H' : Hp} (k : TupK H H') : ∀ {xs : List T3} {vs : List V}, W3s K H xs vs → W3s K H' xs vs
  | [], _, h => h
  | x :: xs, _, ⟨v, r, e, h1, h2⟩ => ⟨v, r, e, h1.tupK k, W3s.tupK k h2⟩
theorem W3s.app : ∀ {xs ys : List T3} {vs ws : List V}, W3s K H xs vs → W3s K H ys ws → W3s K H (xs ++ ys) (vs ++ ws)
  | [], _, _, _, h, g => by rw [show _ = [] from h]; exact g
  | x :: xs, _, _, _, ⟨v, r, e, h1, h2⟩, g => by subst e; exact ⟨v, _, rfl, h1, W3s.app h2 g⟩
theorem W3s.length : ∀ {xs : List T3} {vs : List V}, W3s K H xs vs → vs.length = xs.length
  | [], _, h => by rw [show _ = [] from h]; rfl
  | x :: xs, _, ⟨v, r, e, h1, h2⟩ => by subst e; rw [List.length_cons, List.length_cons, W3s.length h2]
theorem W3s.get : ∀ {xs : List T3} {vs : List V} {i : Nat} {v : V}, W3s K H xs vs → vs[i]? = some v → ∃ x, xs[i]? = some x ∧ W3 K H x v
  | [], _, i, v, h, e => by rw [show _ = [] from h] at e; simp at e
  | x :: xs, _, 0, v, ⟨w, r, e, h1, h2⟩, e2 => by subst e; cases e2; exact ⟨x, rfl, h1⟩
  | x :: xs, _, i + 1, v, ⟨w, r, e, h1, h2⟩, e2 => by
    subst e
    obtain ⟨y, hy, w3⟩ := W3s.get (i := i) h2 (by simpa using e2)
    exact ⟨y, by simpa using hy, w3⟩
theorem W3s.one {x : T3} {v : V} (h : W3 K H x v) : W3s K H [x] [v] := ⟨v, [], rfl, h, rfl⟩
def d3 (x : T3) : PyData := .tuple [.tuple (intD x.1), .tuple (sDa x.2.1), x.2.2.da]
theorem W3.dv {x : T3} {v : V} (h : W3 K H x v) : Dv K H (d3 x) v := by
  obtain ⟨a, pa, na, pv, rfl, h1, h2, h3, h4⟩ := h
  unfold d3
  exact dv_tuple.mpr ⟨a, _, rfl, SqT.of h1, dvs_cons (dv_tuple.mpr ⟨pa, _, rfl, SqT.of h2, dvs_intD.mpr rfl⟩) (dvs_cons (dv_tuple.mpr ⟨na, _, rfl, SqT.of h3, dvs_sDa.mpr rfl⟩) (dvs_cons h4 dvs_nil))⟩
theorem W3s.dvs : ∀ {xs : List T3} {vs : List V}, W3s K H xs vs → Dvs K H (xs.map d3) vs
  | [], _, h => by rw [show _ = [] from h]; exact dvs_nil
  | x :: xs, _, ⟨v, r, e, h1, h2⟩ => by subst e; exact dvs_cons h1.dv h2.dvs
def walkC (K : PySem.W.Frag) : TS :=
 (tAsg (tOp (rAddB K) (tComp [some 6, some 3, some 5, none] (iRng1 (tCons (tCB (rLenA K) (tCons (tOp (rIxA K) (tVar 5) (tC (.int 1))) tNil)) tNil)) (gName 3) tTT (tTup (tCons (tOp (rAddB K) (tVar 1) (tTup (tCons (tVar 3) tNil))) (tCons (tVar 0) (tCons (tOp (rIxA K) (tOp (rIxA K) (tVar 2) (tC (.int 1))) (tVar 3)) tNil))))) (tVar 2)) (gName 2))
section
variable {D : Ends} {v pv : V} {p1 p2 pa na ab : Addr}
theorem walk_C {x : T3} {n : Str} {ps : List Tr} {ws : List V} {stk : List T3} (hx : x.2.2 = .nd n ps) (hp2 : H p2 = some (.lst ws)) (hpa : H pa = some (.tup (intV x.1))) (hab : H ab = some (.tup (strV (abv x)))) (hpv : Dv K H x.2.2.da pv) (hstk : W3s K H stk ws) (hz : x.1.length + ps.length + ws.length ≤ 90000)
    (q : ∀ (r : Addr) (us : List V) (H' : Hp), Same H H' → H r = none → H' r = some (.lst us) → W3s K H' (kid3 x.1 (abv x) 0 ps ++ stk) us → D.nx [some v, some (.ref p1), some (.ref r), some (.ref pa), some (.ref na), some pv, some (.ref ab)] H') :
    walkC K D [some v, some (.ref p1), some (.ref p2), some (.ref pa), some (.ref na), some pv, some (.ref ab)] H := by
  rw [hx] at hpv
  obtain ⟨ta, tb, us, rfl, hta, htb, hd⟩ := tr_parts hpv
  have hul := das_len hd
  unfold walkC
  walk_at "step"
  refine v_ixT hta (v := .ref tb) (atI_nat (j := 1) rfl) ?_
  walk_at "step"
  refine v_lenQ (.inr htb) ?_
  rw [hul]
  let Pv0 : Nat → List V → Hp → Prop := fun i ys H' => Same H H' ∧ W3s K H' (kid3 x.1 (abv x) 0 (ps.take i)) ys
  refine rng1_comp (n := (ps.length : Int)) (by omega) (by omega) Pv0 ⟨fun _ _ e => e, rfl⟩ ?_ ?_ ?_
  · rintro i ys H' hi ⟨s1, h⟩
    rw [h.length, kid3_len, List.length_take]; exact sl64 (by omega)
  · rintro i ys H' hi ⟨s1, h⟩
    have hi : i < ps.length := by omega
    obtain ⟨u, hu, du⟩ := das_get hd (List.getElem?_eq_getElem hi)
    walk_at "step"
    refine ⟨sl64 (by simp), fun c hc => ?_⟩
    have sc := Same.new hc (.tup [.int (i : Int)])
    refine v_catH (sc _ _ (s1 _ _ hpa)) upd_same (by rw [intV_len]; exact sl64 (by simp; omega)) fun pp H2 s2 hpp => ?_
    have s12 : Same H' H2 := Same.tr sc s2
    have s02 := Same.tr s1 s12
    walk_at "step"
    refine v_ixT (s02.sqT hta) (v := .ref tb) (atI_nat (j := 1) rfl) ?_
    walk_at "step"
    refine v_ixT (s02.sqT htb) (v := u) (atI_nat hu) ?_
    walk_at "step"
    refine ⟨sl64 (by simp), fun t ht => ?_⟩
    have s3 := Same.new ht (.tup [.ref pp, .ref ab, u])
    refine ⟨Same.tr s02 s3, ?_⟩
    have e : kid3 x.1 (abv x) 0 (ps.take (i + 1)) = kid3 x.1 (abv x) 0 (ps.take i) ++ [(x.1 ++ [((i : Nat) : Int)], abv x, ps[i])] := by
      rw [List.take_add_one, List.getElem?_eq_getElem hi]
      have : ∀ (k : Nat) (l : List Tr) (y : Tr), kid3 x.1 (abv x) k (l ++ [y]) = kid3 x.1 (abv x) k l ++ [(x.1 ++ [((k + l.length : Nat) : Int)], abv x, y)] := by
        intro k l y
        induction l generalizing k with
        | nil => simp [kid3]
        | cons z l ih => rw [List.cons_append, kid3, ih, kid3, List.cons_append, List.length_cons, show k + 1 + l.length = k + (l.length + 1) by omega]
      show kid3 _ _ _ (ps.take i ++ [ps[i]]) = _
      rw [this, List.length_take, show 0 + min i ps.length = i by omega]
    rw [e]
    refine W3s.app (h.tupK (Same.tr s12 s3).tupK) (W3s.one ⟨t, pp, ab, u, rfl, upd_same, ?_, s3 _ _ (s02 _ _ hab), Dv.same (Same.tr s02 s3) _ _ du⟩)
    have := s3 _ _ hpp
    rw [this]
    show some (HO.tup (intV x.1 ++ [V.int (i : Int)])) = _
    rw [intV_app]
  · rintro ys H' ⟨s1, h⟩ r hr
    rw [show ((ps.length : Int)).toNat = ps.length by omega, List.take_length] at h
    have sr := Same.new hr (.lst ys)
    walk_at "step"
    have h1 := h.length
    rw [kid3_len] at h1
    refine .inl (v_cat upd_same (Same.tr s1 sr _ _ hp2) (by rw [h1]; exact sl64 (by omega)) fun r2 hr2 => ?_)
    have sr2 := Same.new hr2 (.lst (ys ++ ws))
    have st := Same.tr s1 (Same.tr sr sr2)
    walk_at "step"
    exact q r2 _ _ st (none_of (Same.tr s1 sr) hr2) upd_same (W3s.app (h.tupK (Same.tr sr sr2).tupK) (hstk.tupK st.tupK))
end
@[reducible] def T__law_walk_1 (K : PySem.W.Frag) : TS :=
 (tSeq (tIfS (tTest (tOp (rNeA K) (tVar 3) (tTup tNil)))
 (tAsg (tOp (rAddB K) (tVar 4) (tTup (tCons (tOp (rIxA K) (tVar 5) (tC (.int 0))) tNil))) (gName 6)) tNext)
 (walkC K))
@[reducible] def T__law_walk_2 (K : PySem.W.Frag) : TS :=
 (tIfS (tNot (tB (tCB (rIsi K) (tCons (tVar 5) (tCons (tC (.ty "str")) tNil)))))
 (tSeq (tAsg (tVar 4) (gName 6))
 (T__law_walk_1 K)) tNext)
@[reducible] def T__law_walk_3 (K : PySem.W.Frag) : TS :=
 (tSeq (tDrop (tBM K "list" rAppend (tVar 1) (tCons (tTup (tCons (tVar 3) (tCons (tVar 4) (tCons (tVar 5) tNil)))) tNil)))
 (T__law_walk_2 K))
@[reducible] def T__law_walk_4 (K : PySem.W.Frag) : TS :=
 (tSeq (tAsg (tBM K "list" rPopAt (tVar 2) (tCons (tC (.int 0)) tNil)) (gTup K 3 (gCons (gName 3) (gCons (gName 4) (gCons (gName 5) gNil)))))
 (T__law_walk_3 K))
@[reducible] def T__law_walk_5 (K : PySem.W.Frag) : TS :=
 (tSeq (tAsg (tLst (tCons (tTup (tCons (tTup tNil) (tCons (tTup tNil) (tCons (tVar 0) tNil)))) tNil)) (gName 2))
 (tSeq (tWhile (tTest (tOp (rNeA K) (tVar 2) (tLst tNil)))
 (T__law_walk_4 K))
 (tRet (tVar 1))))
def sp__law_walk (K : PySem.W.Frag) : Sp := fun vs H Q _ => ∃ (t : Tr) (v : V), vs = [v] ∧ Dv K H t.da v ∧ wt t ≤ 40000 ∧ ∀ (p : Addr) (us : List V) (H' : Hp), Same H H' → H p = none → H' p = some (.lst us) → W3s K H' (wk ([], [], t)) us → Q (.ref p) H'
theorem len__law_walk (K : PySem.W.Frag) : ∀ vs H Q E, sp__law_walk K vs H Q E → vs.length = ["_law_tree_here"].length := by rintro vs H Q E ⟨t, v, rfl, _⟩; rfl
def R__law_walk (K : PySem.W.Frag) : TS :=
 (tSeq (tAsg (tLst tNil) (gName 1))
 (T__law_walk_5 K))
theorem rd__law_walk (h : sp__law_walk K vs H Q E) : R__law_walk K { nx := fun _ H' => Q .non H', rt := Q } (start ["_law_tree_here", "_law_found", "_law_todo", "_law_place", "_law_names", "_law_part", "_law_above"] vs) H := by
  obtain ⟨t, v, rfl, hd, hz, q⟩ := h
  show R__law_walk K _ [some v, none, none, none, none, none, none] H
  unfold R__law_walk
  have hpl : (wk ([], [], t)).length ≤ wt t := wkT_wt _ _ _ t
  walk_at "step"
  refine ⟨sl64 (by simp), fun p1 hp1 => ?_⟩
  have s1 := Same.new hp1 (.lst [])
  have e1 : (upd H p1 (.lst [])) p1 = some (.lst []) := upd_same
  generalize upd H p1 (.lst []) = H1 at *
  walk_at "step"
  refine ⟨sl64 (by simp), fun c0 hc0 => ?_⟩
  have s2 := Same.new hc0 (.tup [])
  have e2 : (upd H1 c0 (.tup [])) c0 = some (.tup []) := upd_same
  generalize upd H1 c0 (.tup []) = H2 at *
  walk_at "step"
  refine ⟨sl64 (by simp), fun c1 hc1 => ?_⟩
  have s3 := Same.new hc1 (.tup [])
  have e3 : (upd H2 c1 (.tup [])) c1 = some (.tup []) := upd_same
  generalize upd H2 c1 (.tup []) = H3 at *
  walk_at "step"
  refine ⟨sl64 (by simp), fun c2 hc2 => ?_⟩
  have s4 := Same.new hc2 (.tup [.ref c0, .ref c1, v])
  have e4 : (upd H3 c2 (.tup [.ref c0, .ref c1, v])) c2 = some (.tup [.ref c0, .ref c1, v]) := upd_same
  generalize upd H3 c2 (.tup [.ref c0, .ref c1, v]) = H4 at *
  walk_at "step"
  refine ⟨sl64 (by simp), fun p2 hp2 => ?_⟩
  have s5 := Same.new hp2 (.lst [.ref c2])
  have e5 : (upd H4 p2 (.lst [.ref c2])) p2 = some (.lst [.ref c2]) := upd_same
  have s14 : Same H1 H4 := Same.tr s2 (Same.tr s3 s4)
  have n12 : p1 ≠ p2 := ne_free (s14 _ _ e1) hp2
  have n2 : H p2 = none := none_of (Same.tr s1 s14) hp2
  generalize upd H4 p2 (.lst [.ref c2]) = H5 at *
  have s15 := Same.tr s14 s5
  have sA := Same.tr s1 s15
  walk_at "step"
  let Pv1 : St → Hp → Prop := fun σ H' => ∃ (p2 : Addr) (a3 a4 a5 a6 : Option V) (us ws : List V) (done stk : List T3), σ = [some v, some (.ref p1), some (.ref p2), a3, a4, a5, a6] ∧ Same H H' ∧ H p2 = none ∧ p1 ≠ p2 ∧ H' p1 = some (.lst us) ∧ H' p2 = some (.lst ws) ∧ W3s K H' done us ∧ W3s K H' stk ws ∧ done ++ flat3 stk = wk ([], [], t)
  refine while_raw Pv1
    (fun σ H' => match H' p1 with | some (.lst us) => (wk ([], [], t)).length - us.length | _ => 0) ⟨p2, _, _, _, _, [], [.ref c2], [], [([], [], t)], rfl, sA, n2, n12, s15 _ _ e1, e5, rfl, W3s.one ⟨c2, c0, c1, v, rfl, s5 _ _ e4, s5 _ _ (s4 _ _ (s3 _ _ e2)), s5 _ _ (s4 _ _ e3), Dv.same sA _ _ hd⟩, by simp [flat3]⟩ ?_
  clear e1 e2 e3 e4 e5 s1 s2 s3 s4 s5 s14 s15 sA n12 n2 hc0 hc1 hc2 hp2
  rintro σ H' ⟨p2, a3, a4, a5, a6, us, ws, done, stk, rfl, s1, n2, n12, h1, h2, d1, d2, e⟩
  have hel : done.length + (flat3 stk).length = (wk ([], [], t)).length := by rw [← e, List.length_append]
  have hdl := d1.length
  have hwl := d2.length
  walk_at "step"
  refine ⟨sl64 (by simp), fun e0 he0 => ?_⟩
  have s2 := Same.new he0 (.lst [])
  have h10 := h1
  have h1 := s2 _ _ h1
  have h2 := s2 _ _ h2
  have d1 := d1.tupK s2.tupK
  have d2 := d2.tupK s2.tupK
  have s1 := Same.tr s1 s2
  have he : (upd H' e0 (.lst [])) e0 = some (.lst []) := upd_same
  have hm0 : (match H' p1 with | some (.lst us) => (wk ([], [], t)).length - us.length | _ => 0) = (wk ([], [], t)).length - us.length := by rw [h10]
  generalize upd H' e0 (.lst []) = H6 at *
  refine v_neE (ds := stk.map d3) (dv_list.mpr ⟨p2, _, rfl, SqL.of h2, d2.dvs⟩) he ?_
  walk_at "step"
  cases stk with
  | nil =>
    refine iteF ?_
    walk_at "step"
    have : done = wk ([], [], t) := by simpa [flat3] using e
    rw [this] at d1
    exact q p1 us H6 s1 hp1 h1 d1
  | cons x rest =>
    refine iteT ?_
    obtain ⟨y, ws', rfl, d3', d4⟩ := d2
    rw [flat3_cons] at e hel
    rw [List.length_cons, flat3_app, List.length_append] at hel
    have hm : x ∈ wk ([], [], t) := by rw [← e]; simp
    have hxl := wkT_len [] [] (abv ([], [], t)) (by simp) t x hm
    have hab0 : (abv ([], [], t)).length = 0 := rfl
    have hfl : ∀ l : List T3, l.length ≤ (flat3 l).length := fun l => by
      induction l with
      | nil => exact Nat.zero_le _
      | cons p r ih => rw [flat3_cons, flat3_app, List.length_cons, List.length_cons, List.length_append]; omega
    have hkw := hfl (kid3 x.1 (abv x) 0 x.2.2.kids)
    rw [kid3_len] at hkw
    have hrw := hfl rest
    have hwl' := d4.length
    let Nv2 : St → Hp → Prop := fun σ' H'' => ∃ (p2 : Addr) (a3 a4 a5 a6 : Option V) (us' ws : List V) (done stk : List T3), σ' = [some v, some (.ref p1), some (.ref p2), a3, a4, a5, a6] ∧ Same H H'' ∧ H p2 = none ∧ p1 ≠ p2 ∧ H'' p1 = some (.lst us') ∧ H'' p2 = some (.lst ws) ∧ W3s K H'' done us' ∧ W3s K H'' stk ws ∧ done ++ flat3 stk = wk ([], [], t) ∧ us'.length = us.length + 1
    refine ⟨Nv2, ?_, ?_⟩
    · rintro σ' H'' ⟨p2, a3, a4, a5, a6, us', ws, done, stk, rfl, z1, z2, z3, z4, z5, z6, z7, z8, z9⟩
      refine ⟨_, ?_, rfl, p2, a3, a4, a5, a6, us', ws, done, stk, rfl, z1, z2, z3, z4, z5, z6, z7, z8⟩
      dsimp only
      rw [hm0, z4]
      dsimp only
      omega
    · obtain ⟨xa, pa, na, pv, rfl, k1, k2, k3, k4⟩ := d3'
      walk_at "step"
      refine ⟨.inl ⟨rfl, _, SqL.of h2⟩, ?_⟩
      walk_at "step"
      refine v_pop0 h2 ?_
      have tk := tupK_lst (ys := ws') h2
      have s7 : Same H (upd H6 p2 (.lst ws')) := Same.put s1 n2 _
      have g1 : (upd H6 p2 (.lst ws')) p1 = some (.lst us) := by rw [upd_ne n12]; exact h1
      have g2 : (upd H6 p2 (.lst ws')) p2 = some (.lst ws') := upd_same
      have d1 := d1.tupK tk
      have d4 := d4.tupK tk
      have k1 := tk.1 _ _ k1
      have k2 := tk.1 _ _ k2
      have k3 := tk.1 _ _ k3
      have k4 := Dv.tupK tk _ _ (da_fix _) k4
      generalize upd H6 p2 (.lst ws') = H7 at *
      refine ⟨xa, _, rfl, SqT.of k1, rfl, _, _, rfl, st_name ⟨_, _, rfl, st_name ⟨_, _, rfl, st_name ⟨rfl, ?_⟩⟩⟩⟩
      walk_at "step"
      refine ⟨.inl ⟨rfl, _, SqL.of g1⟩, ?_⟩
      walk_at "step"
      refine ⟨sl64 (by simp), fun f0 hf0 => ?_⟩
      have s8 := Same.new hf0 (.tup [.ref pa, .ref na, pv])
      have g1 := s8 _ _ g1
      have g2 := s8 _ _ g2
      have d1 := d1.tupK s8.tupK
      have d4 := d4.tupK s8.tupK
      have k2 := s8 _ _ k2
      have k3 := s8 _ _ k3
      have k4 := Dv.same s8 _ _ k4
      have kf : (upd H7 f0 (.tup [.ref pa, .ref na, pv])) f0 = some (.tup [.ref pa, .ref na, pv]) := upd_same
      have s7 := Same.tr s7 s8
      generalize upd H7 f0 (.tup [.ref pa, .ref na, pv]) = H8 at *
      walk_at "step"
      refine v_append g1 (by rw [hdl, sizeLine_eq]; omega) ?_
      have tk := tupK_lst (ys := us ++ [.ref f0]) g1
      have s9 : Same H (upd H8 p1 (.lst (us ++ [.ref f0]))) := Same.put s7 hp1 _
      have g3 : (upd H8 p1 (.lst (us ++ [.ref f0]))) p1 = some (.lst (us ++ [.ref f0])) := upd_same
      have g2 : (upd H8 p1 (.lst (us ++ [.ref f0]))) p2 = some (.lst ws') := by rw [upd_ne (Ne.symm n12)]; exact g2
      have d1 := d1.tupK tk
      have d4 := d4.tupK tk
      have k2 := tk.1 _ _ k2
      have k3 := tk.1 _ _ k3
      have k4 := Dv.tupK tk _ _ (da_fix _) k4
      have kf := tk.1 _ _ kf
      generalize upd H8 p1 (.lst (us ++ [.ref f0])) = H9 at *
      have d1 : W3s K H9 (done ++ [x]) (us ++ [.ref f0]) := W3s.app d1 (W3s.one ⟨f0, pa, na, pv, rfl, kf, k2, k3, k4⟩)
      walk_at "step"
      refine isi_tr k4 ?_
      walk_at "step"
      obtain ⟨pl, ns, u⟩ := x
      cases u with
      | tx z =>
        refine iteF ?_
        walk_at "step"
        exact ⟨p2, _, _, _, _, _, ws', done ++ [(pl, ns, .tx z)], rest, rfl, s9, n2, n12, g3, g2, d1, d4, by rw [← e]; simp [Tr.kids, kid3], by simp⟩
      | nd n ps =>
        refine iteT ?_
        walk_at "step"
        have hkw : ps.length ≤ (flat3 (kid3 pl (abv (pl, ns, .nd n ps)) 0 ps)).length := hkw
        have hel : done.length + ((flat3 (kid3 pl (abv (pl, ns, .nd n ps)) 0 ps)).length + (flat3 rest).length + 1) = (wk ([], [], t)).length := hel
        have hpl1 : pl.length + 1 ≤ wt t := by have := hxl.1; simpa using this
        have hns1 : ns.length + 1 ≤ wt t := by have := hxl.2; rw [hab0] at this; simpa using this
        have fin : ∀ (D : Ends) (ab : Addr) (H10 : Hp), Same H9 H10 → H10 ab = some (.tup (strV (abv (pl, ns, .nd n ps)))) → (∀ (p2 : Addr) (us' ws : List V) (done stk : List T3) (H'' : Hp), Same H H'' → H p2 = none → p1 ≠ p2 → H'' p1 = some (.lst us') → H'' p2 = some (.lst ws) → W3s K H'' done us' → W3s K H'' stk ws → done ++ flat3 stk = wk ([], [], t) → us'.length = us.length + 1 → D.nx [some v, some (.ref p1), some (.ref p2), some (.ref pa), some (.ref na), some pv, some (.ref ab)] H'') → walkC K D [some v, some (.ref p1), some (.ref p2), some (.ref pa), some (.ref na), some pv, some (.ref ab)] H10 := by
          intro D ab H10 s10 hab qq
          refine walk_C (x := (pl, ns, .nd n ps)) rfl (s10 _ _ g2) (s10 _ _ k2) hab (Dv.same s10 _ _ k4) (d4.tupK s10.tupK) (by show pl.length + ps.length + ws'.length ≤ 90000; omega) fun r us2 H11 s11 hr hus w3 => ?_
          have s911 := Same.tr s10 s11
          exact qq r _ us2 (done ++ [(pl, ns, .nd n ps)]) _ H11 (Same.tr s9 s911) (none_of (Same.tr s9 s10) hr) (ne_free (s10 _ _ g3) hr) (s911 _ _ g3) hus (d1.tupK s911.tupK) w3 (by rw [← e]; simp [Tr.kids]) (by simp)
        refine ⟨sl64 (by simp), fun e9 he9 => ?_⟩
        have s10 := Same.new he9 (.tup [])
        refine v_neM (d := .tuple (intD pl)) (e := .tuple []) (dv_tuple.mpr ⟨pa, _, rfl, SqT.of (s10 _ _ k2), dvs_intD.mpr rfl⟩) (dv_tuple.mpr ⟨e9, [], rfl, SqT.of upd_same, dvs_nil⟩) (Nat.le_trans (Nat.min_le_right _ _) (by decide)) ?_
        rw [eqv_unit]
        generalize upd H9 e9 (.tup []) = H10 at *
        walk_at "step"
        by_cases hpl0 : pl = []
        · have e0 : (!pl.isEmpty) = false := by rw [hpl0]; rfl
          rw [e0]
          refine iteF ?_
          walk_at "step"
          exact fin _ na H10 s10 (by rw [s10 _ _ k3]; unfold abv; rw [if_pos hpl0]) fun p2 us' ws done stk H'' h1 h2 h3 h4 h5 h6 h7 h8 h9 => ⟨p2, _, _, _, _, us', ws, done, stk, rfl, h1, h2, h3, h4, h5, h6, h7, h8, h9⟩
        · have e0 : (!pl.isEmpty) = true := by cases pl with | nil => exact absurd rfl hpl0 | cons _ _ => rfl
          rw [e0]
          refine iteT ?_
          obtain ⟨ta, tb, us3, rfl, hta, htb, hd3⟩ := tr_parts k4
          walk_at "step"
          refine v_ixT (s10.sqT hta) (v := .str n) (atI_nat (j := 0) rfl) ?_
          walk_at "step"
          refine ⟨sl64 (by simp), fun c9 hc9 => ?_⟩
          have s11 := Same.new hc9 (.tup [.str n])
          refine v_catH (s11 _ _ (s10 _ _ k3)) upd_same (by rw [strV_len]; exact sl64 (by show ns.length + 1 ≤ _; omega)) fun ab H12 s12 hab => ?_
          walk_at "step"
          refine fin _ ab H12 (Same.tr s10 (Same.tr s11 s12)) (by rw [hab]; unfold abv; rw [if_neg hpl0, ← strV_app]; rfl) fun p2 us' ws done stk H'' h1 h2 h3 h4 h5 h6 h7 h8 h9 => ⟨p2, _, _, _, _, us', ws, done, stk, rfl, h1, h2, h3, h4, h5, h6, h7, h8, h9⟩
end My
namespace My
open PySem L2
variable {K : PySem.W.Frag} {vs : List V} {H : Hp} {Q : VK} {E : XK}
structure Ers (K : PySem.W.Frag) (k_Ended : Addr) (k_NoBook : Addr) (k_NoFit : Addr) (k_NoPlace : Addr) (k_NoSpot : Addr) (k_NoText : Addr) (k_NotEnded : Addr) (k_TagError : Addr) : Prop where
  ga_NoPlace : PySem.W.findIn K (.ref k_NoPlace) "__getattribute__" = some (some (.builtin "BaseException.__getattribute__"))
  gn_NoPlace : PySem.W.findIn K (.ref k_NoPlace) "__getattr__" = some none
  cl_NoPlace : PySem.W.findIn K (.ref k_NoPlace) "__class__" = some (some (.builtin "object.__class__"))
  bx_NoPlace : PySem.W.subIn K (.ref k_NoPlace) (.type "BaseException") = some true
  ob_NoPlace : PySem.W.subIn K (.ref k_NoPlace) (.type "object") = some true
  ve_NoPlace : PySem.W.subIn K (.ref k_NoPlace) (.type "ValueError") = some true
  s_NoPlace_Ended : PySem.W.subIn K (.ref k_NoPlace) (.ref k_Ended) = some false
  s_NoPlace_NoBook : PySem.W.subIn K (.ref k_NoPlace) (.ref k_NoBook) = some false
  s_NoPlace_NoFit : PySem.W.subIn K (.ref k_NoPlace) (.ref k_NoFit) = some false
  s_NoPlace_NoPlace : PySem.W.subIn K (.ref k_NoPlace) (.ref k_NoPlace) = some true
  s_NoPlace_NoSpot : PySem.W.subIn K (.ref k_NoPlace) (.ref k_NoSpot) = some false
  s_NoPlace_NoText : PySem.W.subIn K (.ref k_NoPlace) (.ref k_NoText) = some false
  s_NoPlace_NotEnded : PySem.W.subIn K (.ref k_NoPlace) (.ref k_NotEnded) = some false
  ic_Ended : PySem.W.isClsIn K k_Ended = true
  it_Ended : PySem.W.typeIn K (.ref k_Ended) = some (.type "type")
  ic_NoBook : PySem.W.isClsIn K k_NoBook = true
  it_NoBook : PySem.W.typeIn K (.ref k_NoBook) = some (.type "type")
  ic_NoFit : PySem.W.isClsIn K k_NoFit = true
  it_NoFit : PySem.W.typeIn K (.ref k_NoFit) = some (.type "type")
  ic_NoPlace : PySem.W.isClsIn K k_NoPlace = true
  it_NoPlace : PySem.W.typeIn K (.ref k_NoPlace) = some (.type "type")
  ic_NoSpot : PySem.W.isClsIn K k_NoSpot = true
  it_NoSpot : PySem.W.typeIn K (.ref k_NoSpot) = some (.type "type")
  ic_NoText : PySem.W.isClsIn K k_NoText = true
  it_NoText : PySem.W.typeIn K (.ref k_NoText) = some (.type "type")
  ic_NotEnded : PySem.W.isClsIn K k_NotEnded = true
  it_NotEnded : PySem.W.typeIn K (.ref k_NotEnded) = some (.type "type")
theorem Ers.l_Ended {K : PySem.W.Frag} {k_Ended : Addr} {k_NoBook : Addr} {k_NoFit : Addr} {k_NoPlace : Addr} {k_NoSpot : Addr} {k_NoText : Addr} {k_NotEnded : Addr} {k_TagError : Addr} (e : Ers K k_Ended k_NoBook k_NoFit k_NoPlace k_NoSpot k_NoText k_NotEnded k_TagError) : ClsK K k_Ended := ⟨e.ic_Ended, e.it_Ended⟩
theorem Ers.l_NoBook {K : PySem.W.Frag} {k_Ended : Addr} {k_NoBook : Addr} {k_NoFit : Addr} {k_NoPlace : Addr} {k_NoSpot : Addr} {k_NoText : Addr} {k_NotEnded : Addr} {k_TagError : Addr} (e : Ers K k_Ended k_NoBook k_NoFit k_NoPlace k_NoSpot k_NoText k_NotEnded k_TagError) : ClsK K k_NoBook := ⟨e.ic_NoBook, e.it_NoBook⟩
theorem Ers.l_NoFit {K : PySem.W.Frag} {k_Ended : Addr} {k_NoBook : Addr} {k_NoFit : Addr} {k_NoPlace : Addr} {k_NoSpot : Addr} {k_NoText : Addr} {k_NotEnded : Addr} {k_TagError : Addr} (e : Ers K k_Ended k_NoBook k_NoFit k_NoPlace k_NoSpot k_NoText k_NotEnded k_TagError) : ClsK K k_NoFit := ⟨e.ic_NoFit, e.it_NoFit⟩
theorem Ers.l_NoPlace {K : PySem.W.Frag} {k_Ended : Addr} {k_NoBook : Addr} {k_NoFit : Addr} {k_NoPlace : Addr} {k_NoSpot : Addr} {k_NoText : Addr} {k_NotEnded : Addr} {k_TagError : Addr} (e : Ers K k_Ended k_NoBook k_NoFit k_NoPlace k_NoSpot k_NoText k_NotEnded k_TagError) : ClsK K k_NoPlace := ⟨e.ic_NoPlace, e.it_NoPlace⟩
theorem Ers.l_NoSpot {K : PySem.W.Frag} {k_Ended : Addr} {k_NoBook : Addr} {k_NoFit : Addr} {k_NoPlace : Addr} {k_NoSpot : Addr} {k_NoText : Addr} {k_NotEnded : Addr} {k_TagError : Addr} (e : Ers K k_Ended k_NoBook k_NoFit k_NoPlace k_NoSpot k_NoText k_NotEnded k_TagError) : ClsK K k_NoSpot := ⟨e.ic_NoSpot, e.it_NoSpot⟩
theorem Ers.l_NoText {K : PySem.W.Frag} {k_Ended : Addr} {k_NoBook : Addr} {k_NoFit : Addr} {k_NoPlace : Addr} {k_NoSpot : Addr} {k_NoText : Addr} {k_NotEnded : Addr} {k_TagError : Addr} (e : Ers K k_Ended k_NoBook k_NoFit k_NoPlace k_NoSpot k_NoText k_NotEnded k_TagError) : ClsK K k_NoText := ⟨e.ic_NoText, e.it_NoText⟩
theorem Ers.l_NotEnded {K : PySem.W.Frag} {k_Ended : Addr} {k_NoBook : Addr} {k_NoFit : Addr} {k_NoPlace : Addr} {k_NoSpot : Addr} {k_NoText : Addr} {k_NotEnded : Addr} {k_TagError : Addr} (e : Ers K k_Ended k_NoBook k_NoFit k_NoPlace k_NoSpot k_NoText k_NotEnded k_TagError) : ClsK K k_NotEnded := ⟨e.ic_NotEnded, e.it_NotEnded⟩
theorem Ers.e_NoPlace {K : PySem.W.Frag} {k_Ended : Addr} {k_NoBook : Addr} {k_NoFit : Addr} {k_NoPlace : Addr} {k_NoSpot : Addr} {k_NoText : Addr} {k_NotEnded : Addr} {k_TagError : Addr} (e : Ers K k_Ended k_NoBook k_NoFit k_NoPlace k_NoSpot k_NoText k_NotEnded k_TagError) : ErrK K k_NoPlace := ⟨⟨e.ga_NoPlace, e.gn_NoPlace, e.cl_NoPlace, e.bx_NoPlace, e.ob_NoPlace⟩, e.l_NoPlace, e.s_NoPlace_NoPlace⟩
theorem way_snoc : ∀ {pl : List Int} {t u c : Tr} {ws : List Tr} {k : Nat}, way t pl = some (ws ++ [u]) → u.kids[k]? = some c → way t (pl ++ [(k : Int)]) = some ((ws ++ [u]) ++ [c])
  | [], t, u, c, ws, k, h, e => by
    rw [way] at h
    have h : [t] = ws ++ [u] := Option.some.inj h
    have hw : ws = [] := by cases ws with
      | nil => rfl
      | cons x r => simp at h
    subst hw
    cases h
    exact way_mk e (by rw [way]; rfl)
  | j :: pl, t, u, c, ws, k, h, e => by
    obtain ⟨h0, v, ws', h1, h2, h3⟩ := way_cons h
    have hl := way_len h2
    cases ws with
    | nil =>
      rw [List.nil_append] at h3
      cases h3
      simp at hl
    | cons x r =>
      rw [List.cons_append] at h3
      cases h3
      have := way_snoc h2 e
      have q := way_mk (k := j.toNat) h1 this
      rw [Int.toNat_of_nonneg h0] at q
      exact q
def Okw (r : Tr) (h : Nat) (x : T3) : Prop := ∃ ws, way r x.1 = some (ws ++ [x.2.2]) ∧ x.2.1 = (ws.drop 1).map nmOf ∧ (∀ w ∈ ws, w.isTx = false) ∧ x.1.length ≤ h
theorem drop1_app {α : Type} (l : List α) (u c : α) : ((l ++ [u]) ++ [c]).drop 1 = (l ++ [u]).drop 1 ++ [c] := by cases l <;> simp
mutual
theorem wkT_ok (r : Tr) : ∀ (t : Tr) (pl : List Int) (ns ab : List Str) (ws : List Tr), way r pl = some (ws ++ [t]) → ns = (ws.drop 1).map nmOf → (∀ w ∈ ws, w.isTx = false) → ab = ((ws ++ [t]).drop 1).map nmOf → ∀ x ∈ wkT pl ns ab t, Okw r (pl.length + hgt t) x
  | .tx s, pl, ns, ab, ws, hw, hn, ht, ha, x, hx => by
    rw [wkT, List.mem_singleton] at hx
    subst hx
    exact ⟨ws, hw, hn, ht, Nat.le_add_right _ _⟩
  | .nd n ps, pl, ns, ab, ws, hw, hn, ht, ha, x, hx => by
    rw [wkT] at hx
    rcases List.mem_cons.mp hx with rfl | hx
    · exact ⟨ws, hw, hn, ht, Nat.le_add_right _ _⟩
    · obtain ⟨w1, e1, e2, e3, e4⟩ := wkS_ok r ps pl ab 0 ws (.nd n ps) hw rfl ht (fun j => by rw [Nat.zero_add]; rfl) ha x hx
      exact ⟨w1, e1, e2, e3, by rw [hgt]; omega⟩
theorem wkS_ok (r : Tr) : ∀ (ts : List Tr) (pl : List Int) (ab : List Str) (k : Nat) (ws : List Tr) (p : Tr), way r pl = some (ws ++ [p]) → p.isTx = false → (∀ w ∈ ws, w.isTx = false) → (∀ j, ts[j]? = p.kids[k + j]?) → ab = ((ws ++ [p]).drop 1).map nmOf → ∀ x ∈ wkS pl ab k ts, Okw r (pl.length + 1 + hgts ts) x
  | [], pl, ab, k, ws, p, hw, hp, ht, hk, ha, x, hx => by rw [wkS] at hx; cases hx
  | t :: ts, pl, ab, k, ws, p, hw, hp, ht, hk, ha, x, hx => by
    rw [wkS] at hx
    rcases List.mem_append.mp hx with hx | hx
    · have e : p.kids[k]? = some t := by have := hk 0; rw [Nat.add_zero] at this; rw [← this]; rfl
      have hw2 := way_snoc hw e
      have ht2 : ∀ w ∈ ws ++ [p], w.isTx = false := fun w hm => by
        rcases List.mem_append.mp hm with hm | hm
        · exact ht w hm
        · rw [List.mem_singleton.mp hm]; exact hp
      obtain ⟨w1, e1, e2, e3, e4⟩ := wkT_ok r t _ ab (ab ++ [nmOf t]) (ws ++ [p]) hw2 ha ht2 (by rw [drop1_app, List.map_append, ← ha]; rfl) x hx
      refine ⟨w1, e1, e2, e3, ?_⟩
      rw [List.length_append, List.length_singleton] at e4
      rw [hgts]; omega
    · obtain ⟨w1, e1, e2, e3, e4⟩ := wkS_ok r ts pl ab (k + 1) ws p hw hp ht (fun j => by have := hk (j + 1); rw [show k + 1 + j = k + (j + 1) by omega, ← this]; rfl) ha x hx
      exact ⟨w1, e1, e2, e3, by rw [hgts]; omega⟩
end
theorem wk_ok (t : Tr) : ∀ x ∈ wk ([], [], t), Okw t (hgt t) x := fun x hx => by
  have := wkT_ok t t [] [] [] [] (by rw [way]; rfl) rfl (by simp) rfl x hx
  rwa [List.length_nil, Nat.zero_add] at this
@[reducible] def Tx_way_to_0 (K : PySem.W.Frag) (k_NoPlace : Addr) (E : XK) : TS :=
 (tSeq (tIfS (tNot (tTest (tChain rLeA rLtA (tC (.int 0)) (tVar 3) (tCB (rLenA K) (tCons (tVar 4) tNil)))))
 (tRaise k_NoPlace E (tCons (tC (.str ("the place leads nowhere" : Str))) tNil)) tNext)
 (tDrop (tBM K "list" rAppend (tVar 2) (tCons (tOp (rIxA K) (tVar 4) (tVar 3)) tNil))))
@[reducible] def Tx_way_to_1 (K : PySem.W.Frag) (k_NoPlace : Addr) (E : XK) : TS :=
 (tSeq (tAsg (tCall (sp_parts_of K) [] E0 (tCons (tOp (rIxA K) (tVar 2) (tUn (rU fun i => .int (-i)) (tC (.int 1)))) tNil)) (gName 4))
 (Tx_way_to_0 K k_NoPlace E))
def spx_way_to (K : PySem.W.Frag) (kX : Addr) : Sp := fun vs H Q E => ∃ (t : Tr) (v : V) (a : Addr) (q r : List Int) (k : Int) (ws : List Tr) (u : Tr), vs = [v, .ref a] ∧ Dv K H t.da v ∧ SqT K H a (intV (q ++ k :: r)) ∧ way t q = some (ws ++ [u]) ∧ (k < 0 ∨ u.kids.length ≤ k.toNat) ∧ q.length ≤ 50000 ∧ ∀ H', Same H H' → E (.ref kX) none H'
theorem lenx_way_to (K : PySem.W.Frag) (kX : Addr) : ∀ vs H Q E, spx_way_to K kX vs H Q E → vs.length = ["tree", "place"].length := by rintro vs H Q E ⟨t, v, a, q, r, k, ws, u, rfl, _⟩; rfl
def Rx_way_to (K : PySem.W.Frag) (k_NoPlace : Addr) (E : XK) : TS :=
 (tSeq (tAsg (tLst (tCons (tVar 0) tNil)) (gName 2))
 (tSeq (tFor (iAny K (tVar 1)) (gName 3)
 (Tx_way_to_1 K k_NoPlace E))
 (tRet (tVar 2))))
theorem rdx_way_to {kX : Addr} (h : spx_way_to K kX vs H Q E) : Rx_way_to K kX E { nx := fun _ H' => Q .non H', rt := Q } (start ["tree", "place", "way", "number", "parts"] vs) H := by
  obtain ⟨t, v, a, q, r, k, ws, u, rfl, hd, ha, hw, hk, hl, qq⟩ := h
  show Rx_way_to K kX E _ [some v, some (.ref a), none, none, none] H
  unfold Rx_way_to
  have hwl := way_len hw
  walk_at "step"
  refine ⟨sl64 (by simp), fun p hp => ?_⟩
  walk_at "step"
  let Pv0 : Nat → St → Hp → Prop := fun i σ H' => i ≤ q.length ∧ ∃ (us : List V) (a3 a4 : Option V), σ = [some v, some (.ref a), some (.ref p), a3, a4] ∧ Same H H' ∧ H' p = some (.lst us) ∧ Dvs K H' (Tr.das ((ws ++ [u]).take (i + 1))) us
  refine any_forS (H0 := H) (xs := intV (q ++ k :: r)) (.inr ha) (Same.new hp _) Pv0 ⟨Nat.zero_le _, [v], _, _, rfl, Same.new hp _, upd_same, ?_⟩ (fun i σ H' ⟨_, _, _, _, _, s, _⟩ => s) ?_ ?_
  · rw [List.take_add_one, List.take_zero, way_zero hw]
    show Dvs K _ (Tr.das [t]) [v]
    rw [Tr.das, Tr.das]
    exact Dvs.one (Dv.same (Same.new hp _) _ _ hd)
  · rintro i x σ H' hx ⟨hi, us, a3, a4, rfl, s1, hp', dv⟩
    unfold intV at hx
    rw [List.getElem?_map] at hx
    obtain ⟨k', hk', rfl⟩ := Option.map_eq_some_iff.mp hx
    have hul : us.length = i + 1 := by rw [das_len dv, List.length_take]; omega
    by_cases e : i < q.length
    · have hq : q[i]? = some k' := by rw [← hk', List.getElem?_append_left e]
      obtain ⟨u', w, h1, h2, h3, h4⟩ := way_step hw hq
      obtain ⟨y, hy, dy⟩ := das_get dv (i := i) (t := u') (by rw [List.getElem?_take_of_lt (by omega)]; exact h1)
      walk_at "step"
      refine ⟨1, rfl, ?_⟩
      refine v_ixL (SqL.of hp') (atI_last hul hy) ?_
      walk_at "step"
      refine ⟨u', y, rfl, dy, fun c ys H2 s2 hc dc => ?_⟩
      walk_at "step"
      rw [decide_eq_true h2]
      refine iteT ?_
      walk_at "step"
      refine v_lenQ (.inr hc) ?_
      have hkl := (List.getElem?_eq_some_iff.mp h3).1
      have hyl := das_len dc
      walk_at "step"
      rw [decide_eq_true (by omega)]
      refine iteF ?_
      walk_at "step"
      have hp2 := s2 _ _ hp'
      refine ⟨.inl ⟨rfl, _, SqL.of hp2⟩, ?_⟩
      walk_at "step"
      obtain ⟨z, hz, dz⟩ := das_get dc h3
      refine v_ixT hc (ixI h2 hz) ?_
      walk_at "step"
      refine v_append hp2 (by rw [sizeLine_eq]; omega) ?_
      have tk : TupK H2 (upd H2 p (.lst (us ++ [z]))) := tupK_lst hp2
      refine ⟨e, us ++ [z], _, _, rfl, Same.put (Same.tr s1 s2) hp _, upd_same, ?_⟩
      rw [List.take_add_one, h4, das_map, List.map_append, ← das_map]
      exact Dvs.append (Dvs.tupK tk _ _ (das_fix _) (Dvs.same s2 _ _ dv)) (Dvs.one (Dv.tupK tk _ _ (da_fix w) dz))
    · obtain rfl : i = q.length := by omega
      rw [List.getElem?_append_right (Nat.le_refl _), Nat.sub_self] at hk'
      cases hk'
      have hws : ws.length = q.length := by simpa using hwl
      obtain ⟨y, hy, dy⟩ := das_get dv (i := q.length) (t := u) (by rw [List.getElem?_take_of_lt (by omega), ← hws]; simp)
      walk_at "step"
      refine ⟨1, rfl, ?_⟩
      refine v_ixL (SqL.of hp') (atI_last hul hy) ?_
      walk_at "step"
      refine ⟨u, y, rfl, dy, fun c ys H2 s2 hc dc => ?_⟩
      have hyl := das_len dc
      walk_at "step"
      by_cases h0 : 0 ≤ k
      · rw [decide_eq_true h0]
        refine iteT ?_
        walk_at "step"
        refine v_lenQ (.inr hc) ?_
        walk_at "step"
        rw [decide_eq_false (by omega)]
        refine iteT ?_
        exact ⟨sl64 (by simp), qq H2 (Same.tr s1 s2)⟩
      · rw [decide_eq_false h0]
        refine iteF ?_
        walk_at "step"
        exact ⟨sl64 (by simp), qq H2 (Same.tr s1 s2)⟩
  · rintro σ H' ⟨hi, _⟩
    rw [intV_len, List.length_append, List.length_cons] at hi
    omega
def spx_part_at (K : PySem.W.Frag) (kX : Addr) : Sp := fun vs H Q E => ∃ (t : Tr) (v : V) (a : Addr) (q r : List Int) (k : Int) (ws : List Tr) (u : Tr), vs = [v, .ref a] ∧ Dv K H t.da v ∧ SqT K H a (intV (q ++ k :: r)) ∧ way t q = some (ws ++ [u]) ∧ (k < 0 ∨ u.kids.length ≤ k.toNat) ∧ q.length ≤ 50000 ∧ ∀ H', Same H H' → E (.ref kX) none H'
theorem lenx_part_at (K : PySem.W.Frag) (kX : Addr) : ∀ vs H Q E, spx_part_at K kX vs H Q E → vs.length = ["tree", "place"].length := by rintro vs H Q E ⟨t, v, a, q, r, k, ws, u, rfl, _⟩; rfl
def Rx_part_at (K : PySem.W.Frag) (k_NoPlace : Addr) (E : XK) : TS :=
 (tRet (tOp (rIxA K) (tCall (spx_way_to K k_NoPlace) [] E (tCons (tVar 0) (tCons (tVar 1) tNil))) (tUn (rU fun i => .int (-i)) (tC (.int 1)))))
theorem rdx_part_at {kX : Addr} (h : spx_part_at K kX vs H Q E) : Rx_part_at K kX E { nx := fun _ H' => Q .non H', rt := Q } (start ["tree", "place"] vs) H := by
  obtain ⟨t, v, a, q, r, k, ws, u, rfl, hd, ha, hw, hk, hl, qq⟩ := h
  show Rx_part_at K kX E _ [some v, some (.ref a)] H
  unfold Rx_part_at
  walk_at "step"
  exact ⟨t, v, a, q, r, k, ws, u, rfl, hd, ha, hw, hk, hl, qq⟩
@[reducible] def T__law_refused_0 (K : PySem.W.Frag) (k_NoText : Addr) (k_NoBook : Addr) (k_NoSpot : Addr) (k_Ended : Addr) (k_NotEnded : Addr) (k_NoFit : Addr) : TS :=
 (tRet (tNotV (tCB (rIsiE K) (tCons (tVar 2) (tCons (tTup (tCons (tC (.ref k_NoText)) (tCons (tC (.ref k_NoBook)) (tCons (tC (.ref k_NoSpot)) (tCons (tC (.ref k_Ended)) (tCons (tC (.ref k_NotEnded)) (tCons (tC (.ref k_NoFit)) tNil))))))) tNil)))))
@[reducible] def T__law_refused_1 (K : PySem.W.Frag) (k_NoPlace : Addr) (k_NoText : Addr) (k_NoBook : Addr) (k_NoSpot : Addr) (k_Ended : Addr) (k_NotEnded : Addr) (k_NoFit : Addr) : TS :=
 (tSeq (tIfS (tOr (tNot (tB (tCB (rIsiE K) (tCons (tVar 2) (tCons (tC (.ref k_NoPlace)) tNil))))) (tNot (tB (tCB (rIsiE K) (tCons (tVar 2) (tCons (tC (.ty "ValueError")) tNil))))))
 (tRet (tC (.bl false))) tNext)
 (T__law_refused_0 K k_NoText k_NoBook k_NoSpot k_Ended k_NotEnded k_NoFit))
@[reducible] def T__law_refused_2 (K : PySem.W.Frag) (k_NoPlace : Addr) (k_NoText : Addr) (k_NoBook : Addr) (k_NoSpot : Addr) (k_Ended : Addr) (k_NotEnded : Addr) (k_NoFit : Addr) : TS :=
 (tSeq (tTryA k_NoPlace 3 (fun E => tCall (spx_part_at K k_NoPlace) [] E (tCons (tVar 0) (tCons (tVar 1) tNil))) (tAsg (tVar 3) (gName 2)))
 (T__law_refused_1 K k_NoPlace k_NoText k_NoBook k_NoSpot k_Ended k_NotEnded k_NoFit))
def sp__law_refused (K : PySem.W.Frag) : Sp := fun vs H Q _ => ∃ (t : Tr) (v : V) (a : Addr) (q r : List Int) (k : Int) (ws : List Tr) (u : Tr), vs = [v, .ref a] ∧ Dv K H t.da v ∧ SqT K H a (intV (q ++ k :: r)) ∧ way t q = some (ws ++ [u]) ∧ (k < 0 ∨ u.kids.length ≤ k.toNat) ∧ q.length ≤ 50000 ∧ ∀ H', Same H H' → Q (.bl true) H'
theorem len__law_refused (K : PySem.W.Frag) : ∀ vs H Q E, sp__law_refused K vs H Q E → vs.length = ["_law_tree_here", "_law_place"].length := by rintro vs H Q E ⟨t, v, a, q, r, k, ws, u, rfl, _⟩; rfl
def R__law_refused (K : PySem.W.Frag) (k_NoPlace : Addr) (k_NoFit : Addr) (k_NotEnded : Addr) (k_Ended : Addr) (k_NoSpot : Addr) (k_NoBook : Addr) (k_NoText : Addr) : TS :=
 (tSeq (tAsg (tC .non) (gName 2))
 (T__law_refused_2 K k_NoPlace k_NoText k_NoBook k_NoSpot k_Ended k_NotEnded k_NoFit))
theorem rd__law_refused {k_Ended : Addr} {k_NoBook : Addr} {k_NoFit : Addr} {k_NoPlace : Addr} {k_NoSpot : Addr} {k_NoText : Addr} {k_NotEnded : Addr} {k_TagError : Addr} (er : Ers K k_Ended k_NoBook k_NoFit k_NoPlace k_NoSpot k_NoText k_NotEnded k_TagError) (h : sp__law_refused K vs H Q E) : R__law_refused K k_NoPlace k_NoFit k_NotEnded k_Ended k_NoSpot k_NoBook k_NoText { nx := fun _ H' => Q .non H', rt := Q } (start ["_law_tree_here", "_law_place", "_law_error", "e"] vs) H := by
  obtain ⟨t, v, a, q, r, k, ws, u, rfl, hd, ha, hw, hk, hl, qq⟩ := h
  show R__law_refused K _ _ _ _ _ _ _ _ [some v, some (.ref a), none, none] H
  unfold R__law_refused
  walk_at "step"
  unfold tTryA
  walk_at "step"
  refine ⟨t, v, a, q, r, k, ws, u, rfl, hd, ha, hw, hk, hl, fun H' s => ⟨rfl, fun x hx => ?_⟩⟩
  walk_at "step"
  have ex : (upd H' x (ErrO x k_NoPlace)) x = some (ErrO x k_NoPlace) := upd_same
  have s2 : Same H (upd H' x (ErrO x k_NoPlace)) := Same.tr s (Same.new hx _)
  generalize upd H' x (ErrO x k_NoPlace) = H2 at *
  refine v_isiE ex er.e_NoPlace er.l_NoPlace er.s_NoPlace_NoPlace ?_
  walk_at "step"
  refine iteF ?_
  walk_at "step"
  refine v_isiET ex er.e_NoPlace (by rfl) er.ve_NoPlace ?_
  walk_at "step"
  refine iteF ?_
  walk_at "step"
  refine ⟨sl64 (by simp), fun p hp => ?_⟩
  have ex3 : (upd H2 p (.tup [.ref k_NoText, .ref k_NoBook, .ref k_NoSpot, .ref k_Ended, .ref k_NotEnded, .ref k_NoFit])) x = some (ErrO x k_NoPlace) := Same.new hp _ _ _ ex
  have s3 := Same.tr s2 (Same.new hp (.tup [.ref k_NoText, .ref k_NoBook, .ref k_NoSpot, .ref k_Ended, .ref k_NotEnded, .ref k_NoFit]))
  have hp3 : SqT K (upd H2 p (.tup [.ref k_NoText, .ref k_NoBook, .ref k_NoSpot, .ref k_Ended, .ref k_NotEnded, .ref k_NoFit])) p ([k_NoText, k_NoBook, k_NoSpot, k_Ended, k_NotEnded, k_NoFit].map V.ref) := SqT.of upd_same
  generalize upd H2 p (.tup [.ref k_NoText, .ref k_NoBook, .ref k_NoSpot, .ref k_Ended, .ref k_NotEnded, .ref k_NoFit]) = H3 at *
  refine v_isiEN ex3 er.e_NoPlace hp3 ?_ ?_
  · intro D hD
    simp only [List.mem_cons, List.not_mem_nil, or_false] at hD
    rcases hD with rfl | rfl | rfl | rfl | rfl | rfl
    · exact ⟨er.l_NoText, er.s_NoPlace_NoText⟩
    · exact ⟨er.l_NoBook, er.s_NoPlace_NoBook⟩
    · exact ⟨er.l_NoSpot, er.s_NoPlace_NoSpot⟩
    · exact ⟨er.l_Ended, er.s_NoPlace_Ended⟩
    · exact ⟨er.l_NotEnded, er.s_NoPlace_NotEnded⟩
    · exact ⟨er.l_NoFit, er.s_NoPlace_NoFit⟩
  · walk_at "step"
    exact qq H3 s3
theorem inV_tt : ∀ n : Nat, inV (.bl false) (List.replicate n (V.bl true)) = false
  | 0 => rfl
  | n + 1 => by
    have ih := inV_tt n
    unfold inV at ih ⊢
    rw [List.replicate_succ, List.any_cons, ih]; rfl
theorem flat_tt (n : Nat) : (List.replicate n (V.bl true)).all flatV = true := List.all_eq_true.mpr fun x hx => by rw [List.eq_of_mem_replicate hx]; rfl
def sp__law_whole (K : PySem.W.Frag) : Sp := fun vs H Q _ => ∃ i : Int, vs = [.int i] ∧ Q (.bl true) H
theorem len__law_whole (K : PySem.W.Frag) : ∀ vs H Q E, sp__law_whole K vs H Q E → vs.length = ["_law_found"].length := by rintro vs H Q E ⟨i, rfl, _⟩; rfl
def R__law_whole (K : PySem.W.Frag) : TS :=
 (tRet (tAndV (tCB (rIsi K) (tCons (tVar 0) (tCons (tC (.ty "int")) tNil))) (tNotV (tCB (rIsi K) (tCons (tVar 0) (tCons (tC (.ty "bool")) tNil))))))
theorem rd__law_whole (h : sp__law_whole K vs H Q E) : R__law_whole K { nx := fun _ H' => Q .non H', rt := Q } (start ["_law_found"] vs) H := by
  obtain ⟨i, rfl, q⟩ := h
  show R__law_whole K _ [some (.int i)] H
  unfold R__law_whole
  walk_at "step"
  refine v_isi (.int _) (b := true) rfl ?_
  walk_at "step"
  refine v_isi (.int _) (b := false) rfl ?_
  walk_at "step"
  exact q
theorem hgts_mem : ∀ {ts : List Tr} {t : Tr}, t ∈ ts → hgt t ≤ hgts ts
  | u :: ts, t, h => by
    rw [hgts]
    rcases List.mem_cons.mp h with rfl | h
    · exact Nat.le_max_left _ _
    · exact Nat.le_trans (hgts_mem h) (Nat.le_max_right _ _)
theorem wts_mem : ∀ {ts : List Tr} {t : Tr}, t ∈ ts → wt t ≤ wts ts
  | u :: ts, t, h => by
    rw [wts]
    rcases List.mem_cons.mp h with rfl | h
    · exact Nat.le_add_right _ _
    · exact Nat.le_trans (wts_mem h) (Nat.le_add_left _ _)
@[reducible] def T__law_is_part_0 (K : PySem.W.Frag) (spr : Sp) : TS :=
 (tRet (tAndV (tCB (rIsi K) (tCons (tOp (rIxA K) (tVar 0) (tC (.int 1))) (tCons (tC (.ty "tuple")) tNil))) (tOp (rInB K true) (tC (.bl false)) (tComp [none] (iAny K (tOp (rIxA K) (tVar 0) (tC (.int 1)))) (gName 0) tTT (tCall spr [] E0 (tCons (tVar 0) tNil))))))
@[reducible] def T__law_is_part_1 (K : PySem.W.Frag) (spr : Sp) : TS :=
 (tSeq (tIfS (tOr (tNot (tB (tCB (rIsi K) (tCons (tVar 0) (tCons (tC (.ty "tuple")) tNil))))) (tOr (tTest (tOp (rNeA K) (tCB (rLenA K) (tCons (tVar 0) tNil)) (tC (.int 2)))) (tNot (tB (tCB (rIsi K) (tCons (tOp (rIxA K) (tVar 0) (tC (.int 0))) (tCons (tC (.ty "str")) tNil)))))))
 (tRet (tC (.bl false))) tNext)
 (T__law_is_part_0 K spr))
def spn__law_is_part (n : Nat) (K : PySem.W.Frag) : Sp := fun vs H Q _ => ∃ (t : Tr) (v : V), vs = [v] ∧ Dv K H t.da v ∧ hgt t ≤ n ∧ wt t ≤ 40000 ∧ ∀ H', Same H H' → Q (.bl true) H'
def sp__law_is_part (K : PySem.W.Frag) : Sp := spn__law_is_part 45 K
def prev__law_is_part (K : PySem.W.Frag) : Nat → Sp
  | 0 => fun _ _ _ _ => False
  | n + 1 => spn__law_is_part n K
theorem len__law_is_part (K : PySem.W.Frag) (n : Nat) : ∀ vs H Q E, spn__law_is_part n K vs H Q E → vs.length = ["_law_found"].length := by rintro vs H Q E ⟨t, v, rfl, _⟩; rfl
def R__law_is_part (K : PySem.W.Frag) (spr : Sp) : TS :=
 (tSeq (tIfS (tB (tCB (rIsi K) (tCons (tVar 0) (tCons (tC (.ty "str")) tNil))))
 (tRet (tC (.bl true))) tNext)
 (T__law_is_part_1 K spr))
theorem rd__law_is_part (n : Nat) (h : spn__law_is_part n K vs H Q E) : R__law_is_part K (prev__law_is_part K n) { nx := fun _ H' => Q .non H', rt := Q } (start ["_law_found"] vs) H := by
  obtain ⟨t, v, rfl, hd, hh, hw, q⟩ := h
  show R__law_is_part K _ _ [some v] H
  unfold R__law_is_part
  cases t with
  | tx s =>
    rw [tr_tx hd]
    walk_at "step"
    refine v_isi (.str _) (b := true) rfl ?_
    walk_at "step"
    exact q H (fun _ _ e => e)
  | nd nm ps =>
    obtain ⟨a, bq, us, rfl, ha, hb, hus⟩ := tr_parts hd
    have hul := das_len hus
    obtain ⟨m, rfl⟩ : ∃ m, n = m + 1 := ⟨n - 1, by rw [hgt] at hh; omega⟩
    rw [hgt] at hh
    rw [wt] at hw
    walk_at "step"
    refine v_isiT ha (b := false) rfl ?_
    walk_at "step"
    refine v_isiT ha (b := true) rfl ?_
    walk_at "step"
    refine iteF ?_
    walk_at "step"
    refine v_lenQ (.inr ha) ?_
    walk_at "step"
    rw [show decide ((([V.str nm, V.ref bq].length : Nat) : Int) = 2) = true from rfl]
    refine iteF ?_
    walk_at "step"
    refine v_ixT ha (v := .str nm) (atI_nat (j := 0) rfl) ?_
    walk_at "step"
    refine v_isi (.str _) (b := true) rfl ?_
    walk_at "step"
    refine iteF ?_
    walk_at "step"
    refine v_ixT ha (v := .ref bq) (atI_nat (j := 1) rfl) ?_
    walk_at "step"
    refine v_isiT hb (b := true) rfl ?_
    walk_at "step"
    refine v_ixT ha (v := .ref bq) (atI_nat (j := 1) rfl) ?_
    have hwl : ps.length ≤ wts ps := by
      have : ∀ l : List Tr, l.length ≤ wts l := fun l => by
        induction l with
        | nil => exact Nat.zero_le _
        | cons t l ih => rw [wts, List.length_cons]; have := wt_pos t; omega
      exact this ps
    let Pv1 : Nat → List V → Hp → Prop := fun i ys H' => Same H H' ∧ ys = List.replicate i (V.bl true)
    refine any_compS (H0 := H) (xs := us) (.inr hb) (fun _ _ e => e) Pv1 ⟨fun _ _ e => e, rfl⟩ ?_ (fun i ys H' p => p.1) ?_ ?_
    · rintro i ys H' hi ⟨_, rfl⟩
      rw [List.length_replicate]; exact sl64 (by omega)
    · rintro i x ys H' hx ⟨s1, rfl⟩
      obtain ⟨d, h1, h2⟩ := hus.get' hx
      rw [das_map, List.getElem?_map] at h1
      obtain ⟨t, ht, rfl⟩ := Option.map_eq_some_iff.mp h1
      have hm := List.mem_of_getElem? ht
      walk_at "step"
      refine ⟨t, x, rfl, Dv.same s1 _ _ h2, ?_, ?_, fun H2 s2 => ?_⟩
      · have := hgts_mem hm; omega
      · have := wts_mem hm; omega
      · refine ⟨Same.tr s1 s2, ?_⟩
        rw [List.replicate_succ']
    · rintro ys H' ⟨s1, rfl⟩ p hp
      refine .inl (v_notin (.inl (SqL.of upd_same)) rfl (flat_tt _) ?_)
      rw [inV_tt]
      exact q _ (Same.tr s1 (Same.new hp _))
@[reducible] def T__law_nowhere_0 (K : PySem.W.Frag) : TS :=
 (tRet (tLst (tCons (tOp (rAddB K) (tVar 1) (tTup (tCons (tC (.int 0)) tNil))) (tCons (tOp (rAddB K) (tVar 1) (tTup (tCons (tOp (rI0 fun i j => .int (i - j)) (tVar 3) (tC (.int 1))) (tCons (tC (.int 0)) tNil)))) tNil))))
@[reducible] def T__law_nowhere_1 (K : PySem.W.Frag) : TS :=
 (tRet (tLst (tCons (tOp (rAddB K) (tVar 1) (tTup (tCons (tUn (rU fun i => .int (-i)) (tC (.int 1))) tNil))) (tCons (tOp (rAddB K) (tVar 1) (tTup (tCons (tOp (rI0 fun i j => .int (i - j)) (tC (.int 0)) (tVar 3)) tNil))) (tCons (tOp (rAddB K) (tVar 1) (tTup (tCons (tCB (rLenA K) (tCons (tOp (rIxA K) (tVar 2) (tC (.int 1))) tNil)) tNil))) (tCons (tOp (rAddB K) (tVar 1) (tTup (tCons (tOp (rAddB K) (tCB (rLenA K) (tCons (tOp (rIxA K) (tVar 2) (tC (.int 1))) tNil)) (tVar 3)) (tCons (tC (.int 0)) tNil)))) tNil))))))
@[reducible] def T__law_nowhere_2 (K : PySem.W.Frag) : TS :=
 (tSeq (tIfS (tB (tCB (rIsi K) (tCons (tVar 2) (tCons (tC (.ty "str")) tNil))))
 (T__law_nowhere_0 K) tNext)
 (T__law_nowhere_1 K))
def sp__law_nowhere (K : PySem.W.Frag) : Sp := fun vs H Q _ => ∃ (d pa : Addr) (pl : List Int) (u : Tr) (pv : V), vs = [.ref d, .ref pa, pv] ∧ Dk H d ∧ SqT K H pa (intV pl) ∧ Dv K H u.da pv ∧ pl.length ≤ 1000 ∧ ∀ (l : Addr) (xs : List V) (H' : Hp), Mv d H H' → H' l = some (.lst xs) → (∀ x ∈ xs, ∃ (a : Addr) (k : Int) (r : List Int), x = .ref a ∧ SqT K H' a (intV (pl ++ k :: r)) ∧ (k < 0 ∨ u.kids.length ≤ k.toNat)) → Q (.ref l) H'
theorem len__law_nowhere (K : PySem.W.Frag) : ∀ vs H Q E, sp__law_nowhere K vs H Q E → vs.length = ["_law_deck", "_law_place", "_law_part"].length := by rintro vs H Q E ⟨d, pa, pl, u, pv, rfl, _⟩; rfl
def R__law_nowhere (K : PySem.W.Frag) : TS :=
 (tSeq (tAsg (tOp (rAddB K) (tC (.int 1)) (tCall (sp__law_draw K) [] E0 (tCons (tVar 0) (tCons (tOp (rI CPow fun i j => .int (i ^ j.toNat)) (tC (.int 10)) (tC (.int 30))) tNil)))) (gName 3))
 (T__law_nowhere_2 K))
theorem rd__law_nowhere (h : sp__law_nowhere K vs H Q E) : R__law_nowhere K { nx := fun _ H' => Q .non H', rt := Q } (start ["_law_deck", "_law_place", "_law_part", "_law_far"] vs) H := by
  obtain ⟨d, pa, pl, u, pv, rfl, dk, hpa, hu, hl, q⟩ := h
  show R__law_nowhere K _ [some (.ref d), some (.ref pa), some pv, none] H
  unfold R__law_nowhere
  walk_at "step"
  refine ⟨10, 30, rfl, rfl, ⟨by decide, by decide, by decide⟩, ?_⟩
  walk_at "step"
  refine ⟨d, _, rfl, by decide, by decide, dk, fun m H1 m0 m1 mv1 => ?_⟩
  have hpa1 := (mv1.tupK dk).sqT hpa
  have hu1 := Dv.tupK (mv1.tupK dk) _ _ (da_fix u) hu
  walk_at "step"
  refine .inl (v_addI ?_)
  walk_at "step"
  have step : ∀ {H2 : Hp} {p : Addr} {k : Int} {r : List Int} {Q' : VK}, Same H1 H2 → H2 p = some (.tup (intV (k :: r))) → r.length ≤ 1 → (∀ p' H3, Same H2 H3 → SqT K H3 p' (intV (pl ++ k :: r)) → Q' (.ref p') H3) → rAddB K (.ref pa) (.ref p) H2 Q' := by
    intro H2 p k r Q' s2 hp hr hQ
    refine v_catT (s2.sqT hpa1) (SqT.of hp) (by rw [intV_len, intV_len]; exact sl64 (by simp; omega)) fun p' H3 s3 hp3 => ?_
    rw [show intV pl ++ intV (k :: r) = intV (pl ++ k :: r) by simp [intV]] at hp3
    exact hQ p' H3 s3 hp3
  cases u with
  | tx z =>
    have epv := tr_tx hu1
    subst epv
    walk_at "step"
    refine v_isi (.str _) (b := true) rfl ?_
    walk_at "step"
    refine ⟨sl64 (by simp), fun p1 h1 => ?_⟩
    have s1 := Same.new h1 (.tup [.int 0])
    refine step s1 (k := 0) (r := []) upd_same (by simp) fun q1 H3 s3 e1 => ?_
    have s13 := Same.tr s1 s3
    clear s1 s3
    walk_at "step"
    refine ⟨sl64 (by simp), fun p2 h2 => ?_⟩
    have s4 := Same.new h2 (.tup [.int ((1 + m) - 1), .int 0])
    refine step (Same.tr s13 s4) (k := (1 + m) - 1) (r := [0]) upd_same (by simp) fun q2 H5 s5 e2 => ?_
    have s45 := Same.tr s4 s5
    walk_at "step"
    refine ⟨sl64 (by simp), fun l hl2 => ?_⟩
    have s6 := Same.new hl2 (.lst [.ref q1, .ref q2])
    refine q l _ _ (mv1.same (Same.tr s13 (Same.tr s45 s6))) upd_same fun x hx => ?_
    simp only [List.mem_cons, List.not_mem_nil, or_false] at hx
    rcases hx with rfl | rfl
    · exact ⟨q1, 0, [], rfl, (Same.tr s45 s6).sqT e1, .inr (Nat.zero_le _)⟩
    · exact ⟨q2, _, [0], rfl, s6.sqT e2, .inr (Nat.zero_le _)⟩
  | nd nm ps =>
    obtain ⟨a, bq, us, rfl, ha, hb, hus⟩ := tr_parts hu1
    have hul := das_len hus
    walk_at "step"
    refine v_isiT ha (b := false) rfl ?_
    walk_at "step"
    refine ⟨1, rfl, ?_⟩
    walk_at "step"
    refine ⟨sl64 (by simp), fun p1 h1 => ?_⟩
    have s1 := Same.new h1 (.tup [.int (-1)])
    refine step s1 (k := -1) (r := []) upd_same (by simp) fun q1 H3 s3 e1 => ?_
    have s13 := Same.tr s1 s3
    clear s1 s3
    walk_at "step"
    refine ⟨sl64 (by simp), fun p2 h2 => ?_⟩
    have s4 := Same.new h2 (.tup [.int (0 - (1 + m))])
    refine step (Same.tr s13 s4) (k := 0 - (1 + m)) (r := []) upd_same (by simp) fun q2 H5 s5 e2 => ?_
    have s45 := Same.tr s4 s5
    have s15 := Same.tr s13 s45
    clear s4 s5
    walk_at "step"
    refine v_ixT (s15.sqT ha) (v := .ref bq) (atI_nat (j := 1) rfl) ?_
    walk_at "step"
    refine v_lenQ (.inr (s15.sqT hb)) ?_
    walk_at "step"
    refine ⟨sl64 (by simp), fun p3 h3 => ?_⟩
    have s6 := Same.new h3 (.tup [.int (us.length : Int)])
    refine step (Same.tr s15 s6) (k := (us.length : Int)) (r := []) upd_same (by simp) fun q3 H7 s7 e3 => ?_
    have s67 := Same.tr s6 s7
    have s17 := Same.tr s15 s67
    clear s6 s7
    walk_at "step"
    refine v_ixT (s17.sqT ha) (v := .ref bq) (atI_nat (j := 1) rfl) ?_
    walk_at "step"
    refine v_lenQ (.inr (s17.sqT hb)) ?_
    walk_at "step"
    refine .inl (v_addI ?_)
    walk_at "step"
    refine ⟨sl64 (by simp), fun p4 h4 => ?_⟩
    have s8 := Same.new h4 (.tup [.int ((us.length : Int) + (1 + m)), .int 0])
    refine step (Same.tr s17 s8) (k := (us.length : Int) + (1 + m)) (r := [0]) upd_same (by simp) fun q4 H9 s9 e4 => ?_
    have s89 := Same.tr s8 s9
    clear s8 s9
    walk_at "step"
    refine ⟨sl64 (by simp), fun l hl2 => ?_⟩
    have sA := Same.new hl2 (.lst [.ref q1, .ref q2, .ref q3, .ref q4])
    refine q l _ _ (mv1.same (Same.tr s17 (Same.tr s89 sA))) upd_same fun x hx => ?_
    simp only [List.mem_cons, List.not_mem_nil, or_false] at hx
    have hk : (Tr.nd nm ps).kids.length = us.length := by rw [hul]; rfl
    rcases hx with rfl | rfl | rfl | rfl
    · exact ⟨q1, -1, [], rfl, (Same.tr s45 (Same.tr s67 (Same.tr s89 sA))).sqT e1, .inl (by omega)⟩
    · exact ⟨q2, _, [], rfl, (Same.tr s67 (Same.tr s89 sA)).sqT e2, .inl (by omega)⟩
    · exact ⟨q3, _, [], rfl, (Same.tr s89 sA).sqT e3, .inr (by omega)⟩
    · exact ⟨q4, _, [0], rfl, sA.sqT e4, .inr (by omega)⟩
end My
namespace My
open PySem L2
variable {K : PySem.W.Frag} {vs : List V} {H : Hp} {Q : VK} {E : XK}
@[reducible] def T_law_0 (K : PySem.W.Frag) : TS :=
 (tAsg (tTup (tCons (tCall (sp__law_name K) [] E0 (tCons (tVar 2) (tCons (tOp (rI (fun _ j => 0 < j) fun i j => .int (i % j)) (tVar 4) (tC (.int 13))) tNil))) (tCons (tTup (tCons (tVar 3) (tCons (tC (.str ("a" : Str))) tNil))) tNil))) (gName 3))
@[reducible] def T_law_1 (K : PySem.W.Frag) : TS :=
 (tFor (iRng1 (tCons (tCall (sp__law_draw K) [] E0 (tCons (tVar 1) (tCons (tC (.int 36)) tNil))) tNil)) (gName 4)
 (T_law_0 K))
@[reducible] def T_law_2 (K : PySem.W.Frag) : TS :=
 (tIfS (tOr (tNot (tB (tCall (sp__law_is_part K) [] E0 (tCons (tVar 10) tNil)))) (tTest (tOp (rNeA K) (tVar 10) (tVar 9))))
 (tRet (tC (.bl false))) tNext)
@[reducible] def T_law_3 (K : PySem.W.Frag) : TS :=
 (tSeq (tAsg (tCall (sp_part_at K) [] E0 (tCons (tVar 3) (tCons (tVar 7) tNil))) (gName 10))
 (T_law_2 K))
@[reducible] def T_law_4 (K : PySem.W.Frag) : TS :=
 (tIfS (tNot (tB (tCall (sp__law_refused K) [] E0 (tCons (tVar 3) (tCons (tVar 11) tNil)))))
 (tRet (tC (.bl false))) tNext)
@[reducible] def T_law_5 (K : PySem.W.Frag) : TS :=
 (tFor (iAny K (tCall (sp__law_nowhere K) [] E0 (tCons (tVar 1) (tCons (tVar 7) (tCons (tVar 9) tNil))))) (gName 11)
 (T_law_4 K))
@[reducible] def T_law_6 (K : PySem.W.Frag) : TS :=
 (tSeq (tAsg (tOp (rIxA K) (tVar 5) (tCall (sp__law_draw K) [] E0 (tCons (tVar 1) (tCons (tCB (rLenA K) (tCons (tVar 5) tNil)) tNil)))) (gTup K 3 (gCons (gName 7) (gCons (gName 8) (gCons (gName 9) gNil)))))
 (T_law_5 K))
@[reducible] def T_law_7 (K : PySem.W.Frag) : TS :=
 (tIfS (tOr (tNot (tB (tCB (rIsi K) (tCons (tVar 7) (tCons (tC (.ty "tuple")) tNil))))) (tTest (tOp (rInB K false) (tC (.bl false)) (tComp [none] (iAny K (tVar 7)) (gName 0) tTT (tCall (sp__law_whole K) [] E0 (tCons (tVar 0) tNil))))))
 (tRet (tC (.bl false))) tNext)
@[reducible] def T_law_8 (K : PySem.W.Frag) : TS :=
 (tSeq (tDrop (tBM0 K "list" rClear (tVar 6)))
 (tRet (tOp (rEqA K) (tCall (sp_places_in K) [] E0 (tCons (tVar 3) tNil)) (tVar 12))))
def lawZ (K : PySem.W.Frag) : TS :=
 (tSeq (tFor (iAny K (tVar 6)) (gName 7)
 (T_law_7 K))
 (tSeq (tAsg (tCB (rListA K) (tCons (tVar 6) tNil)) (gName 12))
 (T_law_8 K)))
def lawY (K : PySem.W.Frag) : TS :=
 (tSeq (tFor (iRng1 (tCons (tC (.int 4)) tNil)) (gName 4)
 (T_law_6 K))
 (lawZ K))
def lawX (K : PySem.W.Frag) : TS :=
 (tSeq (tFor (iAny K (tVar 5)) (gTup K 3 (gCons (gName 7) (gCons (gName 8) (gCons (gName 9) gNil))))
 (T_law_3 K))
 (lawY K))
@[reducible] def T_law_11 (K : PySem.W.Frag) : TS :=
 (tSeq (tIfS (tOr (tNot (tB (tCB (rIsi K) (tCons (tVar 6) (tCons (tC (.ty "list")) tNil))))) (tTest (tOp (rNeA K) (tVar 6) (tComp [none, none, none] (iAny K (tVar 5)) (gTup K 3 (gCons (gName 0) (gCons (gName 1) (gCons (gName 2) gNil)))) tTT (tVar 0)))))
 (tRet (tC (.bl false))) tNext)
 (lawX K))
@[reducible] def T_law_12 (K : PySem.W.Frag) : TS :=
 (tSeq (tAsg (tCall (sp__law_walk K) [] E0 (tCons (tVar 3) tNil)) (gName 5))
 (tSeq (tAsg (tCall (sp_places_in K) [] E0 (tCons (tVar 3) tNil)) (gName 6))
 (T_law_11 K)))
def lawV (K : PySem.W.Frag) : TS :=
 (tSeq (tAsg (tTup (tCons (tC (.str ("" : Str))) (tCons (tTup (tCons (tVar 3) tNil)) tNil))) (gName 3))
 (T_law_12 K))
theorem nds_intD : ∀ ns : List Int, nds (intD ns) = true
  | [] => by show nds [] = true; rw [nds]
  | x :: xs => by show nds (.int x :: intD xs) = true; rw [nds, nds_intD xs, nd]; rfl
theorem depth_intD : ∀ ns : List Int, PyData.depthAll (intD ns) ≤ 10
  | [] => by show PyData.depthAll [] ≤ 10; simp [PyData.depthAll]
  | x :: xs => by
    have := depth_intD xs
    show PyData.depthAll (.int x :: intD xs) ≤ 10
    simp [PyData.depthAll, PyData.depth] at this ⊢
    omega
def plD (pl : List Int) : PyData := .tuple (intD pl)
theorem nd_plD (pl : List Int) : nd (plD pl) = true := by unfold plD; rw [nd]; exact nds_intD pl
theorem nds_pl : ∀ l : List (List Int), nds (l.map plD) = true
  | [] => by show nds [] = true; rw [nds]
  | x :: l => by show nds (plD x :: l.map plD) = true; rw [nds, nd_plD, nds_pl l]; rfl
theorem depth_pl : ∀ l : List (List Int), PyData.depthAll (l.map plD) ≤ 20
  | [] => by show PyData.depthAll [] ≤ 20; simp [PyData.depthAll]
  | x :: l => by
    have h1 := depth_intD x
    have h2 := depth_pl l
    show PyData.depthAll (PyData.tuple (intD x) :: l.map plD) ≤ 20
    simp [PyData.depthAll, PyData.depth] at h1 h2 ⊢
    omega
theorem eq_pls (l : List (List Int)) : PyData.eqv (.list (l.map plD)) (.list (l.map plD)) = true := eqv_self _ (by rw [nd]; exact nds_pl l)
theorem depth_pls (l : List (List Int)) : (PyData.list (l.map plD)).depth ≤ 64 := by
  have := depth_pl l
  simp [PyData.depth] at this ⊢
  omega
mutual
theorem nd_da : ∀ t : Tr, nd t.da = true
  | .tx s => by rw [Tr.da, nd]
  | .nd n ps => by rw [Tr.da, nd, nds, nd, nds, nd, nds, nds_das ps]; rfl
theorem nds_das : ∀ ts : List Tr, nds (Tr.das ts) = true
  | [] => by rw [Tr.das, nds]
  | t :: ts => by rw [Tr.das, nds, nd_da t, nds_das ts]; rfl
end
mutual
theorem depth_da : ∀ t : Tr, t.da.depth ≤ 2 * hgt t + 4
  | .tx s => by rw [Tr.da]; simp [PyData.depth]
  | .nd n ps => by
    have := depth_das ps
    rw [Tr.da, hgt]
    simp [PyData.depth, PyData.depthAll] at this ⊢
    omega
theorem depth_das : ∀ ts : List Tr, PyData.depthAll (Tr.das ts) ≤ 2 * hgts ts + 4
  | [] => by rw [Tr.das]; simp [PyData.depthAll]
  | t :: ts => by
    have h1 := depth_da t
    have h2 := depth_das ts
    rw [Tr.das, hgts]
    simp [PyData.depthAll] at h2 ⊢
    omega
end
mutual
theorem wkT_pre : ∀ (t : Tr) (pl : List Int) (ns ab : List Str), (wkT pl ns ab t).map (·.1) = (pre pl t).map (·.1)
  | .tx s, pl, ns, ab => by rw [wkT, pre]; rfl
  | .nd n ps, pl, ns, ab => by rw [wkT, pre, List.map_cons, List.map_cons, wkS_pre ps pl ab 0]
theorem wkS_pre : ∀ (ts : List Tr) (pl : List Int) (ab : List Str) (k : Nat), (wkS pl ab k ts).map (·.1) = (pres pl k ts).map (·.1)
  | [], pl, ab, k => by rw [wkS, pres]; rfl
  | t :: ts, pl, ab, k => by rw [wkS, pres, List.map_append, List.map_append, wkT_pre t, wkS_pre ts pl ab (k + 1)]
end
theorem hgt_kids {t u : Tr} {k : Nat} (h : t.kids[k]? = some u) : hgt u ≤ hgt t ∧ wt u ≤ wt t := by
  cases t with
  | tx s => simp [Tr.kids] at h
  | nd n ps =>
    have hm : u ∈ ps := List.mem_of_getElem? h
    have h1 := hgts_mem hm
    have h2 := wts_mem hm
    rw [hgt, wt]; omega
theorem way_hgt : ∀ {pl : List Int} {t u : Tr} {ws : List Tr}, way t pl = some (ws ++ [u]) → hgt u ≤ hgt t ∧ wt u ≤ wt t
  | [], t, u, ws, h => by
    rw [way] at h
    have h : [t] = ws ++ [u] := Option.some.inj h
    have hw : ws = [] := by cases ws with
      | nil => rfl
      | cons x r => simp at h
    subst hw
    cases h
    exact ⟨Nat.le_refl _, Nat.le_refl _⟩
  | j :: pl, t, u, ws, h => by
    obtain ⟨h0, v, ws', h1, h2, h3⟩ := way_cons h
    have hl := way_len h2
    cases ws with
    | nil =>
      rw [List.nil_append] at h3
      cases h3
      simp at hl
    | cons x r =>
      rw [List.cons_append] at h3
      cases h3
      have a := way_hgt h2
      have b := hgt_kids h1
      omega
theorem dv_plD {pl : List Int} {v : V} (h : Dv K H (plD pl) v) : ∃ a, v = .ref a ∧ SqT K H a (intV pl) := by
  obtain ⟨a, xs, rfl, ha, hx⟩ := dv_tuple.mp h
  exact ⟨a, rfl, (dvs_intD.mp hx) ▸ ha⟩
section
variable {D : Ends} {sc d wd tp : Addr} {c : Int} {tv : V} {t : Tr} {us ws : List V} {a4 a7 a8 a9 a10 a11 a12 : Option V}
theorem law_Z (ht : Dv K H t.da tv) (hw : wt t ≤ 40000) (hh : hgt t ≤ 900) (htp : H tp = some (.lst us)) (hus : Dvs K H (((pre [] t).map (·.1)).map plD) us) (q : ∀ H', D.rt (.bl true) H') :
    lawZ K D [some (.ref sc), some (.ref d), some (.int c), some tv, a4, some (.ref wd), some (.ref tp), a7, a8, a9, a10, a11, a12] H := by
  unfold lawZ
  have hul : us.length = (pre [] t).length := by have := hus.length; simpa using this
  have hpw := pre_wt [] t
  walk_at "step"
  let Pv0 : Nat → St → Hp → Prop := fun i σ H' => Same H H' ∧ ∃ a7 : Option V, σ = [some (.ref sc), some (.ref d), some (.int c), some tv, a4, some (.ref wd), some (.ref tp), a7, a8, a9, a10, a11, a12]
  refine any_forS (H0 := H) (xs := us) (.inl (SqL.of htp)) (fun _ _ e => e) Pv0 ⟨fun _ _ e => e, _, rfl⟩ (fun i σ H' p => p.1) ?_ ?_
  · rintro i x σ H' hx ⟨s1, a7, rfl⟩
    obtain ⟨dd, h1, h2⟩ := hus.get' hx
    rw [List.getElem?_map] at h1
    obtain ⟨pl, hpl, rfl⟩ := Option.map_eq_some_iff.mp h1
    obtain ⟨a, rfl, ha⟩ := dv_plD (Dv.same s1 _ _ h2)
    have hll : pl.length ≤ 900 := by
      obtain ⟨p, hp, e⟩ := List.mem_map.mp (List.mem_of_getElem? hpl)
      have := pre_h [] _ p hp
      simp at this
      rw [← e]; omega
    walk_at "step"
    refine v_isiT ha (b := true) rfl ?_
    walk_at "step"
    refine iteF ?_
    walk_at "step"
    refine any_compS (H0 := H') (xs := intV pl) (.inr ha) (fun _ _ e => e) (fun i ys H2 => H2 = H' ∧ ys = List.replicate i (V.bl true)) ⟨rfl, rfl⟩ ?_ (fun i ys H2 p => p.1 ▸ fun _ _ e => e) ?_ ?_
    · rintro i ys H2 hi ⟨rfl, rfl⟩
      rw [intV_len] at hi
      rw [List.length_replicate]; exact sl64 (by omega)
    · rintro i x ys H2 hx ⟨rfl, rfl⟩
      unfold intV at hx
      rw [List.getElem?_map] at hx
      obtain ⟨j, hj, rfl⟩ := Option.map_eq_some_iff.mp hx
      walk_at "step"
      refine ⟨j, rfl, rfl, ?_⟩
      rw [List.replicate_succ']
    · rintro ys H2 ⟨rfl, rfl⟩ p hp
      refine .inl (v_in (.inl (SqL.of upd_same)) rfl (flat_tt _) ?_)
      rw [inV_tt]
      walk_at "step"
      exact ⟨Same.tr s1 (Same.new hp _), _, rfl⟩
  · rintro σ H' ⟨s1, a7, rfl⟩
    have htp1 := s1 _ _ htp
    have hus1 := Dvs.same s1 _ _ hus
    have ht1 := Dv.same s1 _ _ ht
    walk_at "step"
    refine ⟨tp, _, rfl, .inl (SqL.of htp1), fun kp hkp => ?_⟩
    have s2 := Same.new hkp (.lst us)
    have hk2 : (upd H' kp (.lst us)) kp = some (.lst us) := upd_same
    have nk : kp ≠ tp := fun e => by rw [e, htp1] at hkp; cases hkp
    generalize upd H' kp (.lst us) = H2 at *
    have htp2 := s2 _ _ htp1
    walk_at "step"
    refine ⟨.inl ⟨rfl, _, SqL.of htp2⟩, ?_⟩
    refine v_clear htp2 ?_
    have tk : TupK H2 (upd H2 tp (.lst [])) := tupK_lst htp2
    have hk3 : (upd H2 tp (.lst [])) kp = some (.lst us) := by rw [upd_ne nk]; exact hk2
    have hus3 := Dvs.tupK tk _ _ (fixs_map (f := plD) (fun x => by unfold plD; rw [L2.fix]; exact intD_fix x) _) (Dvs.same s2 _ _ hus1)
    have ht3 := Dv.tupK tk _ _ (da_fix t) (Dv.same s2 _ _ ht1)
    generalize upd H2 tp (.lst []) = H3 at *
    walk_at "step"
    refine ⟨t, tv, rfl, ht3, hw, fun p vs H4 s4 hp dvs => ?_⟩
    have e : ((pre [] t).map fun p => PyData.tuple (intD p.1)) = ((pre [] t).map (·.1)).map plD := by rw [List.map_map]; rfl
    rw [e] at dvs
    walk_at "step"
    refine v_eqD (d := .list (((pre [] t).map (·.1)).map plD)) (e := .list (((pre [] t).map (·.1)).map plD)) (dv_list.mpr ⟨p, vs, rfl, SqL.of hp, dvs⟩) (dv_list.mpr ⟨kp, us, rfl, SqL.of (s4 _ _ hk3), Dvs.same s4 _ _ hus3⟩) (depth_pls _) ?_
    rw [eq_pls]
    exact q _
theorem law_Y (dk : Dk H d) (ht : Dv K H t.da tv) (hw : wt t ≤ 40000) (hh : hgt t ≤ 900) (htp : H tp = some (.lst us)) (ntp : tp ≠ d) (hus : Dvs K H (((pre [] t).map (·.1)).map plD) us) (hwd : H wd = some (.lst ws)) (nwd : wd ≠ d) (w3 : W3s K H (wk ([], [], t)) ws) (q : ∀ H', D.rt (.bl true) H') :
    lawY K D [some (.ref sc), some (.ref d), some (.int c), some tv, a4, some (.ref wd), some (.ref tp), a7, a8, a9, a10, a11, a12] H := by
  unfold lawY
  have hwl : (wk ([], [], t)).length ≤ wt t := wkT_wt _ _ _ t
  have hwsl := w3.length
  have hpos : 0 < ws.length := by
    rw [hwsl]
    unfold wk
    cases t <;> simp [wkT]
  walk_at "step"
  let Pv1 : Nat → St → Hp → Prop := fun i σ H' => Mv d H H' ∧ ∃ (a4 a7 a8 a9 a11 : Option V), σ = [some (.ref sc), some (.ref d), some (.int c), some tv, a4, some (.ref wd), some (.ref tp), a7, a8, a9, a10, a11, a12]
  refine rng1_for (by omega) (by omega) Pv1 ⟨Mv.refl dk, _, _, _, _, _, rfl⟩ ?_ ?_
  · rintro i σ H' hi ⟨mv, a4, a7, a8, a9, a11, rfl⟩
    have hwd1 := mv.at hwd nwd
    walk_at "step"
    refine v_lenQ (.inl (SqL.of hwd1)) ?_
    walk_at "step"
    refine ⟨d, (ws.length : Int), rfl, by omega, by omega, mv.dk, fun n H1 n0 n1 mv1 => ?_⟩
    walk_at "step"
    have mv2 := mv.tr mv1
    have tk := mv2.tupK dk
    have hn : n.toNat < ws.length := by omega
    refine v_ixL (SqL.of (mv2.at hwd nwd)) (ixI n0 (List.getElem?_eq_getElem hn)) ?_
    obtain ⟨y, hy, wy⟩ := (w3.tupK tk).get (List.getElem?_eq_getElem hn)
    obtain ⟨xa, pa, na, pv, hv, k1, k2, k3, k4⟩ := wy
    rw [hv]
    obtain ⟨ps, e1, e2, e3, e4⟩ := wk_ok t y (List.mem_of_getElem? hy)
    refine ⟨xa, _, rfl, SqT.of k1, rfl, _, _, rfl, st_name ⟨_, _, rfl, st_name ⟨_, _, rfl, st_name ⟨rfl, ?_⟩⟩⟩⟩
    walk_at "step"
    refine ⟨d, pa, y.1, y.2.2, pv, rfl, mv1.dk, SqT.of k2, k4, by omega, fun l xs H2 mv3 hl hx => ?_⟩
    have mv4 := mv2.tr mv3
    have ht2 := Dv.tupK (mv4.tupK dk) _ _ (da_fix t) ht
    let Pv2 : Nat → St → Hp → Prop := fun m σ H' => Same H2 H' ∧ ∃ (a11 : Option V), σ = [some (.ref sc), some (.ref d), some (.int c), some tv, some (.int (i : Int)), some (.ref wd), some (.ref tp), some (.ref pa), some (.ref na), some pv, a10, a11, a12]
    refine any_forS (H0 := H2) (xs := xs) (.inl (SqL.of hl)) (fun _ _ e => e) Pv2 ⟨fun _ _ e => e, _, rfl⟩ (fun i σ H' p => p.1) ?_ ?_
    · rintro j x σ H3 hx3 ⟨s3, a11, rfl⟩
      obtain ⟨a, k, r, rfl, f1, f2⟩ := hx x (List.mem_of_getElem? hx3)
      walk_at "step"
      refine ⟨t, tv, a, y.1, r, k, ps, y.2.2, rfl, Dv.same s3 _ _ ht2, s3.sqT f1, e1, f2, by omega, fun H4 s4 => ?_⟩
      walk_at "step"
      refine iteF ?_
      walk_at "step"
      exact ⟨Same.tr s3 s4, _, rfl⟩
    · rintro σ H3 ⟨s3, a11, rfl⟩
      exact ⟨mv4.same s3, _, _, _, _, _, rfl⟩
  · rintro σ H' ⟨mv, a4, a7, a8, a9, a11, rfl⟩
    have tk := mv.tupK dk
    exact law_Z (Dv.tupK tk _ _ (da_fix t) ht) hw hh (mv.at htp ntp) (Dvs.tupK tk _ _ (fixs_map (f := plD) (fun x => by unfold plD; rw [L2.fix]; exact intD_fix x) _) hus) q
theorem law_X (dk : Dk H d) (ht : Dv K H t.da tv) (hw : wt t ≤ 40000) (hh : hgt t ≤ 45) (htp : H tp = some (.lst us)) (ntp : tp ≠ d) (hus : Dvs K H (((pre [] t).map (·.1)).map plD) us) (hwd : H wd = some (.lst ws)) (nwd : wd ≠ d) (w3 : W3s K H (wk ([], [], t)) ws) (q : ∀ H', D.rt (.bl true) H') :
    lawX K D [some (.ref sc), some (.ref d), some (.int c), some tv, a4, some (.ref wd), some (.ref tp), a7, a8, a9, a10, a11, a12] H := by
  unfold lawX
  walk_at "step"
  let Pv3 : Nat → St → Hp → Prop := fun i σ H' => Same H H' ∧ ∃ (a7 a8 a9 a10 : Option V), σ = [some (.ref sc), some (.ref d), some (.int c), some tv, a4, some (.ref wd), some (.ref tp), a7, a8, a9, a10, a11, a12]
  refine any_forS (H0 := H) (xs := ws) (.inl (SqL.of hwd)) (fun _ _ e => e) Pv3 ⟨fun _ _ e => e, _, _, _, _, rfl⟩ (fun i σ H' p => p.1) ?_ ?_
  · rintro i x σ H' hx ⟨s2, a7, a8, a9, a10, rfl⟩
    obtain ⟨y, hy, wy⟩ := (w3.tupK s2.tupK).get hx
    obtain ⟨xa, pa, na, pv, rfl, k1, k2, k3, k4⟩ := wy
    obtain ⟨ps, e1, e2, e3, e4⟩ := wk_ok t y (List.mem_of_getElem? hy)
    have hb := way_hgt e1
    refine ⟨xa, _, rfl, SqT.of k1, rfl, _, _, rfl, st_name ⟨_, _, rfl, st_name ⟨_, _, rfl, st_name ⟨rfl, ?_⟩⟩⟩⟩
    walk_at "step"
    refine ⟨t, y.2.2, tv, pa, y.1, ps, rfl, Dv.same s2 _ _ ht, SqT.of k2, e1, by omega, fun x H3 s3 dx => ?_⟩
    walk_at "step"
    refine ⟨y.2.2, x, rfl, dx, by omega, by omega, fun H4 s4 => ?_⟩
    walk_at "step"
    refine iteF ?_
    walk_at "step"
    refine v_neM (Dv.same s4 _ _ dx) (Dv.same (Same.tr s3 s4) _ _ k4) (by have := depth_da y.2.2; omega) ?_
    rw [eqv_self _ (nd_da _)]
    walk_at "step"
    exact ⟨Same.tr s2 (Same.tr s3 s4), _, _, _, _, rfl⟩
  · rintro σ H' ⟨s2, a7, a8, a9, a10, rfl⟩
    exact law_Y (dk.same s2) (Dv.same s2 _ _ ht) hw (by omega) (s2 _ _ htp) ntp (Dvs.same s2 _ _ hus) (s2 _ _ hwd) nwd (w3.tupK s2.tupK) q
theorem law_V (dk : Dk H d) {t0 : Tr} (ht0 : Dv K H t0.da tv) (hw0 : wt t0 ≤ 30000) (hh0 : hgt t0 ≤ 44) (q : ∀ H', D.rt (.bl true) H') :
    lawV K D [some (.ref sc), some (.ref d), some (.int c), some tv, a4, none, none, none, none, none, none, none, none] H := by
  unfold lawV
  walk_at "step"
  refine ⟨sl64 (by simp), fun x hx => ?_⟩
  walk_at "step"
  refine ⟨sl64 (by simp), fun y hy => ?_⟩
  have g1 := Same.new hx (.tup [tv])
  have g2 := Same.new hy (.tup [.str ("" : Str), .ref x])
  have gs := Same.tr g1 g2
  have ht : Dv K (upd (upd H x (.tup [tv])) y (.tup [.str ("" : Str), .ref x])) (Tr.nd ("" : Str) [t0]).da (.ref y) := by
    refine da_nd (SqT.of upd_same) (SqT.of (g2 _ _ upd_same)) ?_
    rw [Tr.das, Tr.das]
    exact Dvs.one (Dv.same gs _ _ ht0)
  have hw : wt (Tr.nd ("" : Str) [t0]) ≤ 40000 := by rw [wt, wts, wts]; omega
  have hh : hgt (Tr.nd ("" : Str) [t0]) ≤ 45 := by rw [hgt, hgts, hgts]; omega
  have dk1 := dk.same gs
  generalize upd (upd H x (.tup [tv])) y (.tup [.str ("" : Str), .ref x]) = H1 at *
  generalize Tr.nd ("" : Str) [t0] = t at *
  have hwl : (wk ([], [], t)).length ≤ wt t := wkT_wt _ _ _ t
  walk_at "step"
  refine ⟨t, .ref y, rfl, ht, hw, fun wd ws H2 s2 fwd hwd w3 => ?_⟩
  have dk2 := dk1.same s2
  have nwd : wd ≠ d := dk1.ne fwd
  have ht2 := Dv.same s2 _ _ ht
  walk_at "step"
  refine ⟨t, .ref y, rfl, ht2, hw, fun tp us H3 s3 htp hus => ?_⟩
  have e : ((pre [] t).map fun p => PyData.tuple (intD p.1)) = ((pre [] t).map (·.1)).map plD := by rw [List.map_map]; rfl
  rw [e] at hus
  have hwd3 := s3 _ _ hwd
  have w33 := w3.tupK s3.tupK
  have ht3 := Dv.same s3 _ _ ht2
  have dk3 := dk2.same s3
  have ntp : tp ≠ d := by
    intro e
    obtain ⟨ns, h1, h2, _⟩ := dk3
    rw [e, h1] at htp
    cases htp
    have hul : (intV ns).length = (pre [] t).length := by have := hus.length; simpa using this
    obtain ⟨dd, f1, f2⟩ := hus.get' (List.getElem?_eq_getElem (i := 0) (by rw [intV_len]; omega))
    rw [List.getElem?_map] at f1
    obtain ⟨pl, hpl, rfl⟩ := Option.map_eq_some_iff.mp f1
    obtain ⟨a, f3, _⟩ := dv_plD f2
    simp [intV] at f3
  walk_at "step"
  refine v_isi (.lst htp) (b := true) rfl ?_
  walk_at "step"
  refine iteF ?_
  walk_at "step"
  let Pv4 : Nat → List V → Hp → Prop := fun i ys H' => H' = H3 ∧ ys.length = i ∧ Dvs K H3 ((((wk ([], [], t)).map (·.1)).take i).map plD) ys
  refine any_compS (H0 := H3) (xs := ws) (.inl (SqL.of hwd3)) (fun _ _ e => e) Pv4 ⟨rfl, rfl, dvs_nil⟩ ?_ (fun i ys H' p => p.1 ▸ fun _ _ e => e) ?_ ?_
  · rintro i ys H' hi ⟨rfl, hl, _⟩
    have := w33.length
    exact sl64 (by omega)
  · rintro i x ys H' hx ⟨rfl, hl, dy⟩
    obtain ⟨z, hz, wz⟩ := w33.get hx
    obtain ⟨xa, pa, na, pv, rfl, k1, k2, k3, k4⟩ := wz
    refine ⟨xa, _, rfl, SqT.of k1, rfl, _, _, rfl, st_name ⟨_, _, rfl, st_name ⟨_, _, rfl, st_name ⟨rfl, ?_⟩⟩⟩⟩
    walk_at "step"
    refine ⟨rfl, by simp [hl], ?_⟩
    rw [List.take_add_one, List.getElem?_map, hz, List.map_append]
    refine Dvs.append dy (Dvs.one ?_)
    exact dv_tuple.mpr ⟨pa, _, rfl, SqT.of k2, dvs_intD.mpr rfl⟩
  · rintro ys H' ⟨rfl, hl, dy⟩ p hp
    rw [w33.length, List.take_of_length_le (by rw [List.length_map]; exact Nat.le_refl _)] at dy
    have ewk : (wk ([], [], t)).map (·.1) = (pre [] t).map (·.1) := wkT_pre t [] [] _
    rw [ewk] at dy
    have s4 := Same.new hp (.lst ys)
    refine v_neD (d := .list (((pre [] t).map (·.1)).map plD)) (e := .list (((pre [] t).map (·.1)).map plD)) (dv_list.mpr ⟨tp, us, rfl, SqL.of (s4 _ _ htp), Dvs.same s4 _ _ hus⟩) (dv_list.mpr ⟨p, ys, rfl, SqL.of upd_same, Dvs.same s4 _ _ dy⟩) (depth_pls _) ?_
    rw [eq_pls]
    walk_at "step"
    exact law_X (dk3.same s4) (Dv.same s4 _ _ ht3) hw hh (s4 _ _ htp) ntp (Dvs.same s4 _ _ hus) (s4 _ _ hwd3) nwd (w33.tupK s4.tupK) q
end
@[reducible] def T_law_14 (K : PySem.W.Frag) : TS :=
 (tSeq (tIfS (tTest (tOp (rEqA K) (tCall (sp__law_draw K) [] E0 (tCons (tVar 1) (tCons (tC (.int 8)) tNil))) (tC (.int 1))))
 (T_law_1 K) tNext)
 (lawV K))
@[reducible] def T_law_15 (K : PySem.W.Frag) : TS :=
 (tSeq (tAsg (tCall (sp__law_tree K) [] E0 (tCons (tVar 1) (tCons (tCall (sp__law_book K) [] E0 (tCons (tVar 1) (tCons (tVar 2) (tCons (tC (.int 8)) tNil)))) (tCons (tVar 2) (tCons (tC (.int 4)) tNil))))) (gName 3))
 (T_law_14 K))
@[reducible] def T_law_16 (K : PySem.W.Frag) : TS :=
 (tSeq (tAsg (tCall (sp__law_draw K) [] E0 (tCons (tVar 1) (tCons (tOp (rI CPow fun i j => .int (i ^ j.toNat)) (tC (.int 10)) (tC (.int 6))) tNil))) (gName 2))
 (T_law_15 K))
def sp_law (K : PySem.W.Frag) : Sp := fun vs H Q _ => ∃ (a : Addr) (ns : List Int), vs = [.ref a] ∧ SqL K H a (ns.map V.int) ∧ ns.length ≤ 63 ∧ ∀ H', Q (.bl true) H'
theorem len_law (K : PySem.W.Frag) : ∀ vs H Q E, sp_law K vs H Q E → vs.length = ["_law_script"].length := by rintro vs H Q E ⟨a, b, rfl, _⟩; rfl
def R_law (K : PySem.W.Frag) : TS :=
 (tSeq (tAsg (tCall (sp__law_numbers K) [] E0 (tCons (tVar 0) (tCons (tC (.int 700)) tNil))) (gName 1))
 (T_law_16 K))
theorem rd_law (h : sp_law K vs H Q E) : R_law K { nx := fun _ H' => Q .non H', rt := Q } (start ["_law_script", "_law_deck", "_law_code", "_law_tree_here", "_law_k", "_law_walked", "_law_told", "_law_place", "_law_names", "_law_part", "_law_found", "_law_other", "_law_kept"] vs) H := by
  obtain ⟨sc, ns, rfl, hS, hn, q⟩ := h
  show R_law K _ [some (.ref sc), none, none, none, none, none, none, none, none, none, none, none, none] H
  unfold R_law
  walk_at "step"
  refine ⟨sc, ns, 700, rfl, hS, by decide, fun d H1 s1 _ dk1 => ?_⟩
  walk_at "step"
  refine ⟨10, 6, rfl, rfl, ⟨by decide, by decide, by decide⟩, ?_⟩
  walk_at "step"
  refine ⟨d, _, rfl, by decide, by decide, dk1, fun c H2 c0 c1 mv2 => ?_⟩
  walk_at "step"
  refine ⟨d, c, 8, rfl, by decide, by decide, mv2.dk, fun bk us rs H3 mv3 hbk dvs r1 r2 ro => ?_⟩
  walk_at "step"
  refine ⟨d, bk, c, 4, us, rs, rfl, mv3.dk, SqT.of hbk, dvs, r1, r2, ro, by decide, fun t v H4 mv4 hd hw hh => ?_⟩
  walk_at "step"
  have hw : wt t ≤ 10240 := hw
  refine ⟨d, 8, rfl, by decide, by decide, mv4.dk, fun x H5 x0 x1 mv5 => ?_⟩
  walk_at "step"
  have hd5 := Dv.tupK (mv5.tupK mv4.dk) _ _ (da_fix t) hd
  by_cases e : x = 1
  · rw [decide_eq_true e]; refine iteT ?_
    walk_at "step"
    refine ⟨d, 36, rfl, by decide, by decide, mv5.dk, fun y H6 y0 y1 mv6 => ?_⟩
    walk_at "step"
    have hd6 := Dv.tupK (mv6.tupK mv5.dk) _ _ (da_fix t) hd5
    let Pv5 : Nat → St → Hp → Prop := fun i σ H' => ∃ (t : Tr) (v : V) (a4 : Option V), σ = [some (.ref sc), some (.ref d), some (.int c), some v, a4, none, none, none, none, none, none, none, none] ∧ Dk H' d ∧ Dv K H' t.da v ∧ wt t ≤ 10240 + 20 * i ∧ hgt t ≤ 6 + i
    refine rng1_for (by omega) (by omega) Pv5 ⟨t, v, _, rfl, mv6.dk, hd6, by omega, by omega⟩ ?_ ?_
    · rintro i σ H' hi ⟨t, v, a4, rfl, dk', dt, wt', ht'⟩
      walk_at "step"
      refine ⟨c, _, rfl, fun nm n1 n8 => ?_⟩
      walk_at "step"
      refine ⟨sl64 (by simp), fun p hp => ?_⟩
      walk_at "step"
      refine ⟨sl64 (by simp), fun r hr => ?_⟩
      walk_at "step"
      have s1 := Same.new hp (.tup [v, .str ("a" : Str)])
      have s2 := Same.new hr (.tup [.str nm, .ref p])
      refine ⟨.nd nm [t, .tx "a"], _, _, rfl, (dk'.same s1).same s2, da_nd (SqT.of upd_same) (SqT.of (s2 _ _ upd_same)) ?_, ?_, ?_⟩
      · rw [Tr.das, Tr.das, Tr.das]
        exact dvs_cons (Dv.same (Same.tr s1 s2) _ _ dt) (dvs_cons (da_tx _) dvs_nil)
      · rw [wt, wts, wts, wts, wt]; have : ("a" : Str).length = 1 := rfl; omega
      · rw [hgt, hgts, hgts, hgts, hgt]; omega
    · rintro σ H' ⟨t, v, a4, rfl, dk', dt, wt', ht'⟩
      exact law_V dk' dt (by omega) (by omega) q
  · rw [decide_eq_false e]; refine iteF ?_
    exact law_V mv5.dk hd5 (by omega) (by omega) q
end My
namespace My
open PySem L2 PyProof.Rows
set_option maxHeartbeats 0
def top (i : Nat) : Stmt := PySem.Challenge.pw_tagmend_k20_places_in_trees.main.body.getD i (.Pass ⟨0, 0, 0, 0⟩)
abbrev s_is_text : Stmt := top 10
abbrev s_parts_of : Stmt := top 11
abbrev s_part_at : Stmt := top 12
abbrev s_way_to : Stmt := top 13
abbrev s_places_in : Stmt := top 14
abbrev s_placed_parts : Stmt := top 15
abbrev s_steps_below : Stmt := top 16
abbrev s__law_numbers : Stmt := top 18
abbrev s__law_draw : Stmt := top 19
abbrev s__law_name : Stmt := top 20
abbrev s__law_sorts : Stmt := top 21
abbrev s__law_some : Stmt := top 22
abbrev s__law_book : Stmt := top 23
abbrev s__law_text : Stmt := top 24
abbrev s__law_tree : Stmt := top 25
abbrev s__law_walk : Stmt := top 26
abbrev s__law_is_part : Stmt := top 27
abbrev s__law_whole : Stmt := top 28
abbrev s__law_refused : Stmt := top 29
abbrev s__law_nowhere : Stmt := top 30
abbrev s_law : Stmt := top 31
set_option genInjectivity false in
set_option genSizeOf false in
structure Adr where
  a_is_text : Addr
  d_is_text : FuncData
  a_parts_of : Addr
  d_parts_of : FuncData
  a_part_at : Addr
  d_part_at : FuncData
  a_way_to : Addr
  d_way_to : FuncData
  a_places_in : Addr
  d_places_in : FuncData
  a_placed_parts : Addr
  d_placed_parts : FuncData
  a_steps_below : Addr
  d_steps_below : FuncData
  a__law_numbers : Addr
  d__law_numbers : FuncData
  a__law_draw : Addr
  d__law_draw : FuncData
  a__law_name : Addr
  d__law_name : FuncData
  a__law_sorts : Addr
  d__law_sorts : FuncData
  a__law_some : Addr
  d__law_some : FuncData
  a__law_book : Addr
  d__law_book : FuncData
  a__law_text : Addr
  d__law_text : FuncData
  a__law_tree : Addr
  d__law_tree : FuncData
  a__law_walk : Addr
  d__law_walk : FuncData
  a__law_is_part : Addr
  d__law_is_part : FuncData
  a__law_whole : Addr
  d__law_whole : FuncData
  a__law_refused : Addr
  d__law_refused : FuncData
  a__law_nowhere : Addr
  d__law_nowhere : FuncData
  a_law : Addr
  d_law : FuncData
  k_Ended : Addr
  k_NoBook : Addr
  k_NoFit : Addr
  k_NoPlace : Addr
  k_NoSpot : Addr
  k_NoText : Addr
  k_NotEnded : Addr
  k_TagError : Addr
structure Txt (K : PySem.W.Frag) (mg : Str → Option Value) (t : Adr) : Prop where
  F_is_text : Fun K "is_text" "is_text" s_is_text t.a_is_text t.d_is_text
  b_is_text : Binds K t.d_is_text ["part"] []
  m_is_text : mg "is_text" = some (.ref t.a_is_text)
  F_parts_of : Fun K "parts_of" "parts_of" s_parts_of t.a_parts_of t.d_parts_of
  b_parts_of : Binds K t.d_parts_of ["part"] []
  m_parts_of : mg "parts_of" = some (.ref t.a_parts_of)
  F_part_at : Fun K "part_at" "part_at" s_part_at t.a_part_at t.d_part_at
  b_part_at : Binds K t.d_part_at ["tree", "place"] []
  m_part_at : mg "part_at" = some (.ref t.a_part_at)
  F_way_to : Fun K "way_to" "way_to" s_way_to t.a_way_to t.d_way_to
  b_way_to : Binds K t.d_way_to ["tree", "place"] []
  m_way_to : mg "way_to" = some (.ref t.a_way_to)
  F_places_in : Fun K "places_in" "places_in" s_places_in t.a_places_in t.d_places_in
  b_places_in : Binds K t.d_places_in ["tree"] []
  m_places_in : mg "places_in" = some (.ref t.a_places_in)
  F_placed_parts : Fun K "placed_parts" "placed_parts" s_placed_parts t.a_placed_parts t.d_placed_parts
  b_placed_parts : Binds K t.d_placed_parts ["tree"] []
  m_placed_parts : mg "placed_parts" = some (.ref t.a_placed_parts)
  F_steps_below : Fun K "steps_below" "steps_below" s_steps_below t.a_steps_below t.d_steps_below
  b_steps_below : Binds K t.d_steps_below ["place", "part"] []
  m_steps_below : mg "steps_below" = some (.ref t.a_steps_below)
  F__law_numbers : Fun K "_law_numbers" "_law_numbers" s__law_numbers t.a__law_numbers t.d__law_numbers
  b__law_numbers : Binds K t.d__law_numbers ["_law_script", "_law_most"] []
  m__law_numbers : mg "_law_numbers" = some (.ref t.a__law_numbers)
  F__law_draw : Fun K "_law_draw" "_law_draw" s__law_draw t.a__law_draw t.d__law_draw
  b__law_draw : Binds K t.d__law_draw ["_law_deck", "_law_most"] []
  m__law_draw : mg "_law_draw" = some (.ref t.a__law_draw)
  F__law_name : Fun K "_law_name" "_law_name" s__law_name t.a__law_name t.d__law_name
  b__law_name : Binds K t.d__law_name ["_law_code", "_law_k"] []
  m__law_name : mg "_law_name" = some (.ref t.a__law_name)
  F__law_sorts : Fun K "_law_sorts" "_law_sorts" s__law_sorts t.a__law_sorts t.d__law_sorts
  b__law_sorts : Binds K t.d__law_sorts ["_law_deck", "_law_count"] []
  m__law_sorts : mg "_law_sorts" = some (.ref t.a__law_sorts)
  F__law_some : Fun K "_law_some" "_law_some" s__law_some t.a__law_some t.d__law_some
  b__law_some : Binds K t.d__law_some ["_law_deck", "_law_names"] []
  m__law_some : mg "_law_some" = some (.ref t.a__law_some)
  F__law_book : Fun K "_law_book" "_law_book" s__law_book t.a__law_book t.d__law_book
  b__law_book : Binds K t.d__law_book ["_law_deck", "_law_code", "_law_most"] []
  m__law_book : mg "_law_book" = some (.ref t.a__law_book)
  F__law_text : Fun K "_law_text" "_law_text" s__law_text t.a__law_text t.d__law_text
  b__law_text : Binds K t.d__law_text ["_law_deck"] []
  m__law_text : mg "_law_text" = some (.ref t.a__law_text)
  F__law_tree : Fun K "_law_tree" "_law_tree" s__law_tree t.a__law_tree t.d__law_tree
  b__law_tree : Binds K t.d__law_tree ["_law_deck", "_law_book_here", "_law_code", "_law_deep"] []
  m__law_tree : mg "_law_tree" = some (.ref t.a__law_tree)
  F__law_walk : Fun K "_law_walk" "_law_walk" s__law_walk t.a__law_walk t.d__law_walk
  b__law_walk : Binds K t.d__law_walk ["_law_tree_here"] []
  m__law_walk : mg "_law_walk" = some (.ref t.a__law_walk)
  F__law_is_part : Fun K "_law_is_part" "_law_is_part" s__law_is_part t.a__law_is_part t.d__law_is_part
  b__law_is_part : Binds K t.d__law_is_part ["_law_found"] []
  m__law_is_part : mg "_law_is_part" = some (.ref t.a__law_is_part)
  F__law_whole : Fun K "_law_whole" "_law_whole" s__law_whole t.a__law_whole t.d__law_whole
  b__law_whole : Binds K t.d__law_whole ["_law_found"] []
  m__law_whole : mg "_law_whole" = some (.ref t.a__law_whole)
  F__law_refused : Fun K "_law_refused" "_law_refused" s__law_refused t.a__law_refused t.d__law_refused
  b__law_refused : Binds K t.d__law_refused ["_law_tree_here", "_law_place"] []
  m__law_refused : mg "_law_refused" = some (.ref t.a__law_refused)
  F__law_nowhere : Fun K "_law_nowhere" "_law_nowhere" s__law_nowhere t.a__law_nowhere t.d__law_nowhere
  b__law_nowhere : Binds K t.d__law_nowhere ["_law_deck", "_law_place", "_law_part"] []
  m__law_nowhere : mg "_law_nowhere" = some (.ref t.a__law_nowhere)
  F_law : Fun K "law" "law" s_law t.a_law t.d_law
  b_law : Binds K t.d_law ["_law_script"] []
  m_law : mg "law" = some (.ref t.a_law)
  z_ValueError : mg "ValueError" = none
  z_bool : mg "bool" = none
  z_int : mg "int" = none
  z_isinstance : mg "isinstance" = none
  z_len : mg "len" = none
  z_list : mg "list" = none
  z_range : mg "range" = none
  z_sorted : mg "sorted" = none
  z_str : mg "str" = none
  z_sum : mg "sum" = none
  z_tuple : mg "tuple" = none
  n_Ended : mg "Ended" = some (.ref t.k_Ended)
  n_NoBook : mg "NoBook" = some (.ref t.k_NoBook)
  n_NoFit : mg "NoFit" = some (.ref t.k_NoFit)
  n_NoPlace : mg "NoPlace" = some (.ref t.k_NoPlace)
  n_NoSpot : mg "NoSpot" = some (.ref t.k_NoSpot)
  n_NoText : mg "NoText" = some (.ref t.k_NoText)
  n_NotEnded : mg "NotEnded" = some (.ref t.k_NotEnded)
  n_TagError : mg "TagError" = some (.ref t.k_TagError)
  x_NoPlace : OwnX K mg "NoPlace" t.k_NoPlace
  er : Ers K t.k_Ended t.k_NoBook t.k_NoFit t.k_NoPlace t.k_NoSpot t.k_NoText t.k_NotEnded t.k_TagError
  y_NoPlace_TagError : PySem.W.exmOne K (.ref t.k_NoPlace) (.ref t.k_TagError) = some true
section
variable {P : Program} {w : World} {K : PySem.W.Frag} {mg : Str → Option Value} {base : Heap} {t : Adr}
theorem sc_is_text : FnScope ["part"] ["part"] (defScope s_is_text) := ⟨rfl, rfl, rfl, by decide +kernel, rfl, by decide +kernel, by decide +kernel⟩
theorem sc_parts_of : FnScope ["part"] ["part"] (defScope s_parts_of) := ⟨rfl, rfl, rfl, by decide +kernel, rfl, by decide +kernel, by decide +kernel⟩
theorem sc_part_at : FnScope ["tree", "place"] ["tree", "place"] (defScope s_part_at) := ⟨rfl, rfl, rfl, by decide +kernel, rfl, by decide +kernel, by decide +kernel⟩
theorem sc_way_to : FnScope ["tree", "place", "way", "number", "parts"] ["tree", "place"] (defScope s_way_to) := ⟨rfl, rfl, rfl, by decide +kernel, rfl, by decide +kernel, by decide +kernel⟩
theorem sc_places_in : FnScope ["tree"] ["tree"] (defScope s_places_in) := ⟨rfl, rfl, rfl, by decide +kernel, rfl, by decide +kernel, by decide +kernel⟩
theorem sc_placed_parts : FnScope ["tree", "placed", "ahead", "step"] ["tree"] (defScope s_placed_parts) := ⟨rfl, rfl, rfl, by decide +kernel, rfl, by decide +kernel, by decide +kernel⟩
theorem sc_steps_below : FnScope ["place", "part", "parts"] ["place", "part"] (defScope s_steps_below) := ⟨rfl, rfl, rfl, by decide +kernel, rfl, by decide +kernel, by decide +kernel⟩
theorem sc__law_numbers : FnScope ["_law_script", "_law_most", "_law_deck", "_law_kind", "_law_last"] ["_law_script", "_law_most"] (defScope s__law_numbers) := ⟨rfl, rfl, rfl, by decide +kernel, rfl, by decide +kernel, by decide +kernel⟩
theorem sc__law_draw : FnScope ["_law_deck", "_law_most", "_law_number"] ["_law_deck", "_law_most"] (defScope s__law_draw) := ⟨rfl, rfl, rfl, by decide +kernel, rfl, by decide +kernel, by decide +kernel⟩
theorem sc__law_name : FnScope ["_law_code", "_law_k", "_law_letters", "_law_first", "_law_long", "_law_told", "_law_name_here", "_law_j", "_law_step"] ["_law_code", "_law_k"] (defScope s__law_name) := ⟨rfl, rfl, rfl, by decide +kernel, rfl, by decide +kernel, by decide +kernel⟩
theorem sc__law_sorts : FnScope ["_law_deck", "_law_count", "_law_kinds", "_law_sorts_here", "_law_hosts", "_law_k", "_law_free"] ["_law_deck", "_law_count"] (defScope s__law_sorts) := ⟨rfl, rfl, rfl, by decide +kernel, rfl, by decide +kernel, by decide +kernel⟩
theorem sc__law_some : FnScope ["_law_deck", "_law_names", "_law_some_here", "_law_name_here"] ["_law_deck", "_law_names"] (defScope s__law_some) := ⟨rfl, rfl, rfl, by decide +kernel, rfl, by decide +kernel, by decide +kernel⟩
theorem sc__law_book : FnScope ["_law_deck", "_law_code", "_law_most", "_law_count", "_law_sorts_here", "_law_hosts", "_law_names", "_law_soft", "_law_may_shut", "_law_book_here", "_law_k", "_law_shuts", "_law_host", "_law_row"] ["_law_deck", "_law_code", "_law_most"] (defScope s__law_book) := ⟨rfl, rfl, rfl, by decide +kernel, rfl, by decide +kernel, by decide +kernel⟩
theorem sc__law_text : FnScope ["_law_deck", "_law_signs"] ["_law_deck"] (defScope s__law_text) := ⟨rfl, rfl, rfl, by decide +kernel, rfl, by decide +kernel, by decide +kernel⟩
theorem sc__law_tree : FnScope ["_law_deck", "_law_book_here", "_law_code", "_law_deep", "_law_name_here", "_law_parts", "_law_k"] ["_law_deck", "_law_book_here", "_law_code", "_law_deep"] (defScope s__law_tree) := ⟨rfl, rfl, rfl, by decide +kernel, rfl, by decide +kernel, by decide +kernel⟩
theorem sc__law_walk : FnScope ["_law_tree_here", "_law_found", "_law_todo", "_law_place", "_law_names", "_law_part", "_law_above"] ["_law_tree_here"] (defScope s__law_walk) := ⟨rfl, rfl, rfl, by decide +kernel, rfl, by decide +kernel, by decide +kernel⟩
theorem sc__law_is_part : FnScope ["_law_found"] ["_law_found"] (defScope s__law_is_part) := ⟨rfl, rfl, rfl, by decide +kernel, rfl, by decide +kernel, by decide +kernel⟩
theorem sc__law_whole : FnScope ["_law_found"] ["_law_found"] (defScope s__law_whole) := ⟨rfl, rfl, rfl, by decide +kernel, rfl, by decide +kernel, by decide +kernel⟩
theorem sc__law_refused : FnScope ["_law_tree_here", "_law_place", "_law_error", "e"] ["_law_tree_here", "_law_place"] (defScope s__law_refused) := ⟨rfl, rfl, rfl, by decide +kernel, rfl, by decide +kernel, by decide +kernel⟩
theorem sc__law_nowhere : FnScope ["_law_deck", "_law_place", "_law_part", "_law_far"] ["_law_deck", "_law_place", "_law_part"] (defScope s__law_nowhere) := ⟨rfl, rfl, rfl, by decide +kernel, rfl, by decide +kernel, by decide +kernel⟩
theorem sc_law : FnScope ["_law_script", "_law_deck", "_law_code", "_law_tree_here", "_law_k", "_law_walked", "_law_told", "_law_place", "_law_names", "_law_part", "_law_found", "_law_other", "_law_kept"] ["_law_script"] (defScope s_law) := ⟨rfl, rfl, rfl, by decide +kernel, rfl, by decide +kernel, by decide +kernel⟩
theorem ok_is_text (T : Txt K mg t) : FnOk P w K mg base CX0 1 t.a_is_text t.d_is_text ["part"] (sp_is_text K) := by
  refine T.F_is_text.ok sc_is_text (len_is_text K) (fun cdv A outer s H vs Q E hr h => ⟨R_is_text K, ?_, rd_is_text h⟩)
  have S := sc_is_text
  refine pss_one ?_
  exact (ps_ret (pe_callB call_isinstanceA rfl T.z_isinstance boot_isinstance (pa_cons (pv 0) (pa_cons (pe_bltn rfl T.z_str boot_str rfl) pa_nil))))
theorem ok__law_numbers (T : Txt K mg t) : FnOk P w K mg base CX0 1 t.a__law_numbers t.d__law_numbers ["_law_script", "_law_most"] (sp__law_numbers K) := by
  refine T.F__law_numbers.ok sc__law_numbers (len__law_numbers K) (fun cdv A outer s H vs Q E hr h => ⟨R__law_numbers K, ?_, rd__law_numbers h⟩)
  have S := sc__law_numbers
  refine pss_cons ?_ ?_
  · refine ps_set (i := 2) ?_ ?_ ?_ ?_ ?_ ?_
    · exact S.nd
    · exact rfl
    · exact (Or.inl rfl)
    · exact (pe_callTy call_listA rfl T.z_list boot_list (pa_cons (pe_slice sl_any (pv 0) po_none (po_some pe_int)) pa_nil))
    · rfl
    · walk_at "or"
  refine pss_cons ?_ ?_
  · refine ps_set (i := 3) ?_ ?_ ?_ ?_ ?_ ?_
    · exact S.nd
    · exact rfl
    · exact (Or.inl rfl)
    · exact pe_int
    · rfl
    · walk_at "or"
  refine pss_cons ?_ ?_
  · refine ps_if ?_ ?_ ?_
    · exact (pt_cmpR (op_neA (u190 hr)) (pv 2) (pe_lst pa_nil) (nomark _))
    · refine pss_cons ?_ ?_
      · refine ps_set (i := 3) ?_ ?_ ?_ ?_ ?_ ?_
        · exact S.nd
        · exact rfl
        · exact (Or.inl rfl)
        · exact (pe_op op_mod (pe_ix (ix_any' (hu_of hr)) (pv 2) pe_int (fun _ _ => rfl)) pe_int)
        · rfl
        · walk_at "or"
      refine pss_one ?_
      exact (ps_asg (pe_op op_fdiv (pe_ix (ix_any' (hu_of hr)) (pv 2) pe_int (fun _ _ => rfl)) pe_int) (pg_sub (pv 2) pe_int (set_any' (hu_of hr))))
    · exact pss_nil
  refine pss_cons ?_ ?_
  · refine ps_set (i := 4) ?_ ?_ ?_ ?_ ?_ ?_
    · exact S.nd
    · exact rfl
    · exact (Or.inl rfl)
    · exact (pe_op op_addA pe_int (pe_op op_mod (pe_callB (call_sumA rfl) rfl T.z_sum boot_sum (pa_cons (pv 2) pa_nil)) pe_int))
    · rfl
    · walk_at "or"
  refine pss_cons ?_ ?_
  · refine ps_while PassesOwn.never ?_ ?_
    · exact (pt_cmpR op_ltA (pe_callB call_lenA rfl T.z_len boot_len (pa_cons (pv 2) pa_nil)) (pv 1) (nomark _))
    · refine pss_cons ?_ ?_
      · refine ps_set (i := 4) ?_ ?_ ?_ ?_ ?_ ?_
        · exact S.nd
        · exact rfl
        · exact (Or.inl rfl)
        · exact (pe_op op_mod (pe_op op_addA (pe_op op_addA (pe_op op_mulA (pv 4) (pv 4)) (pe_op op_mulA pe_int (pv 4))) (pe_callB call_lenA rfl T.z_len boot_len (pa_cons (pv 2) pa_nil))) pe_int)
        · rfl
        · walk_at "or"
      refine pss_cons ?_ ?_
      · refine ps_set (i := 4) ?_ ?_ ?_ ?_ ?_ ?_
        · exact S.nd
        · exact rfl
        · exact (Or.inl rfl)
        · exact (pe_op op_mod (pe_op op_addA (pe_op op_addA (pe_op op_mulA (pv 4) (pv 4)) (pe_op op_mulA pe_int (pv 4))) pe_int) pe_int)
        · rfl
        · walk_at "or"
      refine pss_one ?_
      exact (ps_expr (pe_bm PySem.F.plainAttrs_list PySem.F.slot_list_append PySem.F.type_list_append mt_append (pv 2) (pa_cons (pv 4) pa_nil)))
  refine pss_one ?_
  exact (ps_ret (pe_op op_addA (pe_lst (pa_cons (pv 3) pa_nil)) (pe_rev3 (pv 2) (pe_un un_neg pe_int))))
theorem ok__law_draw (T : Txt K mg t) : FnOk P w K mg base CX0 1 t.a__law_draw t.d__law_draw ["_law_deck", "_law_most"] (sp__law_draw K) := by
  refine T.F__law_draw.ok sc__law_draw (len__law_draw K) (fun cdv A outer s H vs Q E hr h => ⟨R__law_draw K, ?_, rd__law_draw h⟩)
  have S := sc__law_draw
  refine pss_cons ?_ ?_
  · refine ps_if ?_ ?_ ?_
    · exact (pt_cmpR (op_eqA (u190 hr)) (pe_callB call_lenA rfl T.z_len boot_len (pa_cons (pv 0) pa_nil)) pe_int (nomark _))
    · refine pss_one ?_
      exact (ps_ret pe_int)
    · exact pss_nil
  refine pss_cons ?_ ?_
  · refine ps_set (i := 2) ?_ ?_ ?_ ?_ ?_ ?_
    · exact S.nd
    · exact rfl
    · exact (Or.inl rfl)
    · exact (pe_bm0 PySem.F.plainAttrs_list PySem.F.slot_list_pop PySem.F.type_list_pop mt_pop (pv 0))
    · rfl
    · walk_at "or"
  refine pss_cons ?_ ?_
  · refine ps_if ?_ ?_ ?_
    · exact (PW.pt (pw_and (pt_cmpR (op_eqA (u190 hr)) (pe_ix (ix_any' (hu_of hr)) (pv 0) pe_int (fun _ _ => rfl)) pe_int (nomark _)) (pw_and1 (pt_cmpR (op_neA (u190 hr)) (pe_op op_fdivW (pv 2) (pv 1)) pe_int (nomark _)))))
    · refine pss_one ?_
      exact (ps_expr (pe_bm PySem.F.plainAttrs_list PySem.F.slot_list_append PySem.F.type_list_append mt_append (pv 0) (pa_cons (pe_op op_fdivW (pv 2) (pv 1)) pa_nil)))
    · exact pss_nil
  refine pss_one ?_
  exact (ps_ret (pe_op op_mod (pv 2) (pv 1)))
theorem ok__law_name (T : Txt K mg t) : FnOk P w K mg base CX0 1 t.a__law_name t.d__law_name ["_law_code", "_law_k"] (sp__law_name K) := by
  refine T.F__law_name.ok sc__law_name (len__law_name K) (fun cdv A outer s H vs Q E hr h => ⟨R__law_name K, ?_, rd__law_name h⟩)
  have S := sc__law_name
  refine pss_cons ?_ ?_
  · refine ps_set (i := 2) ?_ ?_ ?_ ?_ ?_ ?_
    · exact S.nd
    · exact rfl
    · exact (Or.inl rfl)
    · exact pe_str
    · rfl
    · walk_at "or"
  refine pss_cons ?_ ?_
  · refine ps_set (i := 3) ?_ ?_ ?_ ?_ ?_ ?_
    · exact S.nd
    · exact rfl
    · exact (Or.inl rfl)
    · exact (pe_op op_mod (pe_op op_fdiv (pv 0) pe_int) pe_int)
    · rfl
    · walk_at "or"
  refine pss_cons ?_ ?_
  · refine ps_if ?_ ?_ ?_
    · exact (pt_cmpR (op_eqA (u190 hr)) (pe_op op_mod (pe_op op_fdiv (pv 0) pe_int) pe_int) pe_int (nomark _))
    · refine pss_one ?_
      exact (ps_ret (pe_op op_mulA (pe_ix (ix_any' (hu_of hr)) (pv 2) (pe_op op_mod (pe_op op_addA (pv 3) (pe_op op_fdiv (pv 1) pe_int)) pe_int) (fun _ _ => rfl)) (pe_op op_addA pe_int (pe_op op_mod (pv 1) pe_int))))
    · exact pss_nil
  refine pss_cons ?_ ?_
  · refine ps_set (i := 4) ?_ ?_ ?_ ?_ ?_ ?_
    · exact S.nd
    · exact rfl
    · exact (Or.inl rfl)
    · exact (pe_op op_addA pe_int (pe_op op_mod (pv 0) pe_int))
    · rfl
    · walk_at "or"
  refine pss_cons ?_ ?_
  · refine ps_set (i := 5) ?_ ?_ ?_ ?_ ?_ ?_
    · exact S.nd
    · exact rfl
    · exact (Or.inl rfl)
    · exact (pe_op op_mod (pe_op op_fdiv (pv 0) pe_int) (pv 4))
    · rfl
    · walk_at "or"
  refine pss_cons ?_ ?_
  · refine ps_set (i := 6) ?_ ?_ ?_ ?_ ?_ ?_
    · exact S.nd
    · exact rfl
    · exact (Or.inl rfl)
    · exact pe_str
    · rfl
    · walk_at "or"
  refine pss_cons ?_ ?_
  · refine ps_for PassesOwn.never rfl ?_ ?_ ?_
    · exact (pi_range1 rfl T.z_range (pa_cons (pv 4) pa_nil))
    · exact (pg_name (i := 7) S.nd rfl (Or.inl rfl))
    · refine pss_cons ?_ ?_
      · refine ps_set (i := 8) ?_ ?_ ?_ ?_ ?_ ?_
        · exact S.nd
        · exact rfl
        · exact (Or.inl rfl)
        · exact (pe_op op_mulA (pe_op op_mod (pe_op op_fdiv (pv 0) pe_int) pe_int) (pv 7))
        · rfl
        · walk_at "or"
      refine pss_cons ?_ ?_
      · refine ps_if ?_ ?_ ?_
        · exact (pt_cmpR (op_eqA (u190 hr)) (pv 7) (pv 5) (nomark _))
        · refine pss_one ?_
          refine ps_set (i := 8) ?_ ?_ ?_ ?_ ?_ ?_
          · exact S.nd
          · exact rfl
          · exact (Or.inl rfl)
          · exact (pe_op op_addA (pv 8) (pv 1))
          · rfl
          · walk_at "or"
        · exact pss_nil
      refine pss_one ?_
      refine ps_set (i := 6) ?_ ?_ ?_ ?_ ?_ ?_
      · exact S.nd
      · exact rfl
      · exact (Or.inl rfl)
      · exact (pe_op op_addA (pv 6) (pe_ix (ix_any' (hu_of hr)) (pv 2) (pe_op op_mod (pe_op op_addA (pv 3) (pv 8)) pe_int) (fun _ _ => rfl)))
      · rfl
      · walk_at "or"
  refine pss_one ?_
  exact (ps_ret (pv 6))
theorem ok__law_walk (T : Txt K mg t) : FnOk P w K mg base CX0 1 t.a__law_walk t.d__law_walk ["_law_tree_here"] (sp__law_walk K) := by
  refine T.F__law_walk.ok sc__law_walk (len__law_walk K) (fun cdv A outer s H vs Q E hr h => ⟨R__law_walk K, ?_, rd__law_walk h⟩)
  have S := sc__law_walk
  refine pss_cons ?_ ?_
  · refine ps_set (i := 1) ?_ ?_ ?_ ?_ ?_ ?_
    · exact S.nd
    · exact rfl
    · exact (Or.inl rfl)
    · exact (pe_lst pa_nil)
    · rfl
    · walk_at "or"
  refine pss_cons ?_ ?_
  · refine ps_set (i := 2) ?_ ?_ ?_ ?_ ?_ ?_
    · exact S.nd
    · exact rfl
    · exact (Or.inl rfl)
    · exact (pe_lst (pa_cons (pe_tup (pa_cons (pe_tup pa_nil) (pa_cons (pe_tup pa_nil) (pa_cons (pv 0) pa_nil)))) pa_nil))
    · rfl
    · walk_at "or"
  refine pss_cons ?_ ?_
  · refine ps_while PassesOwn.never ?_ ?_
    · exact (pt_cmpR (op_neA (u190 hr)) (pv 2) (pe_lst pa_nil) (nomark _))
    · refine pss_cons ?_ ?_
      · exact (ps_asg (pe_bm PySem.F.plainAttrs_list PySem.F.slot_list_pop PySem.F.type_list_pop mt_popAt (pv 2) (pa_cons pe_int pa_nil)) (pg_tup rfl (pgs_cons (pg_name (i := 3) S.nd rfl (Or.inr rfl)) (pgs_cons (pg_name (i := 4) S.nd rfl (Or.inl rfl)) (pgs_cons (pg_name (i := 5) S.nd rfl (Or.inr rfl)) pgs_nil)))))
      refine pss_cons ?_ ?_
      · exact (ps_expr (pe_bm PySem.F.plainAttrs_list PySem.F.slot_list_append PySem.F.type_list_append mt_append (pv 1) (pa_cons (pe_tup (pa_cons (pv 3) (pa_cons (pv 4) (pa_cons (pv 5) pa_nil)))) pa_nil)))
      refine pss_one ?_
      refine ps_if ?_ ?_ ?_
      · exact (pt_not (pt_val (pe_callB call_isinstanceA rfl T.z_isinstance boot_isinstance (pa_cons (pv 5) (pa_cons (pe_bltn rfl T.z_str boot_str rfl) pa_nil)))))
      · refine pss_cons ?_ ?_
        · refine ps_set (i := 6) ?_ ?_ ?_ ?_ ?_ ?_
          · exact S.nd
          · exact rfl
          · exact (Or.inr rfl)
          · exact (pv 4)
          · rfl
          · walk_at "or"
        refine pss_cons ?_ ?_
        · refine ps_if ?_ ?_ ?_
          · exact (pt_cmpR (op_neA (u190 hr)) (pv 3) (pe_tup pa_nil) (nomark _))
          · refine pss_one ?_
            refine ps_set (i := 6) ?_ ?_ ?_ ?_ ?_ ?_
            · exact S.nd
            · exact rfl
            · exact (Or.inr rfl)
            · exact (pe_op op_addB (pv 4) (pe_tup (pa_cons (pe_ix (ix_any' (hu_of hr)) (pv 5) pe_int (fun _ _ => rfl)) pa_nil)))
            · rfl
            · walk_at "or"
          · exact pss_nil
        refine pss_one ?_
        refine ps_set (i := 2) ?_ ?_ ?_ ?_ ?_ ?_
        · exact S.nd
        · exact rfl
        · exact (Or.inl rfl)
        · refine pe_op op_addB ?_ ?_
          · exact (pe_comp rfl (comp_scope (osc := defScope s__law_walk) (ON := ["_law_tree_here", "_law_found", "_law_todo", "_law_place", "_law_names", "_law_part", "_law_above"]) (N := ["_law_above", "_law_place", "_law_part", "_law_k"]) (fr := [some 6, some 3, some 5, none]) (by decide +kernel) rfl rfl) (pi_range1 rfl T.z_range (pa_cons (pe_callB call_lenA rfl T.z_len boot_len (pa_cons (pe_ix (ix_any' (hu_of hr)) (pv 5) pe_int (fun _ _ => rfl)) pa_nil)) pa_nil)) (fun _ _ _ _ _ _ => (pg_name (i := 3) (show List.Nodup (["_law_above", "_law_place", "_law_part", "_law_k"] : List Str) by decide +kernel) rfl (Or.inl rfl))) tg_name (fun _ _ _ _ _ _ => pts_nil) (fun _ _ _ _ _ _ => (pe_tup (pa_cons (pe_op op_addB (pv 1) (pe_tup (pa_cons (pv 3) pa_nil))) (pa_cons (pv 0) (pa_cons (pe_ix (ix_any' (hu_of hr)) (pe_ix (ix_any' (hu_of hr)) (pv 2) pe_int (fun _ _ => rfl)) (pv 3) (fun _ _ => rfl)) pa_nil))))))
          · exact (pv 2)
        · rfl
        · walk_at "or"
      · exact pss_nil
  refine pss_one ?_
  exact (ps_ret (pv 1))
theorem ok__law_whole (T : Txt K mg t) : FnOk P w K mg base CX0 1 t.a__law_whole t.d__law_whole ["_law_found"] (sp__law_whole K) := by
  refine T.F__law_whole.ok sc__law_whole (len__law_whole K) (fun cdv A outer s H vs Q E hr h => ⟨R__law_whole K, ?_, rd__law_whole h⟩)
  have S := sc__law_whole
  refine pss_one ?_
  exact (ps_ret (pe_and (pe_callB call_isinstanceA rfl T.z_isinstance boot_isinstance (pa_cons (pv 0) (pa_cons (pe_bltn rfl T.z_int boot_int rfl) pa_nil))) (pe_one (pe_not (pe_callB call_isinstanceA rfl T.z_isinstance boot_isinstance (pa_cons (pv 0) (pa_cons (pe_bltn rfl T.z_bool boot_bool rfl) pa_nil)))))))
theorem ok_parts_of (T : Txt K mg t) : FnOk P w K mg base CX0 2 t.a_parts_of t.d_parts_of ["part"] (sp_parts_of K) := by
  refine T.F_parts_of.ok sc_parts_of (len_parts_of K) (fun cdv A outer s H vs Q E hr h => ⟨R_parts_of K, ?_, rd_parts_of h⟩)
  have S := sc_parts_of
  refine pss_one ?_
  exact (ps_ret (pe_ifExp (pt_val (pe_call (ok_is_text T) (hr.mono (by walk_at "le")) rfl T.m_is_text T.F_is_text.kp T.b_is_text .nil pass0 (pa_cons (pv 0) pa_nil))) (pe_tup pa_nil) (pe_ix (ix_any' (hu_of hr)) (pv 0) pe_int (fun _ _ => rfl))))
theorem ok__law_sorts (T : Txt K mg t) : FnOk P w K mg base CX0 2 t.a__law_sorts t.d__law_sorts ["_law_deck", "_law_count"] (sp__law_sorts K) := by
  refine T.F__law_sorts.ok sc__law_sorts (len__law_sorts K) (fun cdv A outer s H vs Q E hr h => ⟨R__law_sorts K, ?_, rd__law_sorts h⟩)
  have S := sc__law_sorts
  refine pss_cons ?_ ?_
  · refine ps_set (i := 2) ?_ ?_ ?_ ?_ ?_ ?_
    · exact S.nd
    · exact rfl
    · exact (Or.inr rfl)
    · refine pe_lst ?_
      with_reducible refine pa_s1 ?_
      with_reducible refine pa_s1 ?_
      with_reducible refine pa_s1 ?_
      with_reducible refine pa_s1 ?_
      with_reducible refine pa_s1 ?_
      with_reducible refine pa_s1 ?_
      with_reducible refine pa_s1 ?_
      with_reducible refine pa_s1 ?_
      exact pa_s0
    · rfl
    · walk_at "or"
  refine pss_cons ?_ ?_
  · refine ps_set (i := 3) ?_ ?_ ?_ ?_ ?_ ?_
    · exact S.nd
    · exact rfl
    · exact (Or.inr rfl)
    · exact (pe_comp rfl (comp_scope (osc := defScope s__law_sorts) (ON := ["_law_deck", "_law_count", "_law_kinds", "_law_sorts_here", "_law_hosts", "_law_k", "_law_free"]) (N := ["_law_kinds", "_law_deck", "_law_k"]) (fr := [some 2, some 0, none]) (by decide +kernel) rfl rfl) (pi_range1 rfl T.z_range (pa_cons (pv 1) pa_nil)) (fun _ _ _ _ _ _ => (pg_name (i := 2) (show List.Nodup (["_law_kinds", "_law_deck", "_law_k"] : List Str) by decide +kernel) rfl (Or.inl rfl))) tg_name (fun _ _ _ _ _ _ => pts_nil) (fun _ _ _ _ _ _ => (pe_ix (ix_any' (hu_of hr)) (pv 0) (pe_call (ok__law_draw T) (hr.mono (by walk_at "le")) rfl T.m__law_draw T.F__law_draw.kp T.b__law_draw .nil pass0 (pa_cons (pv 1) (pa_cons pe_int pa_nil))) (fun _ _ => rfl))))
    · rfl
    · walk_at "or"
  refine pss_cons ?_ ?_
  · refine ps_set (i := 4) ?_ ?_ ?_ ?_ ?_ ?_
    · exact S.nd
    · exact rfl
    · exact (Or.inr rfl)
    · exact pe_dnewK
    · rfl
    · walk_at "or"
  refine pss_cons ?_ ?_
  · refine ps_for PassesOwn.never rfl ?_ ?_ ?_
    · exact (pi_range1 rfl T.z_range (pa_cons (pv 1) pa_nil))
    · exact (pg_name (i := 5) S.nd rfl (Or.inl rfl))
    · refine pss_one ?_
      refine ps_if ?_ ?_ ?_
      · exact (pt_cmpR (op_eqA (u190 hr)) (pe_ix (ix_any' (hu_of hr)) (pv 3) (pv 5) (fun _ _ => rfl)) pe_str (nomark _))
      · refine pss_cons ?_ ?_
        · exact (ps_setC (i := 6) S.nd rfl rfl rfl (comp_scope (osc := defScope s__law_sorts) (ON := ["_law_deck", "_law_count", "_law_kinds", "_law_sorts_here", "_law_hosts", "_law_k", "_law_free"]) (N := ["_law_sorts_here", "_law_hosts", "_law_j"]) (fr := [some 3, some 4, none]) (by decide +kernel) rfl rfl) (pi_range2 rfl T.z_range (pa_cons (pe_op op_addA (pv 5) pe_int) (pa_cons (pv 1) pa_nil))) (fun _ _ _ _ _ _ => (pg_name (i := 2) (show List.Nodup (["_law_sorts_here", "_law_hosts", "_law_j"] : List Str) by decide +kernel) rfl (Or.inl rfl))) tg_name (fun _ _ _ _ _ _ => (pts_one (PW.pt (pw_and (pt_cmpR (op_inB (hu_of hr)) (pe_ix (ix_any' (hu_of hr)) (pv 0) (pv 2) (fun _ _ => rfl)) (pe_tup (pa_cons pe_str (pa_cons pe_str pa_nil))) (by with_unfolding_all rfl)) (pw_and1 (pt_notinV rfl (pv 2) (pv 1))))))) (fun _ _ _ _ _ _ => (pv 2)))
        refine pss_one ?_
        refine ps_if ?_ ?_ ?_
        · exact (pt_cmpR (op_eqA (u190 hr)) (pv 6) (pe_lst pa_nil) (nomark _))
        · refine pss_one ?_
          exact (ps_asg (pe_ix (ix_any' (hu_of hr)) (pe_lst (pa_cons pe_str (pa_cons pe_str pa_nil))) (pe_callTy call_intA rfl T.z_int boot_int (pa_cons (pe_inV rfl (pv 5) (pv 4)) pa_nil)) (fun _ _ => rfl)) (pg_sub (pv 3) (pv 5) (set_any' (hu_of hr))))
        · refine pss_one ?_
          exact (ps_asg (pe_ix (ix_any' (hu_of hr)) (pv 6) (pe_call (ok__law_draw T) (hr.mono (by walk_at "le")) rfl T.m__law_draw T.F__law_draw.kp T.b__law_draw .nil pass0 (pa_cons (pv 0) (pa_cons (pe_callB call_lenA rfl T.z_len boot_len (pa_cons (pv 6) pa_nil)) pa_nil))) (fun _ _ => rfl)) (pg_sub (pv 4) (pv 5) (set_any' (hu_of hr))))
      · exact pss_nil
  refine pss_one ?_
  exact (ps_ret (pe_tup (pa_cons (pv 3) (pa_cons (pv 4) pa_nil))))
theorem ok__law_some (T : Txt K mg t) : FnOk P w K mg base CX0 2 t.a__law_some t.d__law_some ["_law_deck", "_law_names"] (sp__law_some K) := by
  refine T.F__law_some.ok sc__law_some (len__law_some K) (fun cdv A outer s H vs Q E hr h => ⟨R__law_some K, ?_, rd__law_some h⟩)
  have S := sc__law_some
  refine pss_cons ?_ ?_
  · refine ps_set (i := 2) ?_ ?_ ?_ ?_ ?_ ?_
    · exact S.nd
    · exact rfl
    · exact (Or.inl rfl)
    · exact (pe_lst pa_nil)
    · rfl
    · walk_at "or"
  refine pss_cons ?_ ?_
  · refine ps_for PassesOwn.never rfl ?_ ?_ ?_
    · exact (pi_any (pv 1))
    · exact (pg_name (i := 3) S.nd rfl (Or.inl rfl))
    · refine pss_one ?_
      refine ps_if ?_ ?_ ?_
      · exact (pt_cmpR (op_eqA (u190 hr)) (pe_call (ok__law_draw T) (hr.mono (by walk_at "le")) rfl T.m__law_draw T.F__law_draw.kp T.b__law_draw .nil pass0 (pa_cons (pv 0) (pa_cons pe_int pa_nil))) pe_int (nomark _))
      · refine pss_one ?_
        exact (ps_expr (pe_bm PySem.F.plainAttrs_list PySem.F.slot_list_append PySem.F.type_list_append mt_append (pv 2) (pa_cons (pv 3) pa_nil)))
      · exact pss_nil
  refine pss_one ?_
  exact (ps_ret (pe_callTy call_tupleA rfl T.z_tuple boot_tuple (pa_cons (pe_callB call_sortedA rfl T.z_sorted boot_sorted (pa_cons (pv 2) pa_nil)) pa_nil)))
theorem ok__law_text (T : Txt K mg t) : FnOk P w K mg base CX0 2 t.a__law_text t.d__law_text ["_law_deck"] (sp__law_text K) := by
  refine T.F__law_text.ok sc__law_text (len__law_text K) (fun cdv A outer s H vs Q E hr h => ⟨R__law_text K, ?_, rd__law_text h⟩)
  have S := sc__law_text
  refine pss_cons ?_ ?_
  · refine ps_set (i := 1) ?_ ?_ ?_ ?_ ?_ ?_
    · exact S.nd
    · exact rfl
    · exact (Or.inr rfl)
    · exact pe_str
    · rfl
    · walk_at "or"
  refine pss_cons ?_ ?_
  · refine ps_if ?_ ?_ ?_
    · exact (pt_cmpR (op_eqA (u190 hr)) (pe_call (ok__law_draw T) (hr.mono (by walk_at "le")) rfl T.m__law_draw T.F__law_draw.kp T.b__law_draw .nil pass0 (pa_cons (pv 0) (pa_cons pe_int pa_nil))) pe_int (nomark _))
    · refine pss_cons ?_ ?_
      · refine ps_set (i := 1) ?_ ?_ ?_ ?_ ?_ ?_
        · exact S.nd
        · exact rfl
        · exact (Or.inr rfl)
        · exact pe_str
        · rfl
        · walk_at "or"
      refine pss_one ?_
      refine ps_set (i := 1) ?_ ?_ ?_ ?_ ?_ ?_
      · exact S.nd
      · exact rfl
      · exact (Or.inr rfl)
      · exact (pe_op op_addA (pv 1) pe_str)
      · rfl
      · walk_at "or"
    · exact pss_nil
  refine pss_one ?_
  refine ps_ret ?_
  exact (pe_bm PySem.F.plainAttrs_str PySem.F.slot_str_join PySem.F.type_str_join mt_join pe_str (pa_cons (pe_comp rfl (comp_scope (osc := defScope s__law_text) (ON := ["_law_deck", "_law_signs"]) (N := ["_law_signs", "_law_deck", "_law_k"]) (fr := [some 1, some 0, none]) (by decide +kernel) rfl rfl) (pi_range1 rfl T.z_range (pa_cons (pe_op op_addA pe_int (pe_call (ok__law_draw T) (hr.mono (by walk_at "le")) rfl T.m__law_draw T.F__law_draw.kp T.b__law_draw .nil pass0 (pa_cons (pv 0) (pa_cons pe_int pa_nil)))) pa_nil)) (fun _ _ _ _ _ _ => (pg_name (i := 2) (show List.Nodup (["_law_signs", "_law_deck", "_law_k"] : List Str) by decide +kernel) rfl (Or.inl rfl))) tg_name (fun _ _ _ _ _ _ => pts_nil) (fun _ _ _ _ _ _ => (pe_ix (ix_any' (hu_of hr)) (pv 0) (pe_call (ok__law_draw T) (hr.mono (by walk_at "le")) rfl T.m__law_draw T.F__law_draw.kp T.b__law_draw .nil pass0 (pa_cons (pv 1) (pa_cons (pe_callB call_lenA rfl T.z_len boot_len (pa_cons (pv 0) pa_nil)) pa_nil))) (fun _ _ => rfl)))) pa_nil))
theorem ok__law_nowhere (T : Txt K mg t) : FnOk P w K mg base CX0 2 t.a__law_nowhere t.d__law_nowhere ["_law_deck", "_law_place", "_law_part"] (sp__law_nowhere K) := by
  refine T.F__law_nowhere.ok sc__law_nowhere (len__law_nowhere K) (fun cdv A outer s H vs Q E hr h => ⟨R__law_nowhere K, ?_, rd__law_nowhere h⟩)
  have S := sc__law_nowhere
  refine pss_cons ?_ ?_
  · refine ps_set (i := 3) ?_ ?_ ?_ ?_ ?_ ?_
    · exact S.nd
    · exact rfl
    · exact (Or.inl rfl)
    · exact (pe_op op_addB pe_int (pe_call (ok__law_draw T) (hr.mono (by walk_at "le")) rfl T.m__law_draw T.F__law_draw.kp T.b__law_draw .nil pass0 (pa_cons (pv 0) (pa_cons (pe_op op_pow pe_int pe_int) pa_nil))))
    · rfl
    · walk_at "or"
  refine pss_cons ?_ ?_
  · refine ps_if ?_ ?_ ?_
    · exact (pt_val (pe_callB call_isinstanceA rfl T.z_isinstance boot_isinstance (pa_cons (pv 2) (pa_cons (pe_bltn rfl T.z_str boot_str rfl) pa_nil))))
    · refine pss_one ?_
      exact (ps_ret (pe_lst (pa_cons (pe_op op_addB (pv 1) (pe_tup (pa_cons pe_int pa_nil))) (pa_cons (pe_op op_addB (pv 1) (pe_tup (pa_cons (pe_op op_sub (pv 3) pe_int) (pa_cons pe_int pa_nil)))) pa_nil))))
    · exact pss_nil
  refine pss_one ?_
  refine ps_ret ?_
  refine pe_lst ?_
  refine pa_cons ?_ ?_
  · exact (pe_op op_addB (pv 1) (pe_tup (pa_cons (pe_un un_neg pe_int) pa_nil)))
  refine pa_cons ?_ ?_
  · exact (pe_op op_addB (pv 1) (pe_tup (pa_cons (pe_op op_sub pe_int (pv 3)) pa_nil)))
  refine pa_cons ?_ ?_
  · exact (pe_op op_addB (pv 1) (pe_tup (pa_cons (pe_callB call_lenA rfl T.z_len boot_len (pa_cons (pe_ix (ix_any' (hu_of hr)) (pv 2) pe_int (fun _ _ => rfl)) pa_nil)) pa_nil)))
  refine pa_cons ?_ ?_
  · refine pe_op op_addB ?_ ?_
    · exact (pv 1)
    · exact (pe_tup (pa_cons (pe_op op_addB (pe_callB call_lenA rfl T.z_len boot_len (pa_cons (pe_ix (ix_any' (hu_of hr)) (pv 2) pe_int (fun _ _ => rfl)) pa_nil)) (pv 3)) (pa_cons pe_int pa_nil)))
  exact pa_nil
theorem ok_way_to (T : Txt K mg t) : FnOk P w K mg base CX0 3 t.a_way_to t.d_way_to ["tree", "place"] (sp_way_to K) := by
  refine T.F_way_to.ok sc_way_to (len_way_to K) (fun cdv A outer s H vs Q E hr h => ⟨R_way_to K, ?_, rd_way_to h⟩)
  have S := sc_way_to
  refine pss_cons ?_ ?_
  · refine ps_set (i := 2) ?_ ?_ ?_ ?_ ?_ ?_
    · exact S.nd
    · exact rfl
    · exact (Or.inl rfl)
    · exact (pe_lst (pa_cons (pv 0) pa_nil))
    · rfl
    · walk_at "or"
  refine pss_cons ?_ ?_
  · refine ps_for PassesOwn.never rfl ?_ ?_ ?_
    · exact (pi_any (pv 1))
    · exact (pg_name (i := 3) S.nd rfl (Or.inl rfl))
    · refine pss_cons ?_ ?_
      · refine ps_set (i := 4) ?_ ?_ ?_ ?_ ?_ ?_
        · exact S.nd
        · exact rfl
        · exact (Or.inl rfl)
        · exact (pe_call (ok_parts_of T) (hr.mono (by walk_at "le")) rfl T.m_parts_of T.F_parts_of.kp T.b_parts_of .nil pass0 (pa_cons (pe_ix (ix_any' (hu_of hr)) (pv 2) (pe_un un_neg pe_int) (fun _ _ => rfl)) pa_nil))
        · rfl
        · walk_at "or"
      refine pss_cons ?_ ?_
      · refine ps_if ?_ ?_ ?_
        · exact (pt_not (pt_chain op_leA op_ltA pe_int (pv 3) (pe_callB call_lenA rfl T.z_len boot_len (pa_cons (pv 4) pa_nil))))
        · refine pss_one ?_
          exact ps_never
        · exact pss_nil
      refine pss_one ?_
      exact (ps_expr (pe_bm PySem.F.plainAttrs_list PySem.F.slot_list_append PySem.F.type_list_append mt_append (pv 2) (pa_cons (pe_ix (ix_any' (hu_of hr)) (pv 4) (pv 3) (fun _ _ => rfl)) pa_nil)))
  refine pss_one ?_
  exact (ps_ret (pv 2))
theorem okx_way_to (T : Txt K mg t) : FnOk P w K mg base (Fly P w) 3 t.a_way_to t.d_way_to ["tree", "place"] (spx_way_to K t.k_NoPlace) := by
  refine T.F_way_to.okX sc_way_to (lenx_way_to K _) (fun cdv A outer s H vs Q E hr h => ⟨Rx_way_to K t.k_NoPlace E, ?_, rdx_way_to h⟩)
  have S := sc_way_to
  refine pss_cons ?_ ?_
  · refine ps_set (i := 2) ?_ ?_ ?_ ?_ ?_ ?_
    · exact S.nd
    · exact rfl
    · exact (Or.inl rfl)
    · exact (pe_lst (pa_cons (pv 0) pa_nil))
    · rfl
    · walk_at "or"
  refine pss_cons ?_ ?_
  · refine ps_for own_cx rfl ?_ ?_ ?_
    · exact (pi_any (pv 1))
    · exact (pg_name (i := 3) S.nd rfl (Or.inl rfl))
    · refine pss_cons ?_ ?_
      · refine ps_set (i := 4) ?_ ?_ ?_ ?_ ?_ ?_
        · exact S.nd
        · exact rfl
        · exact (Or.inl rfl)
        · exact (pe_call (ok_parts_of T) (hr.mono (by walk_at "le")) rfl T.m_parts_of T.F_parts_of.kp T.b_parts_of .nil pass0 (pa_cons (pe_ix (ix_any' (hu_of hr)) (pv 2) (pe_un un_neg pe_int) (fun _ _ => rfl)) pa_nil))
        · rfl
        · walk_at "or"
      refine pss_cons ?_ ?_
      · refine ps_if ?_ ?_ ?_
        · exact (pt_not (pt_chain op_leA op_ltA pe_int (pv 3) (pe_callB call_lenA rfl T.z_len boot_len (pa_cons (pv 4) pa_nil))))
        · refine pss_one ?_
          exact (ps_raise throws_cx rfl T.x_NoPlace rfl (pa_cons pe_str pa_nil))
        · exact pss_nil
      refine pss_one ?_
      exact (ps_expr (pe_bm PySem.F.plainAttrs_list PySem.F.slot_list_append PySem.F.type_list_append mt_append (pv 2) (pa_cons (pe_ix (ix_any' (hu_of hr)) (pv 4) (pv 3) (fun _ _ => rfl)) pa_nil)))
  refine pss_one ?_
  exact (ps_ret (pv 2))
theorem ok_steps_below (T : Txt K mg t) : FnOk P w K mg base CX0 3 t.a_steps_below t.d_steps_below ["place", "part"] (sp_steps_below K) := by
  refine T.F_steps_below.ok sc_steps_below (len_steps_below K) (fun cdv A outer s H vs Q E hr h => ⟨R_steps_below K, ?_, rd_steps_below h⟩)
  have S := sc_steps_below
  refine pss_cons ?_ ?_
  · refine ps_set (i := 2) ?_ ?_ ?_ ?_ ?_ ?_
    · exact S.nd
    · exact rfl
    · exact (Or.inr rfl)
    · exact (pe_call (ok_parts_of T) (hr.mono (by walk_at "le")) rfl T.m_parts_of T.F_parts_of.kp T.b_parts_of .nil pass0 (pa_cons (pv 1) pa_nil))
    · rfl
    · walk_at "or"
  refine pss_one ?_
  refine ps_ret ?_
  exact (pe_comp rfl (comp_scope (osc := defScope s_steps_below) (ON := ["place", "part", "parts"]) (N := ["place", "parts", "number"]) (fr := [some 0, some 2, none]) (by decide +kernel) rfl rfl) (pi_range3 rfl T.z_range (pa_cons (pe_op op_sub (pe_callB call_lenA rfl T.z_len boot_len (pa_cons (pv 2) pa_nil)) pe_int) (pa_cons (pe_un un_neg pe_int) (pa_cons (pe_un un_neg pe_int) pa_nil)))) (fun _ _ _ _ _ _ => (pg_name (i := 2) (show List.Nodup (["place", "parts", "number"] : List Str) by decide +kernel) rfl (Or.inl rfl))) tg_name (fun _ _ _ _ _ _ => pts_nil) (fun _ _ _ _ _ _ => (pe_tup (pa_cons (pe_op op_addB (pv 0) (pe_tup (pa_cons (pv 2) pa_nil))) (pa_cons (pe_ix (ix_any' (hu_of hr)) (pv 1) (pv 2) (fun _ _ => rfl)) pa_nil)))))
theorem ok__law_book (T : Txt K mg t) : FnOk P w K mg base CX0 3 t.a__law_book t.d__law_book ["_law_deck", "_law_code", "_law_most"] (sp__law_book K) := by
  refine T.F__law_book.ok sc__law_book (len__law_book K) (fun cdv A outer s H vs Q E hr h => ⟨R__law_book K, ?_, rd__law_book h⟩)
  have S := sc__law_book
  refine pss_cons ?_ ?_
  · refine ps_set (i := 3) ?_ ?_ ?_ ?_ ?_ ?_
    · exact S.nd
    · exact rfl
    · exact (Or.inl rfl)
    · exact (pe_op op_addA pe_int (pe_call (ok__law_draw T) (hr.mono (by walk_at "le")) rfl T.m__law_draw T.F__law_draw.kp T.b__law_draw .nil pass0 (pa_cons (pv 0) (pa_cons (pv 2) pa_nil))))
    · rfl
    · walk_at "or"
  refine pss_cons ?_ ?_
  · exact (ps_asg (pe_call (ok__law_sorts T) (hr.mono (by walk_at "le")) rfl T.m__law_sorts T.F__law_sorts.kp T.b__law_sorts .nil pass0 (pa_cons (pv 0) (pa_cons (pv 3) pa_nil))) (pg_tup rfl (pgs_cons (pg_name (i := 4) S.nd rfl (Or.inr rfl)) (pgs_cons (pg_name (i := 5) S.nd rfl (Or.inr rfl)) pgs_nil))))
  refine pss_cons ?_ ?_
  · refine ps_set (i := 6) ?_ ?_ ?_ ?_ ?_ ?_
    · exact S.nd
    · exact rfl
    · exact (Or.inr rfl)
    · exact (pe_comp rfl (comp_scope (osc := defScope s__law_book) (ON := ["_law_deck", "_law_code", "_law_most", "_law_count", "_law_sorts_here", "_law_hosts", "_law_names", "_law_soft", "_law_may_shut", "_law_book_here", "_law_k", "_law_shuts", "_law_host", "_law_row"]) (N := ["_law_code", "_law_k"]) (fr := [some 1, none]) (by decide +kernel) rfl rfl) (pi_range1 rfl T.z_range (pa_cons (pv 3) pa_nil)) (fun _ _ _ _ _ _ => (pg_name (i := 1) (show List.Nodup (["_law_code", "_law_k"] : List Str) by decide +kernel) rfl (Or.inl rfl))) tg_name (fun _ _ _ _ _ _ => pts_nil) (fun _ _ _ _ _ _ => (pe_call (ok__law_name T) (hr.mono (by walk_at "le")) rfl T.m__law_name T.F__law_name.kp T.b__law_name .nil pass0 (pa_cons (pv 0) (pa_cons (pv 1) pa_nil)))))
    · rfl
    · walk_at "or"
  refine pss_cons ?_ ?_
  · exact (ps_setC (i := 7) S.nd rfl rfl rfl (comp_scope (osc := defScope s__law_book) (ON := ["_law_deck", "_law_code", "_law_most", "_law_count", "_law_sorts_here", "_law_hosts", "_law_names", "_law_soft", "_law_may_shut", "_law_book_here", "_law_k", "_law_shuts", "_law_host", "_law_row"]) (N := ["_law_sorts_here", "_law_k"]) (fr := [some 4, none]) (by decide +kernel) rfl rfl) (pi_range1 rfl T.z_range (pa_cons (pv 3) pa_nil)) (fun _ _ _ _ _ _ => (pg_name (i := 1) (show List.Nodup (["_law_sorts_here", "_law_k"] : List Str) by decide +kernel) rfl (Or.inl rfl))) tg_name (fun _ _ _ _ _ _ => (pts_one (pt_cmpR (op_inB (hu_of hr)) (pe_ix (ix_any' (hu_of hr)) (pv 0) (pv 1) (fun _ _ => rfl)) (pe_tup (pa_cons pe_str (pa_cons pe_str pa_nil))) (by with_unfolding_all rfl)))) (fun _ _ _ _ _ _ => (pv 1)))
  refine pss_cons ?_ ?_
  · exact (ps_setC (i := 8) S.nd rfl rfl rfl (comp_scope (osc := defScope s__law_book) (ON := ["_law_deck", "_law_code", "_law_most", "_law_count", "_law_sorts_here", "_law_hosts", "_law_names", "_law_soft", "_law_may_shut", "_law_book_here", "_law_k", "_law_shuts", "_law_host", "_law_row"]) (N := ["_law_names", "_law_hosts", "_law_k"]) (fr := [some 6, some 5, none]) (by decide +kernel) rfl rfl) (pi_any (pv 7)) (fun _ _ _ _ _ _ => (pg_name (i := 2) (show List.Nodup (["_law_names", "_law_hosts", "_law_k"] : List Str) by decide +kernel) rfl (Or.inl rfl))) tg_name (fun _ _ _ _ _ _ => (pts_one (pt_notinV rfl (pv 2) (pv 1)))) (fun _ _ _ _ _ _ => (pe_ix (ix_any' (hu_of hr)) (pv 0) (pv 2) (fun _ _ => rfl))))
  refine pss_cons ?_ ?_
  · refine ps_set (i := 9) ?_ ?_ ?_ ?_ ?_ ?_
    · exact S.nd
    · exact rfl
    · exact (Or.inl rfl)
    · exact (pe_lst pa_nil)
    · rfl
    · walk_at "or"
  refine pss_cons ?_ ?_
  · refine ps_for PassesOwn.never rfl ?_ ?_ ?_
    · exact (pi_range1 rfl T.z_range (pa_cons (pv 3) pa_nil))
    · exact (pg_name (i := 10) S.nd rfl (Or.inl rfl))
    · refine pss_cons ?_ ?_
      · refine ps_set (i := 11) ?_ ?_ ?_ ?_ ?_ ?_
        · exact S.nd
        · exact rfl
        · exact (Or.inl rfl)
        · exact (pe_tup pa_nil)
        · rfl
        · walk_at "or"
      refine pss_cons ?_ ?_
      · refine ps_if ?_ ?_ ?_
        · exact (pt_notinV rfl (pv 10) (pv 5))
        · refine pss_one ?_
          refine ps_set (i := 11) ?_ ?_ ?_ ?_ ?_ ?_
          · exact S.nd
          · exact rfl
          · exact (Or.inl rfl)
          · exact (pe_call (ok__law_some T) (hr.mono (by walk_at "le")) rfl T.m__law_some T.F__law_some.kp T.b__law_some .nil pass0 (pa_cons (pv 0) (pa_cons (pv 8) pa_nil)))
          · rfl
          · walk_at "or"
        · exact pss_nil
      refine pss_cons ?_ ?_
      · refine ps_set (i := 12) ?_ ?_ ?_ ?_ ?_ ?_
        · exact S.nd
        · exact rfl
        · exact (Or.inl rfl)
        · exact pe_str
        · rfl
        · walk_at "or"
      refine pss_cons ?_ ?_
      · refine ps_if ?_ ?_ ?_
        · exact (pt_cmpR (op_inB (hu_of hr)) (pv 10) (pv 5) (by with_unfolding_all rfl))
        · refine pss_one ?_
          refine ps_set (i := 12) ?_ ?_ ?_ ?_ ?_ ?_
          · exact S.nd
          · exact rfl
          · exact (Or.inl rfl)
          · exact (pe_ix (ix_any' (hu_of hr)) (pv 6) (pe_dget (hu_of hr) (pv 5) (pv 10) (fun _ _ => rfl)) (fun _ _ => rfl))
          · rfl
          · walk_at "or"
        · exact pss_nil
      refine pss_cons ?_ ?_
      · refine ps_set (i := 13) ?_ ?_ ?_ ?_ ?_ ?_
        · exact S.nd
        · exact rfl
        · exact (Or.inl rfl)
        · refine pe_tup ?_
          refine pa_cons ?_ ?_
          · exact (pe_ix (ix_any' (hu_of hr)) (pv 6) (pv 10) (fun _ _ => rfl))
          refine pa_cons ?_ ?_
          · exact (pe_ix (ix_any' (hu_of hr)) (pv 4) (pv 10) (fun _ _ => rfl))
          refine pa_cons ?_ ?_
          · exact (pv 12)
          refine pa_cons ?_ ?_
          · exact (pv 11)
          refine pa_cons ?_ ?_
          · refine pe_call (ok__law_some T) (hr.mono (by walk_at "le")) rfl T.m__law_some T.F__law_some.kp T.b__law_some .nil pass0 ?_
            refine pa_cons ?_ ?_
            · exact (pv 0)
            refine pa_cons ?_ ?_
            · exact (pe_comp rfl (comp_scope (osc := defScope s__law_book) (ON := ["_law_deck", "_law_code", "_law_most", "_law_count", "_law_sorts_here", "_law_hosts", "_law_names", "_law_soft", "_law_may_shut", "_law_book_here", "_law_k", "_law_shuts", "_law_host", "_law_row"]) (N := ["_law_names", "_law_j"]) (fr := [some 6, none]) (by decide +kernel) rfl rfl) (pi_any (pv 7)) (fun _ _ _ _ _ _ => (pg_name (i := 1) (show List.Nodup (["_law_names", "_law_j"] : List Str) by decide +kernel) rfl (Or.inl rfl))) tg_name (fun _ _ _ _ _ _ => pts_nil) (fun _ _ _ _ _ _ => (pe_ix (ix_any' (hu_of hr)) (pv 0) (pv 1) (fun _ _ => rfl))))
            exact pa_nil
          exact pa_nil
        · rfl
        · walk_at "or"
      refine pss_one ?_
      exact (ps_expr (pe_bm PySem.F.plainAttrs_list PySem.F.slot_list_insert PySem.F.type_list_insert mt_insert (pv 9) (pa_cons (pe_call (ok__law_draw T) (hr.mono (by walk_at "le")) rfl T.m__law_draw T.F__law_draw.kp T.b__law_draw .nil pass0 (pa_cons (pv 0) (pa_cons (pe_op op_addA (pe_callB call_lenA rfl T.z_len boot_len (pa_cons (pv 9) pa_nil)) pe_int) pa_nil))) (pa_cons (pv 13) pa_nil))))
  refine pss_one ?_
  exact (ps_ret (pe_callTy call_tupleA rfl T.z_tuple boot_tuple (pa_cons (pv 9) pa_nil)))
theorem ok_part_at (T : Txt K mg t) : FnOk P w K mg base CX0 4 t.a_part_at t.d_part_at ["tree", "place"] (sp_part_at K) := by
  refine T.F_part_at.ok sc_part_at (len_part_at K) (fun cdv A outer s H vs Q E hr h => ⟨R_part_at K, ?_, rd_part_at h⟩)
  have S := sc_part_at
  refine pss_one ?_
  exact (ps_ret (pe_ix (ix_any' (hu_of hr)) (pe_call (ok_way_to T) (hr.mono (by walk_at "le")) rfl T.m_way_to T.F_way_to.kp T.b_way_to .nil pass0 (pa_cons (pv 0) (pa_cons (pv 1) pa_nil))) (pe_un un_neg pe_int) (fun _ _ => rfl)))
theorem okx_part_at (T : Txt K mg t) : FnOk P w K mg base (Fly P w) 4 t.a_part_at t.d_part_at ["tree", "place"] (spx_part_at K t.k_NoPlace) := by
  refine T.F_part_at.okX sc_part_at (lenx_part_at K _) (fun cdv A outer s H vs Q E hr h => ⟨Rx_part_at K t.k_NoPlace E, ?_, rdx_part_at h⟩)
  have S := sc_part_at
  refine pss_one ?_
  exact (ps_ret (pe_ix (ix_any' (hu_of hr)) (pe_call (okx_way_to T) (hr.mono (by walk_at "le")) rfl T.m_way_to T.F_way_to.kp T.b_way_to .nil passes_cx (pa_cons (pv 0) (pa_cons (pv 1) pa_nil))) (pe_un un_neg pe_int) (fun _ _ => rfl)))
theorem ok_placed_parts (T : Txt K mg t) : FnOk P w K mg base CX0 4 t.a_placed_parts t.d_placed_parts ["tree"] (sp_placed_parts K) := by
  refine T.F_placed_parts.ok sc_placed_parts (len_placed_parts K) (fun cdv A outer s H vs Q E hr h => ⟨R_placed_parts K, ?_, rd_placed_parts h⟩)
  have S := sc_placed_parts
  refine pss_cons ?_ ?_
  · refine ps_set (i := 1) ?_ ?_ ?_ ?_ ?_ ?_
    · exact S.nd
    · exact rfl
    · exact (Or.inl rfl)
    · exact (pe_lst pa_nil)
    · rfl
    · walk_at "or"
  refine pss_cons ?_ ?_
  · refine ps_set (i := 2) ?_ ?_ ?_ ?_ ?_ ?_
    · exact S.nd
    · exact rfl
    · exact (Or.inl rfl)
    · exact (pe_lst (pa_cons (pe_tup (pa_cons (pe_tup pa_nil) (pa_cons (pv 0) pa_nil))) pa_nil))
    · rfl
    · walk_at "or"
  refine pss_cons ?_ ?_
  · refine ps_while PassesOwn.never ?_ ?_
    · exact (pt_cmpR op_gtA (pe_callB call_lenA rfl T.z_len boot_len (pa_cons (pv 2) pa_nil)) pe_int (nomark _))
    · refine pss_cons ?_ ?_
      · refine ps_set (i := 3) ?_ ?_ ?_ ?_ ?_ ?_
        · exact S.nd
        · exact rfl
        · exact (Or.inl rfl)
        · exact (pe_bm0 PySem.F.plainAttrs_list PySem.F.slot_list_pop PySem.F.type_list_pop mt_pop (pv 2))
        · rfl
        · walk_at "or"
      refine pss_cons ?_ ?_
      · exact (ps_expr (pe_bm PySem.F.plainAttrs_list PySem.F.slot_list_append PySem.F.type_list_append mt_append (pv 1) (pa_cons (pv 3) pa_nil)))
      refine pss_one ?_
      exact (ps_expr (pe_bm PySem.F.plainAttrs_list PySem.F.slot_list_extend PySem.F.type_list_extend mt_extend (pv 2) (pa_cons (pe_call (ok_steps_below T) (hr.mono (by walk_at "le")) rfl T.m_steps_below T.F_steps_below.kp T.b_steps_below .nil pass0 (pa_cons (pe_ix (ix_any' (hu_of hr)) (pv 3) pe_int (fun _ _ => rfl)) (pa_cons (pe_ix (ix_any' (hu_of hr)) (pv 3) pe_int (fun _ _ => rfl)) pa_nil))) pa_nil)))
  refine pss_one ?_
  exact (ps_ret (pv 1))
theorem ok_places_in (T : Txt K mg t) : FnOk P w K mg base CX0 5 t.a_places_in t.d_places_in ["tree"] (sp_places_in K) := by
  refine T.F_places_in.ok sc_places_in (len_places_in K) (fun cdv A outer s H vs Q E hr h => ⟨R_places_in K, ?_, rd_places_in h⟩)
  have S := sc_places_in
  refine pss_one ?_
  refine ps_ret ?_
  exact (pe_comp rfl (comp_scope (osc := defScope s_places_in) (ON := ["tree"]) (N := ["place", "part"]) (fr := [none, none]) (by decide +kernel) rfl rfl) (pi_any (pe_call (ok_placed_parts T) (hr.mono (by walk_at "le")) rfl T.m_placed_parts T.F_placed_parts.kp T.b_placed_parts .nil pass0 (pa_cons (pv 0) pa_nil))) (fun _ _ _ _ _ _ => (pg_tup rfl (pgs_cons (pg_name (i := 0) (show List.Nodup (["place", "part"] : List Str) by decide +kernel) rfl (Or.inl rfl)) (pgs_cons (pg_name (i := 1) (show List.Nodup (["place", "part"] : List Str) by decide +kernel) rfl (Or.inl rfl)) pgs_nil)))) (tg_tup (tg_cons rfl (tg_cons rfl tg_nil))) (fun _ _ _ _ _ _ => pts_nil) (fun _ _ _ _ _ _ => (pv 0)))
theorem ok__law_refused (T : Txt K mg t) : FnOk P w K mg base CX0 5 t.a__law_refused t.d__law_refused ["_law_tree_here", "_law_place"] (sp__law_refused K) := by
  refine T.F__law_refused.ok sc__law_refused (len__law_refused K) (fun cdv A outer s H vs Q E hr h => ⟨R__law_refused K t.k_NoPlace t.k_NoFit t.k_NotEnded t.k_Ended t.k_NoSpot t.k_NoBook t.k_NoText, ?_, rd__law_refused T.er h⟩)
  have S := sc__law_refused
  refine pss_cons ?_ ?_
  · refine ps_set (i := 2) ?_ ?_ ?_ ?_ ?_ ?_
    · exact S.nd
    · exact rfl
    · exact (Or.inl rfl)
    · exact pe_non
    · rfl
    · walk_at "or"
  refine pss_cons ?_ ?_
  · exact (ps_tryA (i := 3) (px_call (okx_part_at T) (hr.mono (by walk_at "le")) rfl T.m_part_at T.F_part_at.kp T.b_part_at .nil (fun _ => (pa_cons (pv 0) (pa_cons (pv 1) pa_nil)))) rfl T.n_TagError T.y_NoPlace_TagError S.nd rfl rfl (fun _ _ => (pss_one (ps_set (i := 2) S.nd rfl (Or.inl rfl) (pv 3)))))
  refine pss_cons ?_ ?_
  · refine ps_if ?_ ?_ ?_
    · exact (PW.pt (pw_or (pt_not (pt_val (pe_callB call_isinstanceE rfl T.z_isinstance boot_isinstance (pa_cons (pv 2) (pa_cons (pe_glob rfl T.n_NoPlace rfl) pa_nil))))) (pw_or1 (pt_not (pt_val (pe_callB call_isinstanceE rfl T.z_isinstance boot_isinstance (pa_cons (pv 2) (pa_cons (pe_bltn rfl T.z_ValueError boot_ValueError rfl) pa_nil))))))))
    · refine pss_one ?_
      exact (ps_ret pe_bl)
    · exact pss_nil
  refine pss_one ?_
  exact (ps_ret (pe_not (pe_callB call_isinstanceE rfl T.z_isinstance boot_isinstance (pa_cons (pv 2) (pa_cons (pe_tup (pa_cons (pe_glob rfl T.n_NoText rfl) (pa_cons (pe_glob rfl T.n_NoBook rfl) (pa_cons (pe_glob rfl T.n_NoSpot rfl) (pa_cons (pe_glob rfl T.n_Ended rfl) (pa_cons (pe_glob rfl T.n_NotEnded rfl) (pa_cons (pe_glob rfl T.n_NoFit rfl) pa_nil))))))) pa_nil)))))
theorem okn__law_tree (T : Txt K mg t) : ∀ n : Nat, FnOk P w K mg base CX0 (3 + n) t.a__law_tree t.d__law_tree ["_law_deck", "_law_book_here", "_law_code", "_law_deep"] (spn__law_tree n K)
  | 0 => by
    have FR : FnOk P w K mg base CX0 2 t.a__law_tree t.d__law_tree ["_law_deck", "_law_book_here", "_law_code", "_law_deep"] (prev__law_tree K 0) := ⟨fun _ _ _ _ h => h.elim, fun _ _ _ _ _ _ _ _ _ _ _ _ _ h => h.elim⟩
    refine T.F__law_tree.ok (k := 2) sc__law_tree (len__law_tree K 0) (fun cdv A outer s H vs Q E hr h => ⟨R__law_tree K (prev__law_tree K 0), ?_, rd__law_tree 0 h⟩)
    have S := sc__law_tree
    refine pss_cons ?_ ?_
    · refine ps_set (i := 4) ?_ ?_ ?_ ?_ ?_ ?_
      · exact S.nd
      · exact rfl
      · exact (Or.inl rfl)
      · refine pe_op op_mulA ?_ ?_
        · refine pe_call (ok__law_name T) (hr.mono (by walk_at "le")) rfl T.m__law_name T.F__law_name.kp T.b__law_name .nil pass0 ?_
          refine pa_cons ?_ ?_
          · exact (pv 2)
          refine pa_cons ?_ ?_
          · exact (pe_call (ok__law_draw T) (hr.mono (by walk_at "le")) rfl T.m__law_draw T.F__law_draw.kp T.b__law_draw .nil pass0 (pa_cons (pv 0) (pa_cons pe_int pa_nil)))
          exact pa_nil
        · exact (pe_callTy call_intA rfl T.z_int boot_int (pa_cons (pe_cmpR (op_neA (u190 hr)) (pe_call (ok__law_draw T) (hr.mono (by walk_at "le")) rfl T.m__law_draw T.F__law_draw.kp T.b__law_draw .nil pass0 (pa_cons (pv 0) (pa_cons pe_int pa_nil))) pe_int (nomark _)) pa_nil))
      · rfl
      · walk_at "or"
    refine pss_cons ?_ ?_
    · refine ps_if ?_ ?_ ?_
      · exact (pt_cmpR op_gtA (pe_call (ok__law_draw T) (hr.mono (by walk_at "le")) rfl T.m__law_draw T.F__law_draw.kp T.b__law_draw .nil pass0 (pa_cons (pv 0) (pa_cons pe_int pa_nil))) pe_int (nomark _))
      · refine pss_one ?_
        refine ps_set (i := 4) ?_ ?_ ?_ ?_ ?_ ?_
        · exact S.nd
        · exact rfl
        · exact (Or.inl rfl)
        · refine pe_ix ?_ ?_ ?_ ?_
          · exact ix_any' (hu_of hr)
          · refine pe_ix ?_ ?_ ?_ ?_
            · exact ix_any' (hu_of hr)
            · exact (pv 1)
            · refine pe_call (ok__law_draw T) (hr.mono (by walk_at "le")) rfl T.m__law_draw T.F__law_draw.kp T.b__law_draw .nil pass0 ?_
              refine pa_cons ?_ ?_
              · exact (pv 0)
              refine pa_cons ?_ ?_
              · exact (pe_callB call_lenA rfl T.z_len boot_len (pa_cons (pv 1) pa_nil))
              exact pa_nil
            · exact fun _ _ => rfl
          · exact pe_int
          · exact fun _ _ => rfl
        · rfl
        · walk_at "or"
      · exact pss_nil
    refine pss_cons ?_ ?_
    · refine ps_set (i := 5) ?_ ?_ ?_ ?_ ?_ ?_
      · exact S.nd
      · exact rfl
      · exact (Or.inl rfl)
      · exact (pe_lst pa_nil)
      · rfl
      · walk_at "or"
    refine pss_cons ?_ ?_
    · refine ps_if ?_ ?_ ?_
      · exact (pt_cmpR op_gtA (pv 3) pe_int (nomark _))
      · refine pss_one ?_
        refine ps_for PassesOwn.never rfl ?_ ?_ ?_
        · exact (pi_range1 rfl T.z_range (pa_cons (pe_call (ok__law_draw T) (hr.mono (by walk_at "le")) rfl T.m__law_draw T.F__law_draw.kp T.b__law_draw .nil pass0 (pa_cons (pv 0) (pa_cons pe_int pa_nil))) pa_nil))
        · exact (pg_name (i := 6) S.nd rfl (Or.inl rfl))
        · refine pss_one ?_
          refine ps_if ?_ ?_ ?_
          · exact (pt_cmpR (op_eqA (u190 hr)) (pe_call (ok__law_draw T) (hr.mono (by walk_at "le")) rfl T.m__law_draw T.F__law_draw.kp T.b__law_draw .nil pass0 (pa_cons (pv 0) (pa_cons pe_int pa_nil))) pe_int (nomark _))
          · refine pss_one ?_
            exact (ps_expr (pe_bm PySem.F.plainAttrs_list PySem.F.slot_list_append PySem.F.type_list_append mt_append (pv 5) (pa_cons (pe_op op_mulA (pe_call (ok__law_text T) (hr.mono (by walk_at "le")) rfl T.m__law_text T.F__law_text.kp T.b__law_text .nil pass0 (pa_cons (pv 0) pa_nil)) (pe_callTy call_intA rfl T.z_int boot_int (pa_cons (pe_cmpR (op_neA (u190 hr)) (pe_call (ok__law_draw T) (hr.mono (by walk_at "le")) rfl T.m__law_draw T.F__law_draw.kp T.b__law_draw .nil pass0 (pa_cons (pv 0) (pa_cons pe_int pa_nil))) pe_int (nomark _)) pa_nil))) pa_nil)))
          · refine pss_one ?_
            exact (ps_expr (pe_bm PySem.F.plainAttrs_list PySem.F.slot_list_append PySem.F.type_list_append mt_append (pv 5) (pa_cons (pe_call FR (hr.mono (by omega)) rfl T.m__law_tree T.F__law_tree.kp T.b__law_tree .nil pass0 (pa_cons (pv 0) (pa_cons (pv 1) (pa_cons (pv 2) (pa_cons (pe_op op_sub (pv 3) pe_int) pa_nil))))) pa_nil)))
      · exact pss_nil
    refine pss_one ?_
    exact (ps_ret (pe_tup (pa_cons (pv 4) (pa_cons (pe_callTy call_tupleA rfl T.z_tuple boot_tuple (pa_cons (pv 5) pa_nil)) pa_nil))))
  | n + 1 => by
    have FR : FnOk P w K mg base CX0 (3 + n) t.a__law_tree t.d__law_tree ["_law_deck", "_law_book_here", "_law_code", "_law_deep"] (prev__law_tree K (n + 1)) := okn__law_tree T n
    refine T.F__law_tree.ok (k := (3 + n)) sc__law_tree (len__law_tree K (n + 1)) (fun cdv A outer s H vs Q E hr h => ⟨R__law_tree K (prev__law_tree K (n + 1)), ?_, rd__law_tree (n + 1) h⟩)
    have S := sc__law_tree
    refine pss_cons ?_ ?_
    · refine ps_set (i := 4) ?_ ?_ ?_ ?_ ?_ ?_
      · exact S.nd
      · exact rfl
      · exact (Or.inl rfl)
      · refine pe_op op_mulA ?_ ?_
        · refine pe_call (ok__law_name T) (hr.mono (by walk_at "le")) rfl T.m__law_name T.F__law_name.kp T.b__law_name .nil pass0 ?_
          refine pa_cons ?_ ?_
          · exact (pv 2)
          refine pa_cons ?_ ?_
          · exact (pe_call (ok__law_draw T) (hr.mono (by walk_at "le")) rfl T.m__law_draw T.F__law_draw.kp T.b__law_draw .nil pass0 (pa_cons (pv 0) (pa_cons pe_int pa_nil)))
          exact pa_nil
        · exact (pe_callTy call_intA rfl T.z_int boot_int (pa_cons (pe_cmpR (op_neA (u190 hr)) (pe_call (ok__law_draw T) (hr.mono (by walk_at "le")) rfl T.m__law_draw T.F__law_draw.kp T.b__law_draw .nil pass0 (pa_cons (pv 0) (pa_cons pe_int pa_nil))) pe_int (nomark _)) pa_nil))
      · rfl
      · walk_at "or"
    refine pss_cons ?_ ?_
    · refine ps_if ?_ ?_ ?_
      · exact (pt_cmpR op_gtA (pe_call (ok__law_draw T) (hr.mono (by walk_at "le")) rfl T.m__law_draw T.F__law_draw.kp T.b__law_draw .nil pass0 (pa_cons (pv 0) (pa_cons pe_int pa_nil))) pe_int (nomark _))
      · refine pss_one ?_
        refine ps_set (i := 4) ?_ ?_ ?_ ?_ ?_ ?_
        · exact S.nd
        · exact rfl
        · exact (Or.inl rfl)
        · refine pe_ix ?_ ?_ ?_ ?_
          · exact ix_any' (hu_of hr)
          · refine pe_ix ?_ ?_ ?_ ?_
            · exact ix_any' (hu_of hr)
            · exact (pv 1)
            · refine pe_call (ok__law_draw T) (hr.mono (by walk_at "le")) rfl T.m__law_draw T.F__law_draw.kp T.b__law_draw .nil pass0 ?_
              refine pa_cons ?_ ?_
              · exact (pv 0)
              refine pa_cons ?_ ?_
              · exact (pe_callB call_lenA rfl T.z_len boot_len (pa_cons (pv 1) pa_nil))
              exact pa_nil
            · exact fun _ _ => rfl
          · exact pe_int
          · exact fun _ _ => rfl
        · rfl
        · walk_at "or"
      · exact pss_nil
    refine pss_cons ?_ ?_
    · refine ps_set (i := 5) ?_ ?_ ?_ ?_ ?_ ?_
      · exact S.nd
      · exact rfl
      · exact (Or.inl rfl)
      · exact (pe_lst pa_nil)
      · rfl
      · walk_at "or"
    refine pss_cons ?_ ?_
    · refine ps_if ?_ ?_ ?_
      · exact (pt_cmpR op_gtA (pv 3) pe_int (nomark _))
      · refine pss_one ?_
        refine ps_for PassesOwn.never rfl ?_ ?_ ?_
        · exact (pi_range1 rfl T.z_range (pa_cons (pe_call (ok__law_draw T) (hr.mono (by walk_at "le")) rfl T.m__law_draw T.F__law_draw.kp T.b__law_draw .nil pass0 (pa_cons (pv 0) (pa_cons pe_int pa_nil))) pa_nil))
        · exact (pg_name (i := 6) S.nd rfl (Or.inl rfl))
        · refine pss_one ?_
          refine ps_if ?_ ?_ ?_
          · exact (pt_cmpR (op_eqA (u190 hr)) (pe_call (ok__law_draw T) (hr.mono (by walk_at "le")) rfl T.m__law_draw T.F__law_draw.kp T.b__law_draw .nil pass0 (pa_cons (pv 0) (pa_cons pe_int pa_nil))) pe_int (nomark _))
          · refine pss_one ?_
            exact (ps_expr (pe_bm PySem.F.plainAttrs_list PySem.F.slot_list_append PySem.F.type_list_append mt_append (pv 5) (pa_cons (pe_op op_mulA (pe_call (ok__law_text T) (hr.mono (by walk_at "le")) rfl T.m__law_text T.F__law_text.kp T.b__law_text .nil pass0 (pa_cons (pv 0) pa_nil)) (pe_callTy call_intA rfl T.z_int boot_int (pa_cons (pe_cmpR (op_neA (u190 hr)) (pe_call (ok__law_draw T) (hr.mono (by walk_at "le")) rfl T.m__law_draw T.F__law_draw.kp T.b__law_draw .nil pass0 (pa_cons (pv 0) (pa_cons pe_int pa_nil))) pe_int (nomark _)) pa_nil))) pa_nil)))
          · refine pss_one ?_
            exact (ps_expr (pe_bm PySem.F.plainAttrs_list PySem.F.slot_list_append PySem.F.type_list_append mt_append (pv 5) (pa_cons (pe_call FR (hr.mono (by omega)) rfl T.m__law_tree T.F__law_tree.kp T.b__law_tree .nil pass0 (pa_cons (pv 0) (pa_cons (pv 1) (pa_cons (pv 2) (pa_cons (pe_op op_sub (pv 3) pe_int) pa_nil))))) pa_nil)))
      · exact pss_nil
    refine pss_one ?_
    exact (ps_ret (pe_tup (pa_cons (pv 4) (pa_cons (pe_callTy call_tupleA rfl T.z_tuple boot_tuple (pa_cons (pv 5) pa_nil)) pa_nil))))
theorem ok__law_tree (T : Txt K mg t) : FnOk P w K mg base CX0 8 t.a__law_tree t.d__law_tree ["_law_deck", "_law_book_here", "_law_code", "_law_deep"] (sp__law_tree K) := okn__law_tree T 5
theorem okn__law_is_part (T : Txt K mg t) : ∀ n : Nat, FnOk P w K mg base CX0 (1 + n) t.a__law_is_part t.d__law_is_part ["_law_found"] (spn__law_is_part n K)
  | 0 => by
    have FR : FnOk P w K mg base CX0 0 t.a__law_is_part t.d__law_is_part ["_law_found"] (prev__law_is_part K 0) := ⟨fun _ _ _ _ h => h.elim, fun _ _ _ _ _ _ _ _ _ _ _ _ _ h => h.elim⟩
    refine T.F__law_is_part.ok (k := 0) sc__law_is_part (len__law_is_part K 0) (fun cdv A outer s H vs Q E hr h => ⟨R__law_is_part K (prev__law_is_part K 0), ?_, rd__law_is_part 0 h⟩)
    have S := sc__law_is_part
    refine pss_cons ?_ ?_
    · refine ps_if ?_ ?_ ?_
      · exact (pt_val (pe_callB call_isinstanceA rfl T.z_isinstance boot_isinstance (pa_cons (pv 0) (pa_cons (pe_bltn rfl T.z_str boot_str rfl) pa_nil))))
      · refine pss_one ?_
        exact (ps_ret pe_bl)
      · exact pss_nil
    refine pss_cons ?_ ?_
    · refine ps_if ?_ ?_ ?_
      · exact (PW.pt (pw_or (pt_not (pt_val (pe_callB call_isinstanceA rfl T.z_isinstance boot_isinstance (pa_cons (pv 0) (pa_cons (pe_bltn rfl T.z_tuple boot_tuple rfl) pa_nil))))) (pw_or (pt_cmpR (op_neA (u190 hr)) (pe_callB call_lenA rfl T.z_len boot_len (pa_cons (pv 0) pa_nil)) pe_int (nomark _)) (pw_or1 (pt_not (pt_val (pe_callB call_isinstanceA rfl T.z_isinstance boot_isinstance (pa_cons (pe_ix (ix_any' (hu_of hr)) (pv 0) pe_int (fun _ _ => rfl)) (pa_cons (pe_bltn rfl T.z_str boot_str rfl) pa_nil)))))))))
      · refine pss_one ?_
        exact (ps_ret pe_bl)
      · exact pss_nil
    refine pss_one ?_
    refine ps_ret ?_
    exact (pe_and (pe_callB call_isinstanceA rfl T.z_isinstance boot_isinstance (pa_cons (pe_ix (ix_any' (hu_of hr)) (pv 0) pe_int (fun _ _ => rfl)) (pa_cons (pe_bltn rfl T.z_tuple boot_tuple rfl) pa_nil))) (pe_one (pe_cmpR (op_notinB (hu_of hr)) pe_bl (pe_comp rfl (comp_scope (osc := defScope s__law_is_part) (ON := ["_law_found"]) (N := ["_law_part"]) (fr := [none]) (by decide +kernel) rfl rfl) (pi_any (pe_ix (ix_any' (hu_of hr)) (pv 0) pe_int (fun _ _ => rfl))) (fun _ _ _ _ _ _ => (pg_name (i := 0) (show List.Nodup (["_law_part"] : List Str) by decide +kernel) rfl (Or.inl rfl))) tg_name (fun _ _ _ _ _ _ => pts_nil) (fun _ _ _ _ _ _ => (pe_call FR (hr.mono (by omega)) rfl T.m__law_is_part T.F__law_is_part.kp T.b__law_is_part .nil pass0 (pa_cons (pv 0) pa_nil)))) (by with_unfolding_all rfl))))
  | n + 1 => by
    have FR : FnOk P w K mg base CX0 (1 + n) t.a__law_is_part t.d__law_is_part ["_law_found"] (prev__law_is_part K (n + 1)) := okn__law_is_part T n
    refine T.F__law_is_part.ok (k := (1 + n)) sc__law_is_part (len__law_is_part K (n + 1)) (fun cdv A outer s H vs Q E hr h => ⟨R__law_is_part K (prev__law_is_part K (n + 1)), ?_, rd__law_is_part (n + 1) h⟩)
    have S := sc__law_is_part
    refine pss_cons ?_ ?_
    · refine ps_if ?_ ?_ ?_
      · exact (pt_val (pe_callB call_isinstanceA rfl T.z_isinstance boot_isinstance (pa_cons (pv 0) (pa_cons (pe_bltn rfl T.z_str boot_str rfl) pa_nil))))
      · refine pss_one ?_
        exact (ps_ret pe_bl)
      · exact pss_nil
    refine pss_cons ?_ ?_
    · refine ps_if ?_ ?_ ?_
      · exact (PW.pt (pw_or (pt_not (pt_val (pe_callB call_isinstanceA rfl T.z_isinstance boot_isinstance (pa_cons (pv 0) (pa_cons (pe_bltn rfl T.z_tuple boot_tuple rfl) pa_nil))))) (pw_or (pt_cmpR (op_neA (u190 hr)) (pe_callB call_lenA rfl T.z_len boot_len (pa_cons (pv 0) pa_nil)) pe_int (nomark _)) (pw_or1 (pt_not (pt_val (pe_callB call_isinstanceA rfl T.z_isinstance boot_isinstance (pa_cons (pe_ix (ix_any' (hu_of hr)) (pv 0) pe_int (fun _ _ => rfl)) (pa_cons (pe_bltn rfl T.z_str boot_str rfl) pa_nil)))))))))
      · refine pss_one ?_
        exact (ps_ret pe_bl)
      · exact pss_nil
    refine pss_one ?_
    refine ps_ret ?_
    exact (pe_and (pe_callB call_isinstanceA rfl T.z_isinstance boot_isinstance (pa_cons (pe_ix (ix_any' (hu_of hr)) (pv 0) pe_int (fun _ _ => rfl)) (pa_cons (pe_bltn rfl T.z_tuple boot_tuple rfl) pa_nil))) (pe_one (pe_cmpR (op_notinB (hu_of hr)) pe_bl (pe_comp rfl (comp_scope (osc := defScope s__law_is_part) (ON := ["_law_found"]) (N := ["_law_part"]) (fr := [none]) (by decide +kernel) rfl rfl) (pi_any (pe_ix (ix_any' (hu_of hr)) (pv 0) pe_int (fun _ _ => rfl))) (fun _ _ _ _ _ _ => (pg_name (i := 0) (show List.Nodup (["_law_part"] : List Str) by decide +kernel) rfl (Or.inl rfl))) tg_name (fun _ _ _ _ _ _ => pts_nil) (fun _ _ _ _ _ _ => (pe_call FR (hr.mono (by omega)) rfl T.m__law_is_part T.F__law_is_part.kp T.b__law_is_part .nil pass0 (pa_cons (pv 0) pa_nil)))) (by with_unfolding_all rfl))))
theorem ok__law_is_part (T : Txt K mg t) : FnOk P w K mg base CX0 46 t.a__law_is_part t.d__law_is_part ["_law_found"] (sp__law_is_part K) := okn__law_is_part T 45
theorem ok_law (T : Txt K mg t) : FnOk P w K mg base CX0 47 t.a_law t.d_law ["_law_script"] (sp_law K) := by
  refine T.F_law.ok sc_law (len_law K) (fun cdv A outer s H vs Q E hr h => ⟨R_law K, ?_, rd_law h⟩)
  have S := sc_law
  refine pss_cons ?_ ?_
  · refine ps_set (i := 1) ?_ ?_ ?_ ?_ ?_ ?_
    · exact S.nd
    · exact rfl
    · exact (Or.inl rfl)
    · exact (pe_call (ok__law_numbers T) (hr.mono (by walk_at "le")) rfl T.m__law_numbers T.F__law_numbers.kp T.b__law_numbers .nil pass0 (pa_cons (pv 0) (pa_cons pe_int pa_nil)))
    · rfl
    · walk_at "or"
  refine pss_cons ?_ ?_
  · refine ps_set (i := 2) ?_ ?_ ?_ ?_ ?_ ?_
    · exact S.nd
    · exact rfl
    · exact (Or.inl rfl)
    · exact (pe_call (ok__law_draw T) (hr.mono (by walk_at "le")) rfl T.m__law_draw T.F__law_draw.kp T.b__law_draw .nil pass0 (pa_cons (pv 1) (pa_cons (pe_op op_pow pe_int pe_int) pa_nil)))
    · rfl
    · walk_at "or"
  refine pss_cons ?_ ?_
  · refine ps_set (i := 3) ?_ ?_ ?_ ?_ ?_ ?_
    · exact S.nd
    · exact rfl
    · exact (Or.inl rfl)
    · refine pe_call (ok__law_tree T) (hr.mono (by walk_at "le")) rfl T.m__law_tree T.F__law_tree.kp T.b__law_tree .nil pass0 ?_
      refine pa_cons ?_ ?_
      · exact (pv 1)
      refine pa_cons ?_ ?_
      · exact (pe_call (ok__law_book T) (hr.mono (by walk_at "le")) rfl T.m__law_book T.F__law_book.kp T.b__law_book .nil pass0 (pa_cons (pv 1) (pa_cons (pv 2) (pa_cons pe_int pa_nil))))
      refine pa_cons ?_ ?_
      · exact (pv 2)
      refine pa_cons ?_ ?_
      · exact pe_int
      exact pa_nil
    · rfl
    · walk_at "or"
  refine pss_cons ?_ ?_
  · refine ps_if ?_ ?_ ?_
    · exact (pt_cmpR (op_eqA (u190 hr)) (pe_call (ok__law_draw T) (hr.mono (by walk_at "le")) rfl T.m__law_draw T.F__law_draw.kp T.b__law_draw .nil pass0 (pa_cons (pv 1) (pa_cons pe_int pa_nil))) pe_int (nomark _))
    · refine pss_one ?_
      refine ps_for PassesOwn.never rfl ?_ ?_ ?_
      · exact (pi_range1 rfl T.z_range (pa_cons (pe_call (ok__law_draw T) (hr.mono (by walk_at "le")) rfl T.m__law_draw T.F__law_draw.kp T.b__law_draw .nil pass0 (pa_cons (pv 1) (pa_cons pe_int pa_nil))) pa_nil))
      · exact (pg_name (i := 4) S.nd rfl (Or.inl rfl))
      · refine pss_one ?_
        refine ps_set (i := 3) ?_ ?_ ?_ ?_ ?_ ?_
        · exact S.nd
        · exact rfl
        · exact (Or.inl rfl)
        · refine pe_tup ?_
          refine pa_cons ?_ ?_
          · exact (pe_call (ok__law_name T) (hr.mono (by walk_at "le")) rfl T.m__law_name T.F__law_name.kp T.b__law_name .nil pass0 (pa_cons (pv 2) (pa_cons (pe_op op_mod (pv 4) pe_int) pa_nil)))
          refine pa_cons ?_ ?_
          · exact (pe_tup (pa_cons (pv 3) (pa_cons pe_str pa_nil)))
          exact pa_nil
        · rfl
        · walk_at "or"
    · exact pss_nil
  refine pss_cons ?_ ?_
  · refine ps_set (i := 3) ?_ ?_ ?_ ?_ ?_ ?_
    · exact S.nd
    · exact rfl
    · exact (Or.inl rfl)
    · exact (pe_tup (pa_cons pe_str (pa_cons (pe_tup (pa_cons (pv 3) pa_nil)) pa_nil)))
    · rfl
    · walk_at "or"
  refine pss_cons ?_ ?_
  · refine ps_set (i := 5) ?_ ?_ ?_ ?_ ?_ ?_
    · exact S.nd
    · exact rfl
    · exact (Or.inl rfl)
    · exact (pe_call (ok__law_walk T) (hr.mono (by walk_at "le")) rfl T.m__law_walk T.F__law_walk.kp T.b__law_walk .nil pass0 (pa_cons (pv 3) pa_nil))
    · rfl
    · walk_at "or"
  refine pss_cons ?_ ?_
  · refine ps_set (i := 6) ?_ ?_ ?_ ?_ ?_ ?_
    · exact S.nd
    · exact rfl
    · exact (Or.inl rfl)
    · exact (pe_call (ok_places_in T) (hr.mono (by walk_at "le")) rfl T.m_places_in T.F_places_in.kp T.b_places_in .nil pass0 (pa_cons (pv 3) pa_nil))
    · rfl
    · walk_at "or"
  refine pss_cons ?_ ?_
  · refine ps_if ?_ ?_ ?_
    · exact (PW.pt (pw_or (pt_not (pt_val (pe_callB call_isinstanceA rfl T.z_isinstance boot_isinstance (pa_cons (pv 6) (pa_cons (pe_bltn rfl T.z_list boot_list rfl) pa_nil))))) (pw_or1 (pt_cmpR (op_neA (u190 hr)) (pv 6) (pe_comp rfl (comp_scope (osc := defScope s_law) (ON := ["_law_script", "_law_deck", "_law_code", "_law_tree_here", "_law_k", "_law_walked", "_law_told", "_law_place", "_law_names", "_law_part", "_law_found", "_law_other", "_law_kept"]) (N := ["_law_place", "_law_names", "_law_part"]) (fr := [none, none, none]) (by decide +kernel) rfl rfl) (pi_any (pv 5)) (fun _ _ _ _ _ _ => (pg_tup rfl (pgs_cons (pg_name (i := 0) (show List.Nodup (["_law_place", "_law_names", "_law_part"] : List Str) by decide +kernel) rfl (Or.inl rfl)) (pgs_cons (pg_name (i := 1) (show List.Nodup (["_law_place", "_law_names", "_law_part"] : List Str) by decide +kernel) rfl (Or.inl rfl)) (pgs_cons (pg_name (i := 2) (show List.Nodup (["_law_place", "_law_names", "_law_part"] : List Str) by decide +kernel) rfl (Or.inl rfl)) pgs_nil))))) (tg_tup (tg_cons rfl (tg_cons rfl (tg_cons rfl tg_nil)))) (fun _ _ _ _ _ _ => pts_nil) (fun _ _ _ _ _ _ => (pv 0))) (nomark _)))))
    · refine pss_one ?_
      exact (ps_ret pe_bl)
    · exact pss_nil
  refine pss_cons ?_ ?_
  · refine ps_for PassesOwn.never rfl ?_ ?_ ?_
    · exact (pi_any (pv 5))
    · exact (pg_tup rfl (pgs_cons (pg_name (i := 7) S.nd rfl (Or.inl rfl)) (pgs_cons (pg_name (i := 8) S.nd rfl (Or.inl rfl)) (pgs_cons (pg_name (i := 9) S.nd rfl (Or.inl rfl)) pgs_nil))))
    · refine pss_cons ?_ ?_
      · refine ps_set (i := 10) ?_ ?_ ?_ ?_ ?_ ?_
        · exact S.nd
        · exact rfl
        · exact (Or.inl rfl)
        · exact (pe_call (ok_part_at T) (hr.mono (by walk_at "le")) rfl T.m_part_at T.F_part_at.kp T.b_part_at .nil pass0 (pa_cons (pv 3) (pa_cons (pv 7) pa_nil)))
        · rfl
        · walk_at "or"
      refine pss_one ?_
      refine ps_if ?_ ?_ ?_
      · exact (PW.pt (pw_or (pt_not (pt_val (pe_call (ok__law_is_part T) (hr.mono (by walk_at "le")) rfl T.m__law_is_part T.F__law_is_part.kp T.b__law_is_part .nil pass0 (pa_cons (pv 10) pa_nil)))) (pw_or1 (pt_cmpR (op_neA (u190 hr)) (pv 10) (pv 9) (nomark _)))))
      · refine pss_one ?_
        exact (ps_ret pe_bl)
      · exact pss_nil
  refine pss_cons ?_ ?_
  · refine ps_for PassesOwn.never rfl ?_ ?_ ?_
    · exact (pi_range1 rfl T.z_range (pa_cons pe_int pa_nil))
    · exact (pg_name (i := 4) S.nd rfl (Or.inl rfl))
    · refine pss_cons ?_ ?_
      · exact (ps_asg (pe_ix (ix_any' (hu_of hr)) (pv 5) (pe_call (ok__law_draw T) (hr.mono (by walk_at "le")) rfl T.m__law_draw T.F__law_draw.kp T.b__law_draw .nil pass0 (pa_cons (pv 1) (pa_cons (pe_callB call_lenA rfl T.z_len boot_len (pa_cons (pv 5) pa_nil)) pa_nil))) (fun _ _ => rfl)) (pg_tup rfl (pgs_cons (pg_name (i := 7) S.nd rfl (Or.inl rfl)) (pgs_cons (pg_name (i := 8) S.nd rfl (Or.inl rfl)) (pgs_cons (pg_name (i := 9) S.nd rfl (Or.inl rfl)) pgs_nil)))))
      refine pss_one ?_
      refine ps_for PassesOwn.never rfl ?_ ?_ ?_
      · exact (pi_any (pe_call (ok__law_nowhere T) (hr.mono (by walk_at "le")) rfl T.m__law_nowhere T.F__law_nowhere.kp T.b__law_nowhere .nil pass0 (pa_cons (pv 1) (pa_cons (pv 7) (pa_cons (pv 9) pa_nil)))))
      · exact (pg_name (i := 11) S.nd rfl (Or.inl rfl))
      · refine pss_one ?_
        refine ps_if ?_ ?_ ?_
        · exact (pt_not (pt_val (pe_call (ok__law_refused T) (hr.mono (by walk_at "le")) rfl T.m__law_refused T.F__law_refused.kp T.b__law_refused .nil pass0 (pa_cons (pv 3) (pa_cons (pv 11) pa_nil)))))
        · refine pss_one ?_
          exact (ps_ret pe_bl)
        · exact pss_nil
  refine pss_cons ?_ ?_
  · refine ps_for PassesOwn.never rfl ?_ ?_ ?_
    · exact (pi_any (pv 6))
    · exact (pg_name (i := 7) S.nd rfl (Or.inl rfl))
    · refine pss_one ?_
      refine ps_if ?_ ?_ ?_
      · exact (PW.pt (pw_or (pt_not (pt_val (pe_callB call_isinstanceA rfl T.z_isinstance boot_isinstance (pa_cons (pv 7) (pa_cons (pe_bltn rfl T.z_tuple boot_tuple rfl) pa_nil))))) (pw_or1 (pt_cmpR (op_inB (hu_of hr)) pe_bl (pe_comp rfl (comp_scope (osc := defScope s_law) (ON := ["_law_script", "_law_deck", "_law_code", "_law_tree_here", "_law_k", "_law_walked", "_law_told", "_law_place", "_law_names", "_law_part", "_law_found", "_law_other", "_law_kept"]) (N := ["_law_step"]) (fr := [none]) (by decide +kernel) rfl rfl) (pi_any (pv 7)) (fun _ _ _ _ _ _ => (pg_name (i := 0) (show List.Nodup (["_law_step"] : List Str) by decide +kernel) rfl (Or.inl rfl))) tg_name (fun _ _ _ _ _ _ => pts_nil) (fun _ _ _ _ _ _ => (pe_call (ok__law_whole T) (hr.mono (by walk_at "le")) rfl T.m__law_whole T.F__law_whole.kp T.b__law_whole .nil pass0 (pa_cons (pv 0) pa_nil)))) (by with_unfolding_all rfl)))))
      · refine pss_one ?_
        exact (ps_ret pe_bl)
      · exact pss_nil
  refine pss_cons ?_ ?_
  · refine ps_set (i := 12) ?_ ?_ ?_ ?_ ?_ ?_
    · exact S.nd
    · exact rfl
    · exact (Or.inl rfl)
    · exact (pe_callTy call_listA rfl T.z_list boot_list (pa_cons (pv 6) pa_nil))
    · rfl
    · walk_at "or"
  refine pss_cons ?_ ?_
  · exact (ps_expr (pe_bm0 PySem.F.plainAttrs_list PySem.F.slot_list_clear PySem.F.type_list_clear mt_clear (pv 6)))
  refine pss_one ?_
  exact (ps_ret (pe_cmpR (op_eqA (u190 hr)) (pe_call (ok_places_in T) (hr.mono (by walk_at "le")) rfl T.m_places_in T.F_places_in.kp T.b_places_in .nil pass0 (pa_cons (pv 3) pa_nil)) (pv 12) (nomark _)))
end
theorem all_mk {l : PySem.W.OpenLaw} {w : World} {K : PySem.W.Frag} {h : Heap} {mg : Str → Option Value} {fa f0 f1 f2 f3 f4 f5 f6 f7 f8 f9 f10 f11 f12 f13 f14 f15 f16 f17 f18 f19 f20 : Addr} (X : K.In h) (G : h.Ns mainGlobals mg) (hfa : mg "law" = some (.ref fa))
    {od0 an0 od1 an1 od2 an2 od3 an3 od4 an4 od5 an5 od6 an6 od7 an7 od8 an8 od9 an9 od10 an10 od11 an11 od12 an12 od13 an13 od14 an14 od15 an15 od16 an16 od17 an17 od18 an18 od19 an19 od20 an20 : Option Addr} {sl0 sl1 sl2 sl3 sl4 sl5 sl6 sl7 sl8 sl9 sl10 sl11 sl12 sl13 sl14 sl15 sl16 sl17 sl18 sl19 sl20 : Array (Option Value)} {oc0 kV0 dc0 pm0 cd0 ct0 oc1 kV1 dc1 pm1 cd1 ct1 oc2 kV2 dc2 pm2 cd2 ct2 oc3 kV3 dc3 pm3 cd3 ct3 oc4 kV4 dc4 pm4 cd4 ct4 oc5 kV5 dc5 pm5 cd5 ct5 oc6 kV6 dc6 pm6 cd6 ct6 oc7 kV7 dc7 pm7 cd7 ct7 oc8 kV8 dc8 pm8 cd8 ct8 oc9 kV9 dc9 pm9 cd9 ct9 oc10 kV10 dc10 pm10 cd10 ct10 oc11 kV11 dc11 pm11 cd11 ct11 oc12 kV12 dc12 pm12 cd12 ct12 oc13 kV13 dc13 pm13 cd13 ct13 oc14 kV14 dc14 pm14 cd14 ct14 oc15 kV15 dc15 pm15 cd15 ct15 oc16 kV16 dc16 pm16 cd16 ct16 oc17 kV17 dc17 pm17 cd17 ct17 oc18 kV18 dc18 pm18 cd18 ct18 oc19 kV19 dc19 pm19 cd19 ct19 oc20 kV20 dc20 pm20 cd20 ct20 : Value}
    (a0 : PySem.W.nsIn K mainGlobals "is_text" = some (some (.ref f0))) (l0 : K.lookup f0 = some ⟨oc0, od0, .func (PySem.W.fnOf "is_text" "is_text" (defArgs s_is_text) (defBody s_is_text) (defScope s_is_text) .none kV0 dc0 pm0 an0 cd0 ct0), sl0⟩) (c0 : PySem.W.codeIn K cd0 "is_text" = true) (k0 : PySem.W.keepIn K (.ref f0) = true)
    (a1 : PySem.W.nsIn K mainGlobals "parts_of" = some (some (.ref f1))) (l1 : K.lookup f1 = some ⟨oc1, od1, .func (PySem.W.fnOf "parts_of" "parts_of" (defArgs s_parts_of) (defBody s_parts_of) (defScope s_parts_of) .none kV1 dc1 pm1 an1 cd1 ct1), sl1⟩) (c1 : PySem.W.codeIn K cd1 "parts_of" = true) (k1 : PySem.W.keepIn K (.ref f1) = true)
    (a2 : PySem.W.nsIn K mainGlobals "part_at" = some (some (.ref f2))) (l2 : K.lookup f2 = some ⟨oc2, od2, .func (PySem.W.fnOf "part_at" "part_at" (defArgs s_part_at) (defBody s_part_at) (defScope s_part_at) .none kV2 dc2 pm2 an2 cd2 ct2), sl2⟩) (c2 : PySem.W.codeIn K cd2 "part_at" = true) (k2 : PySem.W.keepIn K (.ref f2) = true)
    (a3 : PySem.W.nsIn K mainGlobals "way_to" = some (some (.ref f3))) (l3 : K.lookup f3 = some ⟨oc3, od3, .func (PySem.W.fnOf "way_to" "way_to" (defArgs s_way_to) (defBody s_way_to) (defScope s_way_to) .none kV3 dc3 pm3 an3 cd3 ct3), sl3⟩) (c3 : PySem.W.codeIn K cd3 "way_to" = true) (k3 : PySem.W.keepIn K (.ref f3) = true)
    (a4 : PySem.W.nsIn K mainGlobals "places_in" = some (some (.ref f4))) (l4 : K.lookup f4 = some ⟨oc4, od4, .func (PySem.W.fnOf "places_in" "places_in" (defArgs s_places_in) (defBody s_places_in) (defScope s_places_in) .none kV4 dc4 pm4 an4 cd4 ct4), sl4⟩) (c4 : PySem.W.codeIn K cd4 "places_in" = true) (k4 : PySem.W.keepIn K (.ref f4) = true)
    (a5 : PySem.W.nsIn K mainGlobals "placed_parts" = some (some (.ref f5))) (l5 : K.lookup f5 = some ⟨oc5, od5, .func (PySem.W.fnOf "placed_parts" "placed_parts" (defArgs s_placed_parts) (defBody s_placed_parts) (defScope s_placed_parts) .none kV5 dc5 pm5 an5 cd5 ct5), sl5⟩) (c5 : PySem.W.codeIn K cd5 "placed_parts" = true) (k5 : PySem.W.keepIn K (.ref f5) = true)
    (a6 : PySem.W.nsIn K mainGlobals "steps_below" = some (some (.ref f6))) (l6 : K.lookup f6 = some ⟨oc6, od6, .func (PySem.W.fnOf "steps_below" "steps_below" (defArgs s_steps_below) (defBody s_steps_below) (defScope s_steps_below) .none kV6 dc6 pm6 an6 cd6 ct6), sl6⟩) (c6 : PySem.W.codeIn K cd6 "steps_below" = true) (k6 : PySem.W.keepIn K (.ref f6) = true)
    (a7 : PySem.W.nsIn K mainGlobals "_law_numbers" = some (some (.ref f7))) (l7 : K.lookup f7 = some ⟨oc7, od7, .func (PySem.W.fnOf "_law_numbers" "_law_numbers" (defArgs s__law_numbers) (defBody s__law_numbers) (defScope s__law_numbers) .none kV7 dc7 pm7 an7 cd7 ct7), sl7⟩) (c7 : PySem.W.codeIn K cd7 "_law_numbers" = true) (k7 : PySem.W.keepIn K (.ref f7) = true)
    (a8 : PySem.W.nsIn K mainGlobals "_law_draw" = some (some (.ref f8))) (l8 : K.lookup f8 = some ⟨oc8, od8, .func (PySem.W.fnOf "_law_draw" "_law_draw" (defArgs s__law_draw) (defBody s__law_draw) (defScope s__law_draw) .none kV8 dc8 pm8 an8 cd8 ct8), sl8⟩) (c8 : PySem.W.codeIn K cd8 "_law_draw" = true) (k8 : PySem.W.keepIn K (.ref f8) = true)
    (a9 : PySem.W.nsIn K mainGlobals "_law_name" = some (some (.ref f9))) (l9 : K.lookup f9 = some ⟨oc9, od9, .func (PySem.W.fnOf "_law_name" "_law_name" (defArgs s__law_name) (defBody s__law_name) (defScope s__law_name) .none kV9 dc9 pm9 an9 cd9 ct9), sl9⟩) (c9 : PySem.W.codeIn K cd9 "_law_name" = true) (k9 : PySem.W.keepIn K (.ref f9) = true)
    (a10 : PySem.W.nsIn K mainGlobals "_law_sorts" = some (some (.ref f10))) (l10 : K.lookup f10 = some ⟨oc10, od10, .func (PySem.W.fnOf "_law_sorts" "_law_sorts" (defArgs s__law_sorts) (defBody s__law_sorts) (defScope s__law_sorts) .none kV10 dc10 pm10 an10 cd10 ct10), sl10⟩) (c10 : PySem.W.codeIn K cd10 "_law_sorts" = true) (k10 : PySem.W.keepIn K (.ref f10) = true)
    (a11 : PySem.W.nsIn K mainGlobals "_law_some" = some (some (.ref f11))) (l11 : K.lookup f11 = some ⟨oc11, od11, .func (PySem.W.fnOf "_law_some" "_law_some" (defArgs s__law_some) (defBody s__law_some) (defScope s__law_some) .none kV11 dc11 pm11 an11 cd11 ct11), sl11⟩) (c11 : PySem.W.codeIn K cd11 "_law_some" = true) (k11 : PySem.W.keepIn K (.ref f11) = true)
    (a12 : PySem.W.nsIn K mainGlobals "_law_book" = some (some (.ref f12))) (l12 : K.lookup f12 = some ⟨oc12, od12, .func (PySem.W.fnOf "_law_book" "_law_book" (defArgs s__law_book) (defBody s__law_book) (defScope s__law_book) .none kV12 dc12 pm12 an12 cd12 ct12), sl12⟩) (c12 : PySem.W.codeIn K cd12 "_law_book" = true) (k12 : PySem.W.keepIn K (.ref f12) = true)
    (a13 : PySem.W.nsIn K mainGlobals "_law_text" = some (some (.ref f13))) (l13 : K.lookup f13 = some ⟨oc13, od13, .func (PySem.W.fnOf "_law_text" "_law_text" (defArgs s__law_text) (defBody s__law_text) (defScope s__law_text) .none kV13 dc13 pm13 an13 cd13 ct13), sl13⟩) (c13 : PySem.W.codeIn K cd13 "_law_text" = true) (k13 : PySem.W.keepIn K (.ref f13) = true)
    (a14 : PySem.W.nsIn K mainGlobals "_law_tree" = some (some (.ref f14))) (l14 : K.lookup f14 = some ⟨oc14, od14, .func (PySem.W.fnOf "_law_tree" "_law_tree" (defArgs s__law_tree) (defBody s__law_tree) (defScope s__law_tree) .none kV14 dc14 pm14 an14 cd14 ct14), sl14⟩) (c14 : PySem.W.codeIn K cd14 "_law_tree" = true) (k14 : PySem.W.keepIn K (.ref f14) = true)
    (a15 : PySem.W.nsIn K mainGlobals "_law_walk" = some (some (.ref f15))) (l15 : K.lookup f15 = some ⟨oc15, od15, .func (PySem.W.fnOf "_law_walk" "_law_walk" (defArgs s__law_walk) (defBody s__law_walk) (defScope s__law_walk) .none kV15 dc15 pm15 an15 cd15 ct15), sl15⟩) (c15 : PySem.W.codeIn K cd15 "_law_walk" = true) (k15 : PySem.W.keepIn K (.ref f15) = true)
    (a16 : PySem.W.nsIn K mainGlobals "_law_is_part" = some (some (.ref f16))) (l16 : K.lookup f16 = some ⟨oc16, od16, .func (PySem.W.fnOf "_law_is_part" "_law_is_part" (defArgs s__law_is_part) (defBody s__law_is_part) (defScope s__law_is_part) .none kV16 dc16 pm16 an16 cd16 ct16), sl16⟩) (c16 : PySem.W.codeIn K cd16 "_law_is_part" = true) (k16 : PySem.W.keepIn K (.ref f16) = true)
    (a17 : PySem.W.nsIn K mainGlobals "_law_whole" = some (some (.ref f17))) (l17 : K.lookup f17 = some ⟨oc17, od17, .func (PySem.W.fnOf "_law_whole" "_law_whole" (defArgs s__law_whole) (defBody s__law_whole) (defScope s__law_whole) .none kV17 dc17 pm17 an17 cd17 ct17), sl17⟩) (c17 : PySem.W.codeIn K cd17 "_law_whole" = true) (k17 : PySem.W.keepIn K (.ref f17) = true)
    (a18 : PySem.W.nsIn K mainGlobals "_law_refused" = some (some (.ref f18))) (l18 : K.lookup f18 = some ⟨oc18, od18, .func (PySem.W.fnOf "_law_refused" "_law_refused" (defArgs s__law_refused) (defBody s__law_refused) (defScope s__law_refused) .none kV18 dc18 pm18 an18 cd18 ct18), sl18⟩) (c18 : PySem.W.codeIn K cd18 "_law_refused" = true) (k18 : PySem.W.keepIn K (.ref f18) = true)
    (a19 : PySem.W.nsIn K mainGlobals "_law_nowhere" = some (some (.ref f19))) (l19 : K.lookup f19 = some ⟨oc19, od19, .func (PySem.W.fnOf "_law_nowhere" "_law_nowhere" (defArgs s__law_nowhere) (defBody s__law_nowhere) (defScope s__law_nowhere) .none kV19 dc19 pm19 an19 cd19 ct19), sl19⟩) (c19 : PySem.W.codeIn K cd19 "_law_nowhere" = true) (k19 : PySem.W.keepIn K (.ref f19) = true)
    (a20 : PySem.W.nsIn K mainGlobals "law" = some (some (.ref f20))) (l20 : K.lookup f20 = some ⟨oc20, od20, .func (PySem.W.fnOf "law" "law" (defArgs s_law) (defBody s_law) (defScope s_law) .none kV20 dc20 pm20 an20 cd20 ct20), sl20⟩) (c20 : PySem.W.codeIn K cd20 "law" = true) (k20 : PySem.W.keepIn K (.ref f20) = true)
    {k_Ended k_NoBook k_NoFit k_NoPlace k_NoSpot k_NoText k_NotEnded k_TagError : Addr} (eEnded : PySem.W.nsIn K mainGlobals "Ended" = some (some (.ref k_Ended))) (eNoBook : PySem.W.nsIn K mainGlobals "NoBook" = some (some (.ref k_NoBook))) (eNoFit : PySem.W.nsIn K mainGlobals "NoFit" = some (some (.ref k_NoFit))) (eNoPlace : PySem.W.nsIn K mainGlobals "NoPlace" = some (some (.ref k_NoPlace))) (eNoSpot : PySem.W.nsIn K mainGlobals "NoSpot" = some (some (.ref k_NoSpot))) (eNoText : PySem.W.nsIn K mainGlobals "NoText" = some (some (.ref k_NoText))) (eNotEnded : PySem.W.nsIn K mainGlobals "NotEnded" = some (some (.ref k_NotEnded))) (eTagError : PySem.W.nsIn K mainGlobals "TagError" = some (some (.ref k_TagError))) (xNoPlace : PySem.W.excIn K k_NoPlace bmV "ValueError.__new__" = true)
    (rga_NoPlace : PySem.W.findIn K (.ref k_NoPlace) "__getattribute__" = some (some (.builtin "BaseException.__getattribute__"))) (rgn_NoPlace : PySem.W.findIn K (.ref k_NoPlace) "__getattr__" = some none) (rcl_NoPlace : PySem.W.findIn K (.ref k_NoPlace) "__class__" = some (some (.builtin "object.__class__"))) (rbx_NoPlace : PySem.W.subIn K (.ref k_NoPlace) (.type "BaseException") = some true) (rob_NoPlace : PySem.W.subIn K (.ref k_NoPlace) (.type "object") = some true) (rve_NoPlace : PySem.W.subIn K (.ref k_NoPlace) (.type "ValueError") = some true) (rs_NoPlace_Ended : PySem.W.subIn K (.ref k_NoPlace) (.ref k_Ended) = some false) (rs_NoPlace_NoBook : PySem.W.subIn K (.ref k_NoPlace) (.ref k_NoBook) = some false) (rs_NoPlace_NoFit : PySem.W.subIn K (.ref k_NoPlace) (.ref k_NoFit) = some false) (rs_NoPlace_NoPlace : PySem.W.subIn K (.ref k_NoPlace) (.ref k_NoPlace) = some true) (rs_NoPlace_NoSpot : PySem.W.subIn K (.ref k_NoPlace) (.ref k_NoSpot) = some false) (rs_NoPlace_NoText : PySem.W.subIn K (.ref k_NoPlace) (.ref k_NoText) = some false) (rs_NoPlace_NotEnded : PySem.W.subIn K (.ref k_NoPlace) (.ref k_NotEnded) = some false) (ric_Ended : PySem.W.isClsIn K k_Ended = true) (rit_Ended : PySem.W.typeIn K (.ref k_Ended) = some (.type "type")) (ric_NoBook : PySem.W.isClsIn K k_NoBook = true) (rit_NoBook : PySem.W.typeIn K (.ref k_NoBook) = some (.type "type")) (ric_NoFit : PySem.W.isClsIn K k_NoFit = true) (rit_NoFit : PySem.W.typeIn K (.ref k_NoFit) = some (.type "type")) (ric_NoPlace : PySem.W.isClsIn K k_NoPlace = true) (rit_NoPlace : PySem.W.typeIn K (.ref k_NoPlace) = some (.type "type")) (ric_NoSpot : PySem.W.isClsIn K k_NoSpot = true) (rit_NoSpot : PySem.W.typeIn K (.ref k_NoSpot) = some (.type "type")) (ric_NoText : PySem.W.isClsIn K k_NoText = true) (rit_NoText : PySem.W.typeIn K (.ref k_NoText) = some (.type "type")) (ric_NotEnded : PySem.W.isClsIn K k_NotEnded = true) (rit_NotEnded : PySem.W.typeIn K (.ref k_NotEnded) = some (.type "type"))
    (yNoPlace_TagError : PySem.W.exmOne K (.ref k_NoPlace) (.ref k_TagError) = some true)
    (zValueError : PySem.W.nsIn K mainGlobals "ValueError" = some none) (zbool : PySem.W.nsIn K mainGlobals "bool" = some none) (zint : PySem.W.nsIn K mainGlobals "int" = some none) (zisinstance : PySem.W.nsIn K mainGlobals "isinstance" = some none) (zlen : PySem.W.nsIn K mainGlobals "len" = some none) (zlist : PySem.W.nsIn K mainGlobals "list" = some none) (zrange : PySem.W.nsIn K mainGlobals "range" = some none) (zsorted : PySem.W.nsIn K mainGlobals "sorted" = some none) (zstr : PySem.W.nsIn K mainGlobals "str" = some none) (zsum : PySem.W.nsIn K mainGlobals "sum" = some none) (ztuple : PySem.W.nsIn K mainGlobals "tuple" = some none) :
    ∃ fd : FuncData, (∀ (s : Shared) (v : Value), BindsTo s fd ⟨[v], []⟩ [("_law_script", v)]) ∧ ∀ base : Heap, K.In base → base.Ns mainGlobals mg → FnOk l.prog w K mg base CX0 47 fa fd ["_law_script"] (sp_law K) := by
  have e := hfa.symm.trans (PySem.W.mg_of X G a20)
  have e : f20 = fa := by cases e; rfl
  subst e
  have F0 := fun_mk (st := s_is_text) l0 c0 k0
  have b0 := F0.binds (ps := ["part"]) fun _ _ _ _ _ _ us hl => match us, hl with | [_], _ => rfl
  have F1 := fun_mk (st := s_parts_of) l1 c1 k1
  have b1 := F1.binds (ps := ["part"]) fun _ _ _ _ _ _ us hl => match us, hl with | [_], _ => rfl
  have F2 := fun_mk (st := s_part_at) l2 c2 k2
  have b2 := F2.binds (ps := ["tree", "place"]) fun _ _ _ _ _ _ us hl => match us, hl with | [_, _], _ => rfl
  have F3 := fun_mk (st := s_way_to) l3 c3 k3
  have b3 := F3.binds (ps := ["tree", "place"]) fun _ _ _ _ _ _ us hl => match us, hl with | [_, _], _ => rfl
  have F4 := fun_mk (st := s_places_in) l4 c4 k4
  have b4 := F4.binds (ps := ["tree"]) fun _ _ _ _ _ _ us hl => match us, hl with | [_], _ => rfl
  have F5 := fun_mk (st := s_placed_parts) l5 c5 k5
  have b5 := F5.binds (ps := ["tree"]) fun _ _ _ _ _ _ us hl => match us, hl with | [_], _ => rfl
  have F6 := fun_mk (st := s_steps_below) l6 c6 k6
  have b6 := F6.binds (ps := ["place", "part"]) fun _ _ _ _ _ _ us hl => match us, hl with | [_, _], _ => rfl
  have F7 := fun_mk (st := s__law_numbers) l7 c7 k7
  have b7 := F7.binds (ps := ["_law_script", "_law_most"]) fun _ _ _ _ _ _ us hl => match us, hl with | [_, _], _ => rfl
  have F8 := fun_mk (st := s__law_draw) l8 c8 k8
  have b8 := F8.binds (ps := ["_law_deck", "_law_most"]) fun _ _ _ _ _ _ us hl => match us, hl with | [_, _], _ => rfl
  have F9 := fun_mk (st := s__law_name) l9 c9 k9
  have b9 := F9.binds (ps := ["_law_code", "_law_k"]) fun _ _ _ _ _ _ us hl => match us, hl with | [_, _], _ => rfl
  have F10 := fun_mk (st := s__law_sorts) l10 c10 k10
  have b10 := F10.binds (ps := ["_law_deck", "_law_count"]) fun _ _ _ _ _ _ us hl => match us, hl with | [_, _], _ => rfl
  have F11 := fun_mk (st := s__law_some) l11 c11 k11
  have b11 := F11.binds (ps := ["_law_deck", "_law_names"]) fun _ _ _ _ _ _ us hl => match us, hl with | [_, _], _ => rfl
  have F12 := fun_mk (st := s__law_book) l12 c12 k12
  have b12 := F12.binds (ps := ["_law_deck", "_law_code", "_law_most"]) fun _ _ _ _ _ _ us hl => match us, hl with | [_, _, _], _ => rfl
  have F13 := fun_mk (st := s__law_text) l13 c13 k13
  have b13 := F13.binds (ps := ["_law_deck"]) fun _ _ _ _ _ _ us hl => match us, hl with | [_], _ => rfl
  have F14 := fun_mk (st := s__law_tree) l14 c14 k14
  have b14 := F14.binds (ps := ["_law_deck", "_law_book_here", "_law_code", "_law_deep"]) fun _ _ _ _ _ _ us hl => match us, hl with | [_, _, _, _], _ => rfl
  have F15 := fun_mk (st := s__law_walk) l15 c15 k15
  have b15 := F15.binds (ps := ["_law_tree_here"]) fun _ _ _ _ _ _ us hl => match us, hl with | [_], _ => rfl
  have F16 := fun_mk (st := s__law_is_part) l16 c16 k16
  have b16 := F16.binds (ps := ["_law_found"]) fun _ _ _ _ _ _ us hl => match us, hl with | [_], _ => rfl
  have F17 := fun_mk (st := s__law_whole) l17 c17 k17
  have b17 := F17.binds (ps := ["_law_found"]) fun _ _ _ _ _ _ us hl => match us, hl with | [_], _ => rfl
  have F18 := fun_mk (st := s__law_refused) l18 c18 k18
  have b18 := F18.binds (ps := ["_law_tree_here", "_law_place"]) fun _ _ _ _ _ _ us hl => match us, hl with | [_, _], _ => rfl
  have F19 := fun_mk (st := s__law_nowhere) l19 c19 k19
  have b19 := F19.binds (ps := ["_law_deck", "_law_place", "_law_part"]) fun _ _ _ _ _ _ us hl => match us, hl with | [_, _, _], _ => rfl
  have F20 := fun_mk (st := s_law) l20 c20 k20
  have b20 := F20.binds (ps := ["_law_script"]) fun _ _ _ _ _ _ us hl => match us, hl with | [_], _ => rfl
  let t : Adr := { a_is_text := f0, d_is_text := PySem.W.fnOf "is_text" "is_text" (defArgs s_is_text) (defBody s_is_text) (defScope s_is_text) .none kV0 dc0 pm0 an0 cd0 ct0, a_parts_of := f1, d_parts_of := PySem.W.fnOf "parts_of" "parts_of" (defArgs s_parts_of) (defBody s_parts_of) (defScope s_parts_of) .none kV1 dc1 pm1 an1 cd1 ct1, a_part_at := f2, d_part_at := PySem.W.fnOf "part_at" "part_at" (defArgs s_part_at) (defBody s_part_at) (defScope s_part_at) .none kV2 dc2 pm2 an2 cd2 ct2, a_way_to := f3, d_way_to := PySem.W.fnOf "way_to" "way_to" (defArgs s_way_to) (defBody s_way_to) (defScope s_way_to) .none kV3 dc3 pm3 an3 cd3 ct3, a_places_in := f4, d_places_in := PySem.W.fnOf "places_in" "places_in" (defArgs s_places_in) (defBody s_places_in) (defScope s_places_in) .none kV4 dc4 pm4 an4 cd4 ct4, a_placed_parts := f5, d_placed_parts := PySem.W.fnOf "placed_parts" "placed_parts" (defArgs s_placed_parts) (defBody s_placed_parts) (defScope s_placed_parts) .none kV5 dc5 pm5 an5 cd5 ct5, a_steps_below := f6, d_steps_below := PySem.W.fnOf "steps_below" "steps_below" (defArgs s_steps_below) (defBody s_steps_below) (defScope s_steps_below) .none kV6 dc6 pm6 an6 cd6 ct6, a__law_numbers := f7, d__law_numbers := PySem.W.fnOf "_law_numbers" "_law_numbers" (defArgs s__law_numbers) (defBody s__law_numbers) (defScope s__law_numbers) .none kV7 dc7 pm7 an7 cd7 ct7, a__law_draw := f8, d__law_draw := PySem.W.fnOf "_law_draw" "_law_draw" (defArgs s__law_draw) (defBody s__law_draw) (defScope s__law_draw) .none kV8 dc8 pm8 an8 cd8 ct8, a__law_name := f9, d__law_name := PySem.W.fnOf "_law_name" "_law_name" (defArgs s__law_name) (defBody s__law_name) (defScope s__law_name) .none kV9 dc9 pm9 an9 cd9 ct9, a__law_sorts := f10, d__law_sorts := PySem.W.fnOf "_law_sorts" "_law_sorts" (defArgs s__law_sorts) (defBody s__law_sorts) (defScope s__law_sorts) .none kV10 dc10 pm10 an10 cd10 ct10, a__law_some := f11, d__law_some := PySem.W.fnOf "_law_some" "_law_some" (defArgs s__law_some) (defBody s__law_some) (defScope s__law_some) .none kV11 dc11 pm11 an11 cd11 ct11, a__law_book := f12, d__law_book := PySem.W.fnOf "_law_book" "_law_book" (defArgs s__law_book) (defBody s__law_book) (defScope s__law_book) .none kV12 dc12 pm12 an12 cd12 ct12, a__law_text := f13, d__law_text := PySem.W.fnOf "_law_text" "_law_text" (defArgs s__law_text) (defBody s__law_text) (defScope s__law_text) .none kV13 dc13 pm13 an13 cd13 ct13, a__law_tree := f14, d__law_tree := PySem.W.fnOf "_law_tree" "_law_tree" (defArgs s__law_tree) (defBody s__law_tree) (defScope s__law_tree) .none kV14 dc14 pm14 an14 cd14 ct14, a__law_walk := f15, d__law_walk := PySem.W.fnOf "_law_walk" "_law_walk" (defArgs s__law_walk) (defBody s__law_walk) (defScope s__law_walk) .none kV15 dc15 pm15 an15 cd15 ct15, a__law_is_part := f16, d__law_is_part := PySem.W.fnOf "_law_is_part" "_law_is_part" (defArgs s__law_is_part) (defBody s__law_is_part) (defScope s__law_is_part) .none kV16 dc16 pm16 an16 cd16 ct16, a__law_whole := f17, d__law_whole := PySem.W.fnOf "_law_whole" "_law_whole" (defArgs s__law_whole) (defBody s__law_whole) (defScope s__law_whole) .none kV17 dc17 pm17 an17 cd17 ct17, a__law_refused := f18, d__law_refused := PySem.W.fnOf "_law_refused" "_law_refused" (defArgs s__law_refused) (defBody s__law_refused) (defScope s__law_refused) .none kV18 dc18 pm18 an18 cd18 ct18, a__law_nowhere := f19, d__law_nowhere := PySem.W.fnOf "_law_nowhere" "_law_nowhere" (defArgs s__law_nowhere) (defBody s__law_nowhere) (defScope s__law_nowhere) .none kV19 dc19 pm19 an19 cd19 ct19, a_law := f20, d_law := PySem.W.fnOf "law" "law" (defArgs s_law) (defBody s_law) (defScope s_law) .none kV20 dc20 pm20 an20 cd20 ct20, k_Ended := k_Ended, k_NoBook := k_NoBook, k_NoFit := k_NoFit, k_NoPlace := k_NoPlace, k_NoSpot := k_NoSpot, k_NoText := k_NoText, k_NotEnded := k_NotEnded, k_TagError := k_TagError }
  have T : Txt K mg t := ⟨F0, b0, PySem.W.mg_of X G a0, F1, b1, PySem.W.mg_of X G a1, F2, b2, PySem.W.mg_of X G a2, F3, b3, PySem.W.mg_of X G a3, F4, b4, PySem.W.mg_of X G a4, F5, b5, PySem.W.mg_of X G a5, F6, b6, PySem.W.mg_of X G a6, F7, b7, PySem.W.mg_of X G a7, F8, b8, PySem.W.mg_of X G a8, F9, b9, PySem.W.mg_of X G a9, F10, b10, PySem.W.mg_of X G a10, F11, b11, PySem.W.mg_of X G a11, F12, b12, PySem.W.mg_of X G a12, F13, b13, PySem.W.mg_of X G a13, F14, b14, PySem.W.mg_of X G a14, F15, b15, PySem.W.mg_of X G a15, F16, b16, PySem.W.mg_of X G a16, F17, b17, PySem.W.mg_of X G a17, F18, b18, PySem.W.mg_of X G a18, F19, b19, PySem.W.mg_of X G a19, F20, b20, PySem.W.mg_of X G a20, PySem.W.mg_none_of X G zValueError, PySem.W.mg_none_of X G zbool, PySem.W.mg_none_of X G zint, PySem.W.mg_none_of X G zisinstance, PySem.W.mg_none_of X G zlen, PySem.W.mg_none_of X G zlist, PySem.W.mg_none_of X G zrange, PySem.W.mg_none_of X G zsorted, PySem.W.mg_none_of X G zstr, PySem.W.mg_none_of X G zsum, PySem.W.mg_none_of X G ztuple, PySem.W.mg_of X G eEnded, PySem.W.mg_of X G eNoBook, PySem.W.mg_of X G eNoFit, PySem.W.mg_of X G eNoPlace, PySem.W.mg_of X G eNoSpot, PySem.W.mg_of X G eNoText, PySem.W.mg_of X G eNotEnded, PySem.W.mg_of X G eTagError, ⟨PySem.W.mg_of X G eNoPlace, xNoPlace⟩, ⟨rga_NoPlace, rgn_NoPlace, rcl_NoPlace, rbx_NoPlace, rob_NoPlace, rve_NoPlace, rs_NoPlace_Ended, rs_NoPlace_NoBook, rs_NoPlace_NoFit, rs_NoPlace_NoPlace, rs_NoPlace_NoSpot, rs_NoPlace_NoText, rs_NoPlace_NotEnded, ric_Ended, rit_Ended, ric_NoBook, rit_NoBook, ric_NoFit, rit_NoFit, ric_NoPlace, rit_NoPlace, ric_NoSpot, rit_NoSpot, ric_NoText, rit_NoText, ric_NotEnded, rit_NotEnded⟩, yNoPlace_TagError⟩
  exact ⟨_, fun s v => .of_eq rfl, fun base _ _ => ok_law T⟩
theorem walk {l : PySem.W.OpenLaw} {q : Program} {loose : List Str} {XP : (Str → Option Value) → Heap → Prop} {as : List Addr} {z t : Nat} {d : DefRec} {K : Params → PySem.W.Frag} (hn : l.most = some 63) (hdf : d.params.defaults = [])
    (hk : ∀ P, as = (K P).map (·.1)) (h0 : 0 < t)
    (F : ∀ (w : World) (mg : Str → Option Value) (fa : Addr) (h : Heap), (K w.params).In h → h.Ns mainGlobals mg → mg d.name = some (.ref fa) →
      ∃ fd : FuncData, (∀ (s : Shared) (u : Value), BindsTo s fd ⟨[u], []⟩ [("_law_script", u)]) ∧ ∀ base : Heap, (K w.params).In base → base.Ns mainGlobals mg → FnOk l.prog w (K w.params) mg base CX0 47 fa fd ["_law_script"] (sp_law (K w.params))) :
    PySem.W.WalkX q loose XP (PySem.W.X.obsZ as) (PySem.W.X.valZ K z t) l.row.toRowW d [] (fun f vs => PySem.call f vs) :=
  L2.walk_of (n := 63) (k := 47) (x := "_law_script") (CX := fun _ => CX0) (sp := fun w => sp_law (K w.params)) hn (by decide) hdf ⟨rfl, by decide, by decide⟩ hk h0 F (fun _ _ a ns hl _ hS => ⟨a, ns, rfl, hS, hl, fun _ => rfl⟩) fun _ _ _ _ _ z => z
end My
open PySem PySem.W PyProof.Rows
set_option maxRecDepth 100000 in
set_option maxHeartbeats 0 in
theorem PySem.Challenge.cw_tagmend_k20_places_in_trees_holds : PySem.Challenge.rw_tagmend_k20_places_in_trees.Holds := by
  w_on; o_law; z_head; (case hw => w_witness2)
  k_fill
  refine My.walk (l := PySem.Challenge.rw_tagmend_k20_places_in_trees) rfl rfl (fun _ => rfl) (by decide) ?F
  case F =>
    intro w mg fa h KX G hmg
    refine' My.all_mk KX G hmg ?a0 ?l0 ?c0 ?k0 ?a1 ?l1 ?c1 ?k1 ?a2 ?l2 ?c2 ?k2 ?a3 ?l3 ?c3 ?k3 ?a4 ?l4 ?c4 ?k4 ?a5 ?l5 ?c5 ?k5 ?a6 ?l6 ?c6 ?k6 ?a7 ?l7 ?c7 ?k7 ?a8 ?l8 ?c8 ?k8 ?a9 ?l9 ?c9 ?k9 ?a10 ?l10 ?c10 ?k10 ?a11 ?l11 ?c11 ?k11 ?a12 ?l12 ?c12 ?k12 ?a13 ?l13 ?c13 ?k13 ?a14 ?l14 ?c14 ?k14 ?a15 ?l15 ?c15 ?k15 ?a16 ?l16 ?c16 ?k16 ?a17 ?l17 ?c17 ?k17 ?a18 ?l18 ?c18 ?k18 ?a19 ?l19 ?c19 ?k19 ?a20 ?l20 ?c20 ?k20 ?eEnded ?eNoBook ?eNoFit ?eNoPlace ?eNoSpot ?eNoText ?eNotEnded ?eTagError ?xNoPlace ?rga_NoPlace ?rgn_NoPlace ?rcl_NoPlace ?rbx_NoPlace ?rob_NoPlace ?rve_NoPlace ?rs_NoPlace_Ended ?rs_NoPlace_NoBook ?rs_NoPlace_NoFit ?rs_NoPlace_NoPlace ?rs_NoPlace_NoSpot ?rs_NoPlace_NoText ?rs_NoPlace_NotEnded ?ric_Ended ?rit_Ended ?ric_NoBook ?rit_NoBook ?ric_NoFit ?rit_NoFit ?ric_NoPlace ?rit_NoPlace ?ric_NoSpot ?rit_NoSpot ?ric_NoText ?rit_NoText ?ric_NotEnded ?rit_NotEnded ?yNoPlace_TagError ?zValueError ?zbool ?zint ?zisinstance ?zlen ?zlist ?zrange ?zsorted ?zstr ?zsum ?ztuple
    (case a0 => k_is); (case l0 => k_is); (case c0 => k_is); (case k0 => k_is)
    (case a1 => k_is); (case l1 => k_is); (case c1 => k_is); (case k1 => k_is)
    (case a2 => k_is); (case l2 => k_is); (case c2 => k_is); (case k2 => k_is)
    (case a3 => k_is); (case l3 => k_is); (case c3 => k_is); (case k3 => k_is)
    (case a4 => k_is); (case l4 => k_is); (case c4 => k_is); (case k4 => k_is)
    (case a5 => k_is); (case l5 => k_is); (case c5 => k_is); (case k5 => k_is)
    (case a6 => k_is); (case l6 => k_is); (case c6 => k_is); (case k6 => k_is)
    (case a7 => k_is); (case l7 => k_is); (case c7 => k_is); (case k7 => k_is)
    (case a8 => k_is); (case l8 => k_is); (case c8 => k_is); (case k8 => k_is)
    (case a9 => k_is); (case l9 => k_is); (case c9 => k_is); (case k9 => k_is)
    (case a10 => k_is); (case l10 => k_is); (case c10 => k_is); (case k10 => k_is)
    (case a11 => k_is); (case l11 => k_is); (case c11 => k_is); (case k11 => k_is)
    (case a12 => k_is); (case l12 => k_is); (case c12 => k_is); (case k12 => k_is)
    (case a13 => k_is); (case l13 => k_is); (case c13 => k_is); (case k13 => k_is)
    (case a14 => k_is); (case l14 => k_is); (case c14 => k_is); (case k14 => k_is)
    (case a15 => k_is); (case l15 => k_is); (case c15 => k_is); (case k15 => k_is)
    (case a16 => k_is); (case l16 => k_is); (case c16 => k_is); (case k16 => k_is)
    (case a17 => k_is); (case l17 => k_is); (case c17 => k_is); (case k17 => k_is)
    (case a18 => k_is); (case l18 => k_is); (case c18 => k_is); (case k18 => k_is)
    (case a19 => k_is); (case l19 => k_is); (case c19 => k_is); (case k19 => k_is)
    (case a20 => k_is); (case l20 => k_is); (case c20 => k_is); (case k20 => k_is)
    (case eEnded => k_is); (case eNoBook => k_is); (case eNoFit => k_is); (case eNoPlace => k_is)
    (case eNoSpot => k_is); (case eNoText => k_is); (case eNotEnded => k_is); (case eTagError => k_is)
    (case xNoPlace => k_exc); (case rga_NoPlace => k_is); (case rgn_NoPlace => k_is); (case rcl_NoPlace => k_is)
    (case rbx_NoPlace => k_is); (case rob_NoPlace => k_is); (case rve_NoPlace => k_is); (case rs_NoPlace_Ended => k_is)
    (case rs_NoPlace_NoBook => k_is); (case rs_NoPlace_NoFit => k_is); (case rs_NoPlace_NoPlace => k_is); (case rs_NoPlace_NoSpot => k_is)
    (case rs_NoPlace_NoText => k_is); (case rs_NoPlace_NotEnded => k_is); (case ric_Ended => k_is); (case rit_Ended => k_is)
    (case ric_NoBook => k_is); (case rit_NoBook => k_is); (case ric_NoFit => k_is); (case rit_NoFit => k_is)
    (case ric_NoPlace => k_is); (case rit_NoPlace => k_is); (case ric_NoSpot => k_is); (case rit_NoSpot => k_is)
    (case ric_NoText => k_is); (case rit_NoText => k_is); (case ric_NotEnded => k_is); (case rit_NotEnded => k_is)
    (case yNoPlace_TagError => kts_exm); (case zValueError => k_is); (case zbool => k_is); (case zint => k_is)
    (case zisinstance => k_is); (case zlen => k_is); (case zlist => k_is); (case zrange => k_is)
    (case zsorted => k_is); (case zstr => k_is); (case zsum => k_is); (case ztuple => k_is)
